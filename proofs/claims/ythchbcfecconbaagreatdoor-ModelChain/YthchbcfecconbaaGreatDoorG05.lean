import Derived.Test.YthchbcfecconbaaGreatDoorG04
import Derived.Test.YthchbcfecconbaaGreatDoorG03
import Derived.WalkKit
import Derived.ProofKit
import Derived.Laws.BitsAllLaws
import Derived.Laws.Bits64
import Derived.Test.YthchbcfecconbaaGreatDoorRows
import Derived.OpenShut
import Derived.WalkLawsBesides
import Derived.Laws.EntriesVeiled
import Derived.Laws.Shifts
namespace Go.Proofs.YthchbcfecconbaaGreatDoor
open Go.RowKit
structure DM (w : World) (B : Nat) (d : Ds) (vo vh : Value) : Prop where
  r : ∀ i, i < 16 → w.cell? ⟨B, i, none⟩ = some (.int .i64 (d.regs i))
  o : w.cell? ⟨B, 16, none⟩ = some vo
  h : w.cell? ⟨B, 17, none⟩ = some vh
  q : w.cell? ⟨B, 18, none⟩ = some (.int .i64 (d.rd : Int))
  p : w.cell? ⟨B, 19, none⟩ = some (.int .i64 d.pl)
  k : w.cell? ⟨B, 20, none⟩ = some (.int .i64 d.cnt)
  c : w.cell? ⟨B, 21, none⟩ = some (.int .i64 d.oc)
  u : w.cell? ⟨B, 22, none⟩ = some (.int .i64 d.rs)
  z : ∀ j, j < 23 → w.frozen? ⟨B, j, none⟩ = false
  oo : w.ownsRow (B + 1) 108 2 vo d.own.length (pclD d.own)
  hh : w.ownsRow (B + 1) 108 2 vh d.held.length (pclD d.held)
  nb : ∀ g, vo.ownBlock = some g → vh.ownBlock ≠ some g
section
variable {w w' : World} {B : Nat} {d : Ds} {vo vh : Value}
theorem DM.lt (h : DM w B d vo vh) : B < w.heap.size := World.block_lt_of_cell? w ⟨B, 16, none⟩ h.o
theorem DM.keep {S : Nat → Prop} (h : DM w B d vo vh) (k : Keeps S w w') (hB : ¬ S B) (ho : ∀ g, vo.ownBlock = some g → ¬ S g) (hh : ∀ g, vh.ownBlock = some g → ¬ S g) : DM w' B d vo vh :=
  ⟨fun i hi => k.cell (h.r i hi) hB, k.cell h.o hB, k.cell h.h hB, k.cell h.q hB, k.cell h.p hB, k.cell h.k hB, k.cell h.c hB, k.cell h.u hB, fun j hj => (k.frozen (p := ⟨B, j, none⟩) h.lt hB).trans (h.z j hj), k.owns h.oo ho, k.owns h.hh hh, h.nb⟩
theorem DM.new (h : DM w B d vo vh) (k : Keeps (fun _ => False) w w') : DM w' B d vo vh := h.keep k (fun e => e) (fun _ _ e => e) (fun _ _ e => e)
theorem DM.bo (h : DM w B d vo vh) {g : Nat} (e : vo.ownBlock = some g) : g ≠ B := by have := owns_baseD h.oo g e; omega
theorem DM.bh (h : DM w B d vo vh) {g : Nat} (e : vh.ownBlock = some g) : g ≠ B := by have := owns_baseD h.hh g e; omega
theorem DM.set (h : DM w B d vo vh) (o : Nat) (v : Value) (d' : Ds) (ho : o < 23) (h16 : o ≠ 16) (h17 : o ≠ 17) (e1 : d'.own = d.own) (e2 : d'.held = d.held)
    (hr : ∀ i, i < 16 → (if i = o then v else .int .i64 (d.regs i)) = .int .i64 (d'.regs i)) (h18 : (if 18 = o then v else .int .i64 (d.rd : Int)) = .int .i64 (d'.rd : Int)) (h19 : (if 19 = o then v else .int .i64 d.pl) = .int .i64 d'.pl) (h20 : (if 20 = o then v else .int .i64 d.cnt) = .int .i64 d'.cnt) (h21 : (if 21 = o then v else .int .i64 d.oc) = .int .i64 d'.oc) (h22 : (if 22 = o then v else .int .i64 d.rs) = .int .i64 d'.rs) :
    DM (w.setCell ⟨B, o, none⟩ v) B d' vo vh := by
  have g : ∀ j u, j < 23 → w.cell? ⟨B, j, none⟩ = some u → (w.setCell ⟨B, o, none⟩ v).cell? ⟨B, j, none⟩ = some (if j = o then v else u) := fun j u hj e => by
    by_cases ej : j = o
    · subst ej
      rw [if_pos rfl]
      exact World.cell?_setCell_same _ _ _ e
    · rw [if_neg ej, World.cell?_setCell_other _ _ _ _ (by intro e2; injection e2 with _ e3; omega)]
      exact e
  have ke : Keeps (fun k => k = B) w (w.setCell ⟨B, o, none⟩ v) := (Keeps.refl (fun k => k = B) w).setCell (p := ⟨B, o, none⟩) (fun _ => rfl) v
  refine ⟨fun i hi => by rw [g i _ (by omega) (h.r i hi), hr i hi], by rw [g 16 _ (by omega) h.o, if_neg (fun e => h16 e.symm)], by rw [g 17 _ (by omega) h.h, if_neg (fun e => h17 e.symm)], by rw [g 18 _ (by omega) h.q, h18], by rw [g 19 _ (by omega) h.p, h19], by rw [g 20 _ (by omega) h.k, h20], by rw [g 21 _ (by omega) h.c, h21], by rw [g 22 _ (by omega) h.u, h22], fun j hj => by simp only [World.frozen?_setCell]; exact h.z j hj, ?_, ?_, h.nb⟩
  · rw [e1]; exact ke.owns h.oo (fun g e => h.bo e)
  · rw [e2]; exact ke.owns h.hh (fun g e => h.bh e)
theorem DM.setR (h : DM w B d vo vh) {i : Nat} (hi : i < 16) (x : Int) : DM (w.setCell ⟨B, i, none⟩ (.int .i64 x)) B { d with regs := fun k => if k = i then x else d.regs k } vo vh := by
  refine h.set i _ _ (by omega) (by omega) (by omega) rfl rfl (fun k hk => ?_) ?_ ?_ ?_ ?_ ?_
  · simp only
    split <;> rfl
  all_goals rw [if_neg (by omega)]
theorem DM.setD (h : DM w B d vo vh) (x : Nat) : DM (w.setCell ⟨B, 18, none⟩ (.int .i64 (x : Int))) B { d with rd := x } vo vh := by
  refine h.set 18 _ _ (by omega) (by omega) (by omega) rfl rfl (fun k hk => by rw [if_neg (by omega)]) ?_ ?_ ?_ ?_ ?_ <;> rfl
theorem DM.setP (h : DM w B d vo vh) (x : Int) : DM (w.setCell ⟨B, 19, none⟩ (.int .i64 x)) B { d with pl := x } vo vh := by
  refine h.set 19 _ _ (by omega) (by omega) (by omega) rfl rfl (fun k hk => by rw [if_neg (by omega)]) ?_ ?_ ?_ ?_ ?_ <;> rfl
theorem DM.setK (h : DM w B d vo vh) (x : Int) : DM (w.setCell ⟨B, 20, none⟩ (.int .i64 x)) B { d with cnt := x } vo vh := by
  refine h.set 20 _ _ (by omega) (by omega) (by omega) rfl rfl (fun k hk => by rw [if_neg (by omega)]) ?_ ?_ ?_ ?_ ?_ <;> rfl
theorem DM.setC (h : DM w B d vo vh) (x : Int) : DM (w.setCell ⟨B, 21, none⟩ (.int .i64 x)) B { d with oc := x } vo vh := by
  refine h.set 21 _ _ (by omega) (by omega) (by omega) rfl rfl (fun k hk => by rw [if_neg (by omega)]) ?_ ?_ ?_ ?_ ?_ <;> rfl
theorem DM.setU (h : DM w B d vo vh) (x : Int) : DM (w.setCell ⟨B, 22, none⟩ (.int .i64 x)) B { d with rs := x } vo vh := by
  refine h.set 22 _ _ (by omega) (by omega) (by omega) rfl rfl (fun k hk => by rw [if_neg (by omega)]) ?_ ?_ ?_ ?_ ?_ <;> rfl
end
def Ds.sv (d : Ds) (r : Bool) (n : Int) : Int := if r && (decide (0 ≤ n) && decide (n < 16)) then d.regs n.toNat else n
set_option maxHeartbeats 1000000 in
set_option maxRecDepth 100000 in
theorem dsource_any {w : World} {B : Nat} {d : Ds} {vo vh : Value} (h : DM w B d vo vh) (r : Bool) (n : Int) : Calls Tryz.prog 37 #[.pointer (some ⟨B, 0, none⟩), .agg #[.bool r, .int .i64 n]] w fun e w' => e = .returned (.int .i64 (d.sv r n)) ∧ Keeps (fun _ => False) w w' := by
  obtain ⟨w0, e0⟩ : ∃ w0, w0 = w.alloc (.cells #[.bool r, .int .i64 n] 60) := ⟨_, rfl⟩
  have k0 : Keeps (fun _ => False) w w0 := by rw [e0]; exact (Keeps.refl _ w).alloc _
  have m0 : CL w0 w.heap.size [.bool r, .int .i64 n] := by rw [e0]; exact CL.made w _ _
  have c0 := m0.c 0 _ rfl
  have c1 := m0.c 1 _ rfl
  have h0 := h.new k0
  clear m0 h
  unfold Ds.sv
  go_enter Tryz.func37, Tryz.ntmps37
  refine wp_seq_k (fun KK hKK => ?_)
  have hKH : Hid _ := hKK
  clear hKK
  go_wp2_with fail
  refine hKH.out _ _ ?_
  clear hKH KK
  rw [← e0]
  clear e0
  cases r
  · go_wp2; go_ret; exact ⟨rfl, k0⟩
  by_cases h1 : 0 ≤ n
  · have b1 : decide (0 ≤ n) = true := decide_eq_true h1
    by_cases h2 : n < 16
    · have b2 : decide (n < 16) = true := decide_eq_true h2
      obtain ⟨m, rfl⟩ : ∃ m : Nat, n = (m : Int) := ⟨n.toNat, by omega⟩
      have i1 : (0 : Int) ≤ (m : Int) := h1
      have i2 : (m : Int) < 16 := h2
      have cr := h0.r m (by omega)
      have e9 : d.regs ((m : Int).toNat) = d.regs m := by rw [Int.toNat_natCast]
      rw [b1, b2]
      rw [e9]
      clear h0 e9
      have i3 : decide (m < 16) = true := decide_eq_true (by omega)
      have hNE : Nonempty (KS w0) := ⟨⟨w0, Keeps.refl _ w0⟩⟩
      have p1 := ks_cell c1
      have pr := ks_cell cr
      go_wp2_with fail
      refine wp_region_ks (by kernel_rfl) (by kernel_rfl) ?_
      (repeat (go_big_quiet_step (fail)))
      refine wpQuiet_nil ?_
      rintro _ ⟨u, rfl⟩
      have ku := k0.trans u.property
      generalize u.val = wu at *
      go_wp2
      go_ret
      exact ⟨rfl, ku⟩
    · have b2 : decide (n < 16) = false := decide_eq_false h2
      rw [b1, b2]
      go_wp2; go_ret; exact ⟨rfl, k0⟩
  · have b1 : decide (0 ≤ n) = false := decide_eq_false h1
    rw [b1]
    go_wp2; go_ret; exact ⟨rfl, k0⟩
set_option maxHeartbeats 1000000 in
set_option maxRecDepth 100000 in
theorem dobject_any {w : World} {B : Nat} {d : Ds} {vo vh : Value} (h : DM w B d vo vh) (r : Bool) (n : Int) (a : Option Addr) (N cap : Nat) : Calls Tryz.prog 60 #[.pointer (some ⟨B, 0, none⟩), .agg #[.bool r, .int .i64 n], .slice a N cap] w fun e w' => e = .returned (.tuple #[.int .i64 (if 0 ≤ d.sv r n ∧ d.sv r n < N then d.sv r n else 0), .bool (decide (0 ≤ d.sv r n ∧ d.sv r n < N))]) ∧ Keeps (fun _ => False) w w' := by
  obtain ⟨w0, e0⟩ : ∃ w0, w0 = w.alloc (.cells #[.bool r, .int .i64 n] 60) := ⟨_, rfl⟩
  have k0 : Keeps (fun _ => False) w w0 := by rw [e0]; exact (Keeps.refl _ w).alloc _
  have m0 : CL w0 w.heap.size [.bool r, .int .i64 n] := by rw [e0]; exact CL.made w _ _
  have c0 := m0.c 0 _ rfl
  have c1 := m0.c 1 _ rfl
  have hs := dsource_any (h.new k0) r n
  clear m0 h
  generalize d.sv r n = x at *
  go_enter Tryz.func60, Tryz.ntmps60
  refine wp_seq_k (fun KK hKK => ?_)
  have hKH : Hid _ := hKK
  clear hKK
  go_wp2_with fail
  refine hKH.out _ _ ?_
  clear hKH KK
  rw [← e0]
  clear e0
  by_cases h1 : x < 0
  · have b1 : decide (x < 0) = true := decide_eq_true h1
    rw [if_neg (by omega), decide_eq_false (by omega)]
    go_wp2_with (go_at_call 37; refine hs.mono ?_; clear hs; rintro e w1 ⟨rfl, k1⟩)
    go_ret2
    exact ⟨rfl, k0.trans k1⟩
  · have b1 : decide (x < 0) = false := decide_eq_false h1
    by_cases h2 : x < (N : Int)
    · have b2 : decide ((N : Int) ≤ x) = false := decide_eq_false (by omega)
      rw [if_pos (by omega), decide_eq_true (by omega)]
      go_wp2_with (go_at_call 37; refine hs.mono ?_; clear hs; rintro e w1 ⟨rfl, k1⟩)
      go_ret2
      exact ⟨rfl, k0.trans k1⟩
    · have b2 : decide ((N : Int) ≤ x) = true := decide_eq_true (by omega)
      rw [if_neg (by omega), decide_eq_false (by omega)]
      go_wp2_with (go_at_call 37; refine hs.mono ?_; clear hs; rintro e w1 ⟨rfl, k1⟩)
      go_ret2
      exact ⟨rfl, k0.trans k1⟩
end Go.Proofs.YthchbcfecconbaaGreatDoor

namespace Go.Proofs.YthchbcfecconbaaGreatDoor
open Go.RowKit
attribute [local go_sem] Oper.semAt_some run_store_nf run_store_f
def Ins.jmp (q : Ins) : Bool := q.code == 7 || q.code == 8
def fwd (l : List Ins) : Nat → Bool
  | 0 => true
  | m + 1 => if ((l.getD (l.length - (m + 1)) ins0).jmp && decide ((l.getD (l.length - (m + 1)) ins0).to ≤ ((l.length - (m + 1) : Nat) : Int))) = true then false else fwd l m
def fwB (l : List Ins) : Bool := if (chk l).1 = 0 then fwd l l.length else false
end Go.Proofs.YthchbcfecconbaaGreatDoor

namespace Go.Proofs.YthchbcfecconbaaGreatDoor
def Wk (n : Nat) (nx : Nat → List Nat) : Nat → Nat → Nat → Prop
  | 0, p, q => p = q
  | k + 1, p, q => p < n ∧ ∃ r, r ∈ nx p ∧ Wk n nx k r q
inductive Ht (n : Nat) (nx : Nat → List Nat) : Nat → Nat → Prop
  | fin : Ht n nx n 0
  | step (p m : Nat) (g : Nat → Nat) (hp : p < n) (hs : ∀ q, q ∈ nx p → Ht n nx q (g q)) (hl : ∀ q, q ∈ nx p → g q ≤ m) (hm : m = 0 ∨ ∃ q, q ∈ nx p ∧ g q = m) : Ht n nx p (m + 1)
section
variable {n : Nat} {nx : Nat → List Nat}
theorem Ht.no {p h : Nat} (H : Ht n nx p h) : ∀ k q, h ≤ k → q < n → ¬ Wk n nx k p q := by
  induction H with
  | fin =>
    intro k q _ hq hw
    cases k with
    | zero => have hw : n = q := hw; omega
    | succ k => have := hw.1; omega
  | step p m g hp hs hl hm ih =>
    intro k q hk hq hw
    cases k with
    | zero => omega
    | succ k =>
      obtain ⟨_, r, hr, hw⟩ := hw
      exact ih r hr k q (by have := hl r hr; omega) hq hw
theorem Ht.yes {p h : Nat} (H : Ht n nx p h) : ∀ m, h = m + 1 → ∃ q, q < n ∧ Wk n nx m p q := by
  induction H with
  | fin => intro m e; omega
  | step p m g hp hs hl hm ih =>
    intro m' e
    obtain rfl : m = m' := by omega
    rcases hm with rfl | ⟨q, hq, e⟩
    · exact ⟨p, hp, rfl⟩
    · cases m with
      | zero => exact ⟨p, hp, rfl⟩
      | succ m'' =>
        obtain ⟨r, hr, hw⟩ := ih q hq m'' e
        exact ⟨r, hr, hp, q, hq, hw⟩
theorem Ht.uniq {p h h' : Nat} (H : Ht n nx p h) (H' : Ht n nx p h') : h = h' := by
  rcases Nat.lt_trichotomy h h' with l | e | l
  · exfalso
    obtain ⟨m, rfl⟩ : ∃ m, h' = m + 1 := ⟨h' - 1, by omega⟩
    obtain ⟨q, hq, hw⟩ := H'.yes m rfl
    exact H.no m q (by omega) hq hw
  · exact e
  · exfalso
    obtain ⟨m, rfl⟩ : ∃ m, h = m + 1 := ⟨h - 1, by omega⟩
    obtain ⟨q, hq, hw⟩ := H.yes m rfl
    exact H'.no m q (by omega) hq hw
theorem Ht.each {p h : Nat} (H : Ht n nx p h) : ∀ j, 1 ≤ j → j ≤ h → ∃ q, q < n ∧ Ht n nx q j := by
  induction H with
  | fin => intro j h1 h2; omega
  | step p m g hp hs hl hm ih =>
    intro j h1 h2
    by_cases e : j = m + 1
    · subst e; exact ⟨p, hp, .step p m g hp hs hl hm⟩
    · rcases hm with rfl | ⟨q, hq, e'⟩
      · omega
      · exact ih q hq j h1 (by omega)
theorem Wk.trans {i j p q r : Nat} (h : Wk n nx i p q) (k : Wk n nx j q r) : Wk n nx (i + j) p r := by
  induction i generalizing p with
  | zero => obtain rfl : p = q := h; rw [Nat.zero_add]; exact k
  | succ i ih =>
    rw [show i + 1 + j = (i + j) + 1 by omega]
    obtain ⟨hp, s, hs, hw⟩ := h
    exact ⟨hp, s, hs, ih hw⟩
theorem Wk.pre {i j p r : Nat} (h : Wk n nx (i + j) p r) (hr : r < n) : ∃ q, q < n ∧ Wk n nx i p q := by
  induction i generalizing p with
  | zero =>
    rw [Nat.zero_add] at h
    cases j with
    | zero => obtain rfl : p = r := h; exact ⟨p, hr, rfl⟩
    | succ j => exact ⟨p, h.1, rfl⟩
  | succ i ih =>
    rw [show i + 1 + j = (i + j) + 1 by omega] at h
    obtain ⟨hp, s, hs, hw⟩ := h
    obtain ⟨q, hq, hw⟩ := ih hw
    exact ⟨q, hq, hp, s, hs, hw⟩
end
end Go.Proofs.YthchbcfecconbaaGreatDoor

namespace Go.Proofs.YthchbcfecconbaaGreatDoor
open Go.RowKit
attribute [local go_sem] Oper.semAt_some run_store_nf run_store_f
def NewB (w : World) (v : Value) : Prop := ∀ a n c, v = .slice a n c → ∀ b off, a = some ⟨b, off, none⟩ → w.heap.size ≤ b
theorem NewB.mk {w : World} {x n c : Nat} (h : w.heap.size ≤ x) : NewB w (.slice (some ⟨x, 0, none⟩) n c) := fun _ _ _ e b off h' => by
  injection e with e1 _ _
  rw [← e1] at h'
  injection h' with h'
  injection h' with h1 _ _
  omega
theorem NewB.nil {w : World} {n c : Nat} : NewB w (.slice none n c) := fun _ _ _ e b off h' => by
  injection e with e1 _ _
  rw [← e1] at h'
  cases h'
def Ins.nxt (q : Ins) (p : Int) : List Int := if q.code = 8 then [q.to] else if q.code = 7 then [q.to, p + 1] else if q.code = 9 ∨ q.code = 10 then [] else [p + 1]
end Go.Proofs.YthchbcfecconbaaGreatDoor

namespace Go.Proofs.YthchbcfecconbaaGreatDoor
open Go.RowKit
attribute [local go_sem] Oper.semAt_some run_store_nf run_store_f
def nx (l : List Ins) (p : Nat) : List Nat := ((l.getD p ins0).nxt p).map Int.toNat
theorem fb_none {l : List Ins} {n : Int} : ∀ m, firstBad l n m = none → ∀ p, l.length - m ≤ p → p < l.length → m ≤ l.length → (l.getD p ins0).can n = true
  | 0, _, p, h1, h2, _ => by omega
  | m + 1, h, p, h1, h2, h3 => by
    unfold firstBad at h
    split at h
    · cases h
    · rename_i hc
      by_cases e : p = l.length - (m + 1)
      · subst e; simpa using hc
      · exact fb_none m h p (by omega) h2 (by omega)
theorem chk_ok {l : List Ins} (h : (chk l).1 = 0) : l.length ≤ 64 ∧ ∀ p, p < l.length → (l.getD p ins0).can l.length = true := by
  unfold chk at h
  split at h
  · cases h
  · refine ⟨by omega, fun p hp => ?_⟩
    have hb : firstBad l l.length l.length = none := by
      cases e : firstBad l l.length l.length with
      | none => rfl
      | some i => rw [e] at h; cases h
    exact fb_none _ hb p (by omega) hp (Nat.le_refl _)
theorem can_to {q : Ins} {n : Int} (h : q.can n = true) (hj : q.code = 7 ∨ q.code = 8) : 0 ≤ q.to ∧ q.to ≤ n := by
  unfold Ins.can at h
  have hk : kdL q.code = true := by
    unfold kdL
    rcases hj with e | e <;> rw [e] <;> rfl
  rw [hk] at h
  unfold btw at h
  simp only [Bool.and_eq_true, decide_eq_true_eq] at h
  simp only [if_true, Bool.and_eq_true, decide_eq_true_eq] at h
  exact h.1.2.1.2
theorem Ht.mk {n : Nat} {nx : Nat → List Nat} {p m : Nat} (hp : p < n) (h1 : ∀ q, q ∈ nx p → ∃ h, Ht n nx q h ∧ h ≤ m) (h2 : m = 0 ∨ ∃ q, q ∈ nx p ∧ Ht n nx q m) : Ht n nx p (m + 1) := by
  have ex : ∀ q, ∃ h, q ∈ nx p → Ht n nx q h ∧ h ≤ m := fun q => by
    by_cases e : q ∈ nx p
    · obtain ⟨h, hh⟩ := h1 q e
      exact ⟨h, fun _ => hh⟩
    · exact ⟨0, fun e' => absurd e' e⟩
  have hc := fun q => Classical.choose_spec (ex q)
  refine .step p m (fun q => Classical.choose (ex q)) hp (fun q hq => (hc q hq).1) (fun q hq => (hc q hq).2) ?_
  rcases h2 with h2 | ⟨q, hq, h⟩
  · exact .inl h2
  · exact .inr ⟨q, hq, (hc q hq).1.uniq h⟩
structure WB (w : World) (B : Nat) (v : Value) (L : Nat → Int) : Prop where
  s : w.cell? ⟨B, 0, none⟩ = some v
  c : ∀ i, i < 64 → w.cell? ⟨B, 1 + i, none⟩ = some (.int .i64 (L i))
  z : ∀ i, i < 64 → w.frozen? ⟨B, 1 + i, none⟩ = false
theorem WB.keep {w w' : World} {B : Nat} {v : Value} {L : Nat → Int} {S : Nat → Prop} (h : WB w B v L) (k : Keeps S w w') (hS : ¬ S B) : WB w' B v L :=
  ⟨k.cell h.s hS, fun i hi => k.cell (h.c i hi) hS, fun i hi => (k.frozen (p := ⟨B, 1 + i, none⟩) (World.block_lt_of_cell? w ⟨B, 0, none⟩ h.s) hS).trans (h.z i hi)⟩
theorem WB.set {w : World} {B : Nat} {v : Value} {L : Nat → Int} (h : WB w B v L) {p : Nat} (hp : p < 64) (x : Int) : WB (w.setCell ⟨B, 1 + p, none⟩ (.int .i64 x)) B v (fun i => if i = p then x else L i) := by
  refine ⟨?_, fun i hi => ?_, fun i hi => ?_⟩
  · rw [World.cell?_setCell_other _ _ _ _ (by intro e2; injection e2 with _ e3; omega)]
    exact h.s
  · by_cases e : i = p
    · subst e
      rw [if_pos rfl]
      exact World.cell?_setCell_same _ _ _ (h.c i hi)
    · rw [if_neg e, World.cell?_setCell_other _ _ _ _ (by intro e2; injection e2 with _ e3; omega)]
      exact h.c i hi
  · simp only [World.frozen?_setCell]
    exact h.z i hi
def Kn (n : Nat) (nx : Nat → List Nat) (L : Nat → Int) : Prop := ∀ p, p < n → L p = 0 ∨ L p = -1 ∨ ∃ h : Nat, 0 < h ∧ L p = (h : Int) ∧ Ht n nx p h
def Circ (n : Nat) (nx : Nat → List Nat) : Prop := ∃ i p k, p < n ∧ Wk n nx i 0 p ∧ Wk n nx (k + 1) p p
structure FrG (n : Nat) (nx : Nat → List Nat) (B : Nat) (v : Value) (L L' : Nat → Int) (w w' : World) : Prop where
  b : WB w' B v L'
  k : Keeps (fun k => k = B) w w'
  kn : Kn n nx L'
  m : ∀ q, q < n → L' q = -1 → L q = -1
  o : ∀ q, q < n → L' q = 0 → L q = 0
theorem FrG.trans {n : Nat} {nx : Nat → List Nat} {B : Nat} {v : Value} {L L' L'' : Nat → Int} {w w' w'' : World} (h : FrG n nx B v L L' w w') (g : FrG n nx B v L' L'' w' w'') : FrG n nx B v L L'' w w'' :=
  ⟨g.b, h.k.trans g.k, g.kn, fun q hq e => h.m q hq (g.m q hq e), fun q hq e => h.o q hq (g.o q hq e)⟩
def FromP (n : Nat) (nx : Nat → List Nat) (B : Nat) (v : Value) (L : Nat → Int) (w : World) (p : Nat) (e : Ending) (w' : World) : Prop :=
  (∃ h : Nat, e = .returned (.tuple #[.int .i64 (h : Int), .bool true]) ∧ Ht n nx p h ∧ ∃ L', FrG n nx B v L L' w w') ∨ (∃ x, e = .returned (.tuple #[.int .i64 x, .bool false]) ∧ Circ n nx ∧ Keeps (fun k => k = B) w w')
def Far (n : Nat) (nx : Nat → List Nat) (ys : List Nat) (k m : Nat) : Prop := (∀ q, q ∈ ys.take k → ∃ h, Ht n nx q h ∧ h ≤ m) ∧ (m = 0 ∨ ∃ q, q ∈ ys.take k ∧ Ht n nx q m)
theorem Far.next {n : Nat} {nx : Nat → List Nat} {ys : List Nat} {k m y h : Nat} (H : Far n nx ys k m) (hy : ys[k]? = some y) (hh : Ht n nx y h) : Far n nx ys (k + 1) (if m < h then h else m) := by
  have e : ys.take (k + 1) = ys.take k ++ [y] := by
    rw [List.take_add_one, hy]; rfl
  unfold Far
  rw [e]
  refine ⟨fun q hq => ?_, ?_⟩
  · rcases List.mem_append.1 hq with hq | hq
    · obtain ⟨g, hg, hl⟩ := H.1 q hq
      exact ⟨g, hg, by split <;> omega⟩
    · obtain rfl : q = y := by simpa using hq
      exact ⟨h, hh, by split <;> omega⟩
  · split
    · exact .inr ⟨y, List.mem_append.2 (.inr (by simp)), hh⟩
    · rcases H.2 with H2 | ⟨q, hq, hg⟩
      · exact .inl H2
      · exact .inr ⟨q, List.mem_append.2 (.inl hq), hg⟩
structure LpR (n : Nat) (nx : Nat → List Nat) (B : Nat) (v : Value) (L : Nat → Int) (w Wr : World) (ys : List Nat) (k m : Nat) : Prop where
  r : ∃ Lr, FrG n nx B v L Lr w Wr
  f : Far n nx ys k m
  kl : k ≤ ys.length
end Go.Proofs.YthchbcfecconbaaGreatDoor

namespace Go.Proofs.YthchbcfecconbaaGreatDoor
open Go.RowKit
def six (b : Int) : Nat := (b % 64).toNat
def ap (op a b : Int) : Int :=
  if op = 1 then wrap64 (a + b) else if op = 2 then wrap64 (a - b) else if op = 3 then wrap64 (a * b)
  else if op = 4 then (if b = 0 then 0 else wrap64 (a.tdiv b))
  else if op = 5 then (if b = 0 then a else a.tmod b)
  else if op = 6 then bits .and .i64 a b else if op = 7 then bits .or .i64 a b else if op = 8 then bits .xor .i64 a b
  else if op = 9 then wrap64 (a * 2 ^ six b) else if op = 10 then a / 2 ^ six b
  else if op = 11 then (if b < a then b else a) else if op = 12 then (if a < b then b else a) else 0
theorem ap1 (a b : Int) : ap 1 a b = wrap64 (a + b) := rfl
theorem ap2 (a b : Int) : ap 2 a b = wrap64 (a - b) := rfl
theorem ap3 (a b : Int) : ap 3 a b = wrap64 (a * b) := rfl
theorem ap4 (a b : Int) : ap 4 a b = if b = 0 then 0 else wrap64 (a.tdiv b) := rfl
theorem ap5 (a b : Int) : ap 5 a b = if b = 0 then a else a.tmod b := rfl
theorem ap6 (a b : Int) : ap 6 a b = bits .and .i64 a b := rfl
theorem ap7 (a b : Int) : ap 7 a b = bits .or .i64 a b := rfl
theorem ap8 (a b : Int) : ap 8 a b = bits .xor .i64 a b := rfl
theorem ap9 (a b : Int) : ap 9 a b = wrap64 (a * 2 ^ six b) := rfl
theorem ap10 (a b : Int) : ap 10 a b = a / 2 ^ six b := rfl
theorem ap11 (a b : Int) : ap 11 a b = if b < a then b else a := rfl
theorem ap12 (a b : Int) : ap 12 a b = if a < b then b else a := rfl
theorem six_lt (b : Int) : six b < 64 := by unfold six; omega
theorem mask6 (b : Int) : bits .and .u64 (IntKind.u64.wrap b) 63 = ((six b : Nat) : Int) := by
  have h0 : 0 ≤ IntKind.u64.wrap b := by rw [IntKind.wrap_u64]; omega
  have h1 : IntKind.u64.wrap b < 18446744073709551616 := by rw [IntKind.wrap_u64]; omega
  rw [u64_and _ _ h0 h1 (by decide) (by decide)]
  have e : (63 : Int).toNat = 63 := rfl
  rw [e, nat_mask6, IntKind.wrap_u64]
  unfold six
  congr 1
  omega
def Kept (B : Nat) (W w : World) : Prop := Below B W w ∧ B ≤ w.heap.size
theorem Kept.step {B : Nat} {W w w' : World} (h : Kept B W w) (k : Below w.heap.size w w') : Kept B W w' :=
  ⟨h.1.trans (k.mono h.2), Nat.le_trans h.2 k.size⟩
theorem Kept.start (w : World) (o : Obj) : Kept (w.heap.size + 1) (w.alloc o) (w.alloc o) := ⟨Below.refl _ _, by simp⟩
theorem Kept.cell {B : Nat} {W w : World} (h : Kept B W w) {p : Addr} (hp : p.block < B) : w.cell? p = W.cell? p := h.1.cell hp
theorem Kept.below {B : Nat} {W w : World} (h : Kept B W w) : Below B W w := h.1
end Go.Proofs.YthchbcfecconbaaGreatDoor

namespace Go.Proofs.YthchbcfecconbaaGreatDoor
open Go.ChangeShapes Go.WideShapes Go.ChangeAt Go.RowKit
theorem shift_any (b : Int) (w : World) :
    Calls Tryz.prog 88 #[.int .i64 b] w fun e w' => e = .returned (.int .u64 ((six b : Nat) : Int)) ∧ w' = w := by
  go_enter Tryz.func88, Tryz.ntmps88
  go_wp2
  go_ret
  exact ⟨congrArg (fun n => Ending.returned (.int .u64 n)) (mask6 b), rfl⟩
theorem cAdd (a b : Int) (w : World) : Calls Tryz.prog 79 #[.int .i64 a, .int .i64 b] w fun e w' => e = .returned (.int .i64 (ap 1 a b)) ∧ w' = w := by
  go_enter Tryz.func79, Tryz.ntmps79
  go_wp2
  go_ret
  exact ⟨rfl, rfl⟩
theorem cSub (a b : Int) (w : World) : Calls Tryz.prog 80 #[.int .i64 a, .int .i64 b] w fun e w' => e = .returned (.int .i64 (ap 2 a b)) ∧ w' = w := by
  go_enter Tryz.func80, Tryz.ntmps80
  go_wp2
  go_ret
  exact ⟨rfl, rfl⟩
theorem cMul (a b : Int) (w : World) : Calls Tryz.prog 81 #[.int .i64 a, .int .i64 b] w fun e w' => e = .returned (.int .i64 (ap 3 a b)) ∧ w' = w := by
  go_enter Tryz.func81, Tryz.ntmps81
  go_wp2
  go_ret
  exact ⟨rfl, rfl⟩
theorem cDiv (a b : Int) (w : World) : Calls Tryz.prog 82 #[.int .i64 a, .int .i64 b] w fun e w' => e = .returned (.int .i64 (ap 4 a b)) ∧ w' = w := by
  rw [ap4]
  by_cases h : b = 0
  · rw [if_pos h]
    have hb : (b == 0) = true := by simp [h]
    clear h
    go_enter Tryz.func82, Tryz.ntmps82
    go_wp2
    go_ret
    exact ⟨rfl, rfl⟩
  · rw [if_neg h]
    have hb : (b == 0) = false := by simp [h]
    go_enter Tryz.func82, Tryz.ntmps82
    go_wp2
    go_ret
    exact ⟨rfl, rfl⟩
theorem cRem (a b : Int) (w : World) : Calls Tryz.prog 83 #[.int .i64 a, .int .i64 b] w fun e w' => e = .returned (.int .i64 (ap 5 a b)) ∧ w' = w := by
  rw [ap5]
  by_cases h : b = 0
  · rw [if_pos h]
    have hb : (b == 0) = true := by simp [h]
    clear h
    go_enter Tryz.func83, Tryz.ntmps83
    go_wp2
    go_ret
    exact ⟨rfl, rfl⟩
  · rw [if_neg h]
    have hb : (b == 0) = false := by simp [h]
    go_enter Tryz.func83, Tryz.ntmps83
    go_wp2
    go_ret
    exact ⟨rfl, rfl⟩
theorem cAnd (a b : Int) (w : World) : Calls Tryz.prog 84 #[.int .i64 a, .int .i64 b] w fun e w' => e = .returned (.int .i64 (ap 6 a b)) ∧ w' = w := by
  go_enter Tryz.func84, Tryz.ntmps84
  go_wp2
  go_ret
  exact ⟨rfl, rfl⟩
theorem cOr (a b : Int) (w : World) : Calls Tryz.prog 85 #[.int .i64 a, .int .i64 b] w fun e w' => e = .returned (.int .i64 (ap 7 a b)) ∧ w' = w := by
  go_enter Tryz.func85, Tryz.ntmps85
  go_wp2
  go_ret
  exact ⟨rfl, rfl⟩
theorem cXor (a b : Int) (w : World) : Calls Tryz.prog 86 #[.int .i64 a, .int .i64 b] w fun e w' => e = .returned (.int .i64 (ap 8 a b)) ∧ w' = w := by
  go_enter Tryz.func86, Tryz.ntmps86
  go_wp2
  go_ret
  exact ⟨rfl, rfl⟩
theorem cShl (a b : Int) (w : World) : Calls Tryz.prog 87 #[.int .i64 a, .int .i64 b] w fun e w' => e = .returned (.int .i64 (ap 9 a b)) ∧ w' = w := by
  have h6 := six_lt b
  have hs : Op.shift .shl .i64 a .u64 ((six b : Nat) : Int) = pure (.int .i64 (ap 9 a b)) := by
    rw [shift_shl_i64 _ _ _ (by omega) (by omega), IntWalk.i64_left, Int.toNat_natCast]; rfl
  go_enter Tryz.func87, Tryz.ntmps87
  go_wp2_with (go_at_call 88; refine (shift_any _ _).mono ?_; rintro e w' ⟨rfl, rfl⟩)
  go_ret
  exact ⟨rfl, rfl⟩
theorem cShr (a b : Int) (w : World) : Calls Tryz.prog 89 #[.int .i64 a, .int .i64 b] w fun e w' => e = .returned (.int .i64 (ap 10 a b)) ∧ w' = w := by
  have h6 := six_lt b
  have hs : Op.shift .shr .i64 a .u64 ((six b : Nat) : Int) = pure (.int .i64 (ap 10 a b)) := by
    rw [shift_shr_i64 _ _ _ (by omega) (by omega), Int.toNat_natCast]; rfl
  go_enter Tryz.func89, Tryz.ntmps89
  go_wp2_with (go_at_call 88; refine (shift_any _ _).mono ?_; rintro e w' ⟨rfl, rfl⟩)
  go_ret
  exact ⟨rfl, rfl⟩
theorem cMin (a b : Int) (w : World) : Calls Tryz.prog 90 #[.int .i64 a, .int .i64 b] w fun e w' => e = .returned (.int .i64 (ap 11 a b)) ∧ w' = w := by
  rw [ap11]
  by_cases h : b < a
  · rw [if_pos h]
    go_enter Tryz.func90, Tryz.ntmps90
    go_wp2
    go_ret
    exact ⟨rfl, rfl⟩
  · rw [if_neg h]
    go_enter Tryz.func90, Tryz.ntmps90
    go_wp2
    go_ret
    exact ⟨rfl, rfl⟩
theorem cMax (a b : Int) (w : World) : Calls Tryz.prog 91 #[.int .i64 a, .int .i64 b] w fun e w' => e = .returned (.int .i64 (ap 12 a b)) ∧ w' = w := by
  rw [ap12]
  by_cases h : a < b
  · rw [if_pos h]
    go_enter Tryz.func91, Tryz.ntmps91
    go_wp2
    go_ret
    exact ⟨rfl, rfl⟩
  · rw [if_neg h]
    go_enter Tryz.func91, Tryz.ntmps91
    go_wp2
    go_ret
    exact ⟨rfl, rfl⟩
end Go.Proofs.YthchbcfecconbaaGreatDoor

namespace Go.Proofs.YthchbcfecconbaaGreatDoor
open Go.ChangeShapes Go.WideShapes Go.ChangeAt Go.RowKit
set_option maxHeartbeats 400000 in
theorem apply1 (a b : Int) (w : World) :
    Calls Tryz.prog 54 #[.int .i64 1, .int .i64 a, .int .i64 b] w fun e w' => e = .returned (.tuple #[.int .i64 (ap 1 a b), .int .i64 0]) ∧ Below w.heap.size w w' := by
  go_enter Tryz.func54, Tryz.ntmps54
  go_wp2_with (first | (go_at_call 79; refine (cAdd _ _ _).mono ?_; rintro e w' ⟨rfl, rfl⟩) | go_in)
  go_ret2
  exact ⟨rfl, (Below.refl _ _).alloc (Nat.le_refl _) _⟩
set_option maxHeartbeats 400000 in
theorem apply2 (a b : Int) (w : World) :
    Calls Tryz.prog 54 #[.int .i64 2, .int .i64 a, .int .i64 b] w fun e w' => e = .returned (.tuple #[.int .i64 (ap 2 a b), .int .i64 0]) ∧ Below w.heap.size w w' := by
  go_enter Tryz.func54, Tryz.ntmps54
  go_wp2_with (first | (go_at_call 80; refine (cSub _ _ _).mono ?_; rintro e w' ⟨rfl, rfl⟩) | go_in)
  go_ret2
  exact ⟨rfl, (Below.refl _ _).alloc (Nat.le_refl _) _⟩
set_option maxHeartbeats 400000 in
theorem apply3 (a b : Int) (w : World) :
    Calls Tryz.prog 54 #[.int .i64 3, .int .i64 a, .int .i64 b] w fun e w' => e = .returned (.tuple #[.int .i64 (ap 3 a b), .int .i64 0]) ∧ Below w.heap.size w w' := by
  go_enter Tryz.func54, Tryz.ntmps54
  go_wp2_with (first | (go_at_call 81; refine (cMul _ _ _).mono ?_; rintro e w' ⟨rfl, rfl⟩) | go_in)
  go_ret2
  exact ⟨rfl, (Below.refl _ _).alloc (Nat.le_refl _) _⟩
set_option maxHeartbeats 400000 in
theorem apply4 (a b : Int) (w : World) :
    Calls Tryz.prog 54 #[.int .i64 4, .int .i64 a, .int .i64 b] w fun e w' => e = .returned (.tuple #[.int .i64 (ap 4 a b), .int .i64 0]) ∧ Below w.heap.size w w' := by
  go_enter Tryz.func54, Tryz.ntmps54
  go_wp2_with (first | (go_at_call 82; refine (cDiv _ _ _).mono ?_; rintro e w' ⟨rfl, rfl⟩) | go_in)
  go_ret2
  exact ⟨rfl, (Below.refl _ _).alloc (Nat.le_refl _) _⟩
set_option maxHeartbeats 400000 in
theorem apply5 (a b : Int) (w : World) :
    Calls Tryz.prog 54 #[.int .i64 5, .int .i64 a, .int .i64 b] w fun e w' => e = .returned (.tuple #[.int .i64 (ap 5 a b), .int .i64 0]) ∧ Below w.heap.size w w' := by
  go_enter Tryz.func54, Tryz.ntmps54
  go_wp2_with (first | (go_at_call 83; refine (cRem _ _ _).mono ?_; rintro e w' ⟨rfl, rfl⟩) | go_in)
  go_ret2
  exact ⟨rfl, (Below.refl _ _).alloc (Nat.le_refl _) _⟩
set_option maxHeartbeats 400000 in
theorem apply6 (a b : Int) (w : World) :
    Calls Tryz.prog 54 #[.int .i64 6, .int .i64 a, .int .i64 b] w fun e w' => e = .returned (.tuple #[.int .i64 (ap 6 a b), .int .i64 0]) ∧ Below w.heap.size w w' := by
  go_enter Tryz.func54, Tryz.ntmps54
  go_wp2_with (first | (go_at_call 84; refine (cAnd _ _ _).mono ?_; rintro e w' ⟨rfl, rfl⟩) | go_in)
  go_ret2
  exact ⟨rfl, (Below.refl _ _).alloc (Nat.le_refl _) _⟩
set_option maxHeartbeats 400000 in
theorem apply7 (a b : Int) (w : World) :
    Calls Tryz.prog 54 #[.int .i64 7, .int .i64 a, .int .i64 b] w fun e w' => e = .returned (.tuple #[.int .i64 (ap 7 a b), .int .i64 0]) ∧ Below w.heap.size w w' := by
  go_enter Tryz.func54, Tryz.ntmps54
  go_wp2_with (first | (go_at_call 85; refine (cOr _ _ _).mono ?_; rintro e w' ⟨rfl, rfl⟩) | go_in)
  go_ret2
  exact ⟨rfl, (Below.refl _ _).alloc (Nat.le_refl _) _⟩
set_option maxHeartbeats 400000 in
theorem apply8 (a b : Int) (w : World) :
    Calls Tryz.prog 54 #[.int .i64 8, .int .i64 a, .int .i64 b] w fun e w' => e = .returned (.tuple #[.int .i64 (ap 8 a b), .int .i64 0]) ∧ Below w.heap.size w w' := by
  go_enter Tryz.func54, Tryz.ntmps54
  go_wp2_with (first | (go_at_call 86; refine (cXor _ _ _).mono ?_; rintro e w' ⟨rfl, rfl⟩) | go_in)
  go_ret2
  exact ⟨rfl, (Below.refl _ _).alloc (Nat.le_refl _) _⟩
set_option maxHeartbeats 400000 in
theorem apply9 (a b : Int) (w : World) :
    Calls Tryz.prog 54 #[.int .i64 9, .int .i64 a, .int .i64 b] w fun e w' => e = .returned (.tuple #[.int .i64 (ap 9 a b), .int .i64 0]) ∧ Below w.heap.size w w' := by
  go_enter Tryz.func54, Tryz.ntmps54
  go_wp2_with (first | (go_at_call 87; refine (cShl _ _ _).mono ?_; rintro e w' ⟨rfl, rfl⟩) | go_in)
  go_ret2
  exact ⟨rfl, (Below.refl _ _).alloc (Nat.le_refl _) _⟩
set_option maxHeartbeats 400000 in
theorem apply10 (a b : Int) (w : World) :
    Calls Tryz.prog 54 #[.int .i64 10, .int .i64 a, .int .i64 b] w fun e w' => e = .returned (.tuple #[.int .i64 (ap 10 a b), .int .i64 0]) ∧ Below w.heap.size w w' := by
  go_enter Tryz.func54, Tryz.ntmps54
  go_wp2_with (first | (go_at_call 89; refine (cShr _ _ _).mono ?_; rintro e w' ⟨rfl, rfl⟩) | go_in)
  go_ret2
  exact ⟨rfl, (Below.refl _ _).alloc (Nat.le_refl _) _⟩
set_option maxHeartbeats 400000 in
theorem apply11 (a b : Int) (w : World) :
    Calls Tryz.prog 54 #[.int .i64 11, .int .i64 a, .int .i64 b] w fun e w' => e = .returned (.tuple #[.int .i64 (ap 11 a b), .int .i64 0]) ∧ Below w.heap.size w w' := by
  go_enter Tryz.func54, Tryz.ntmps54
  go_wp2_with (first | (go_at_call 90; refine (cMin _ _ _).mono ?_; rintro e w' ⟨rfl, rfl⟩) | go_in)
  go_ret2
  exact ⟨rfl, (Below.refl _ _).alloc (Nat.le_refl _) _⟩
set_option maxHeartbeats 400000 in
theorem apply12 (a b : Int) (w : World) :
    Calls Tryz.prog 54 #[.int .i64 12, .int .i64 a, .int .i64 b] w fun e w' => e = .returned (.tuple #[.int .i64 (ap 12 a b), .int .i64 0]) ∧ Below w.heap.size w w' := by
  go_enter Tryz.func54, Tryz.ntmps54
  go_wp2_with (first | (go_at_call 91; refine (cMax _ _ _).mono ?_; rintro e w' ⟨rfl, rfl⟩) | go_in)
  go_ret2
  exact ⟨rfl, (Below.refl _ _).alloc (Nat.le_refl _) _⟩
theorem apply_any (op a b : Int) (h : 1 ≤ op ∧ op ≤ 12) (w : World) :
    Calls Tryz.prog 54 #[.int .i64 op, .int .i64 a, .int .i64 b] w fun e w' => e = .returned (.tuple #[.int .i64 (ap op a b), .int .i64 0]) ∧ Below w.heap.size w w' := by
  have h12 : op = 1 ∨ op = 2 ∨ op = 3 ∨ op = 4 ∨ op = 5 ∨ op = 6 ∨ op = 7 ∨ op = 8 ∨ op = 9 ∨ op = 10 ∨ op = 11 ∨ op = 12 := by omega
  rcases h12 with h | h | h | h | h | h | h | h | h | h | h | h <;> subst h
  · exact apply1 a b w
  · exact apply2 a b w
  · exact apply3 a b w
  · exact apply4 a b w
  · exact apply5 a b w
  · exact apply6 a b w
  · exact apply7 a b w
  · exact apply8 a b w
  · exact apply9 a b w
  · exact apply10 a b w
  · exact apply11 a b w
  · exact apply12 a b w
end Go.Proofs.YthchbcfecconbaaGreatDoor

namespace Go.Proofs.YthchbcfecconbaaGreatDoor
open Go.ChangeShapes Go.WideShapes Go.ChangeAt Go.RowKit
def hl (rel a b : Int) : Bool :=
  if rel = 1 then a == b else if rel = 2 then a != b else if rel = 3 then decide (a < b) else if rel = 4 then decide (a ≤ b) else if rel = 5 then decide (b < a) else if rel = 6 then decide (b ≤ a) else false
def he (rel : Int) : Int := if 1 ≤ rel ∧ rel ≤ 6 then 0 else 11
theorem holds_any (rel a b : Int) (w : World) :
    Calls Tryz.prog 55 #[.int .i64 rel, .int .i64 a, .int .i64 b] w fun e w' => e = .returned (.tuple #[.bool (hl rel a b), .int .i64 (he rel)]) ∧ w' = w := by
  by_cases h1 : rel = 1
  · subst h1
    go_enter Tryz.func55, Tryz.ntmps55
    go_wp2
    go_ret2
    exact ⟨rfl, rfl⟩
  by_cases h2 : rel = 2
  · subst h2
    go_enter Tryz.func55, Tryz.ntmps55
    go_wp2
    go_ret2
    exact ⟨rfl, rfl⟩
  by_cases h3 : rel = 3
  · subst h3
    go_enter Tryz.func55, Tryz.ntmps55
    go_wp2
    go_ret2
    exact ⟨rfl, rfl⟩
  by_cases h4 : rel = 4
  · subst h4
    go_enter Tryz.func55, Tryz.ntmps55
    go_wp2
    go_ret2
    exact ⟨rfl, rfl⟩
  by_cases h5 : rel = 5
  · subst h5
    go_enter Tryz.func55, Tryz.ntmps55
    go_wp2
    go_ret2
    exact ⟨rfl, rfl⟩
  by_cases h6 : rel = 6
  · subst h6
    go_enter Tryz.func55, Tryz.ntmps55
    go_wp2
    go_ret2
    exact ⟨rfl, rfl⟩
  have e1 : hl rel a b = false := by unfold hl; rw [if_neg h1, if_neg h2, if_neg h3, if_neg h4, if_neg h5, if_neg h6]
  have e2 : he rel = 11 := by unfold he; rw [if_neg (by omega)]
  rw [e1, e2]
  clear e1 e2
  have k1 : (rel == 1) = false := by simp [h1]
  have k2 : (rel == 2) = false := by simp [h2]
  have k3 : (rel == 3) = false := by simp [h3]
  have k4 : (rel == 4) = false := by simp [h4]
  have k5 : (rel == 5) = false := by simp [h5]
  have k6 : (rel == 6) = false := by simp [h6]
  clear h1 h2 h3 h4 h5 h6
  go_enter Tryz.func55, Tryz.ntmps55
  go_wp2
  go_ret2
  exact ⟨rfl, rfl⟩
end Go.Proofs.YthchbcfecconbaaGreatDoor

namespace Go.Proofs.YthchbcfecconbaaGreatDoor
open Go.RowKit
attribute [local go_sem] Oper.semAt_some run_store_nf run_store_f
def Rs.inc (s : Rs) : Rs := { s with pl := s.pl + 1 }
def Rs.setReg (s : Rs) (d : Nat) (v : Int) : Rs := { s with regs := fun k => if k = d then v else s.regs k }
def Rs.bad (s : Rs) : Rs := { s with oc := 3 }
def Rs.isO (s : Rs) (os : List Int) (q : Ins) : Prop := 0 ≤ s.sv q.oR q.oN ∧ s.sv q.oR q.oN < os.length
theorem can_obj {q : Ins} {n : Int} (h : q.can n = true) (hk : kdO q.code = true) : opk q.oR q.oN = true := by
  unfold Ins.can at h
  rw [hk] at h
  simp only [Bool.and_eq_true] at h
  have := h.2.1.1
  unfold fts at this
  simpa using this
theorem can_x {q : Ins} {n : Int} (h : q.can n = true) (hk : kdX q.code = true) : opk q.xR q.xN = true := by
  unfold Ins.can at h
  rw [hk] at h
  simp only [Bool.and_eq_true] at h
  have := h.2.1.2
  unfold fts at this
  simpa using this
theorem can_y {q : Ins} {n : Int} (h : q.can n = true) (hk : kdY q.code = true) : opk q.yR q.yN = true := by
  unfold Ins.can at h
  rw [hk] at h
  simp only [Bool.and_eq_true] at h
  have := h.2.2
  unfold fts at this
  simpa using this
theorem can_dst {q : Ins} {n : Int} (h : q.can n = true) (hk : kdD q.code = true) : 0 ≤ q.dst ∧ q.dst ≤ 15 := by
  unfold Ins.can at h
  rw [hk] at h
  simp only [Bool.and_eq_true] at h
  have := h.1.2.1.1.1
  unfold btw at this
  simpa using this
theorem can_op {q : Ins} {n : Int} (h : q.can n = true) (hk : q.code = 6) : 1 ≤ q.op ∧ q.op ≤ 12 := by
  unfold Ins.can at h
  simp only [Bool.and_eq_true] at h
  have := h.1.2.2
  rw [hk] at this
  unfold btw at this
  simpa using this
structure DoS (w : World) (B : Nat) (a ag : Option Addr) (cap cg : Nat) (os : List Int) (gs : List (Bool × Int)) (s : Rs) : Prop where
  m : RM w B (.slice a os.length cap) (.slice ag gs.length cg) s
  o : OBJ w B a os
  g : GIV w B ag gs
  n : os.length ≤ 16
  r : s.rd < 1000000
  p : 0 ≤ s.pl ∧ s.pl ≤ 64
set_option maxHeartbeats 1000000 in
set_option maxRecDepth 1000000 in
theorem do_goto {w : World} {B : Nat} {a ag : Option Addr} {cap cg : Nat} {os : List Int} {gs : List (Bool × Int)} {s : Rs} (hS : DoS w B a ag cap cg os gs s) (q : Ins) {N : Int} (hcan : q.can N = true) (hc : q.code = 8) : Calls Tryz.prog 33 #[.pointer (some ⟨B, 0, none⟩), .agg q.cells.toArray] w fun e w' => e = .returned (.tuple #[]) ∧ RM w' B (.slice a os.length cap) (.slice ag gs.length cg) ({ s.inc with pl := q.to }) ∧ Keeps (fun k => k = B) w w' := by
  obtain ⟨cd, dst, oR, oN, xR, xN, yR, yN, op, rel, to⟩ := q
  simp only at hc
  subst hc
  obtain ⟨h, hO, hG, h16, hrd, hp⟩ := hS
  obtain ⟨W1, hW1⟩ : ∃ W1, W1 = (w.setCell ⟨B, 51, none⟩ (.int .i64 (s.pl + 1))).alloc (.cells #[.int .i64 8, .int .i64 dst, .bool oR, .int .i64 oN, .bool xR, .int .i64 xN, .bool yR, .int .i64 yN, .int .i64 op, .int .i64 rel, .int .i64 to] 69) := ⟨_, rfl⟩
  have K1 : Keeps (fun k => k = B) w W1 := by rw [hW1]; exact ((Keeps.refl _ w).setA 51 _).alloc _
  have H1 : RM W1 B (.slice a os.length cap) (.slice ag gs.length cg) s.inc := by
    rw [hW1]; exact (h.setP (s.pl + 1)).keep (S := fun _ => False) ((Keeps.refl _ _).alloc _) (fun e => e)
  have m1 : CL W1 w.heap.size (⟨8, dst, oR, oN, xR, xN, yR, yN, op, rel, to⟩ : Ins).cells := by
    rw [hW1]
    have := CL.made (w.setCell ⟨B, 51, none⟩ (.int .i64 (s.pl + 1))) (⟨8, dst, oR, oN, xR, xN, yR, yN, op, rel, to⟩ : Ins).cells 69
    rw [show (w.setCell ⟨B, 51, none⟩ (.int .i64 (s.pl + 1))).heap.size = w.heap.size by simp] at this
    exact this
  have HW : Hid (_ = _) := hW1
  clear hW1
  have hlt := h.lt
  have nb1 : ¬ w.heap.size = B := by omega
  have nb2 : ¬ B = w.heap.size := by omega
  have c51 := h.p
  have z51 := h.z 51 (by decide)
  have hwp : IntKind.i64.wrap (s.pl + 1) = s.pl + 1 := by rw [IntKind.wrap_i64]; omega
  have hp0 := hp.1
  have hp1 := hp.2
  have hO1 := hO.keep K1
  have hG1 := hG.keep K1
  clear hp hO hG
  show Calls Tryz.prog 33 #[.pointer (some ⟨B, 0, none⟩), .agg #[.int .i64 8, .int .i64 dst, .bool oR, .int .i64 oN, .bool xR, .int .i64 xN, .bool yR, .int .i64 yN, .int .i64 op, .int .i64 rel, .int .i64 to]] w _
  clear hcan
  have t10 := m1.c 10 _ rfl
  have z1 := H1.z 51 (by decide)
  have p1 := H1.p
  go_enter Tryz.func33, Tryz.ntmps33
  go_wp2_with fail
  go_end0
  exact ⟨rfl, ((h.setP (s.pl + 1)).setP to).keep (S := fun _ => False) ((Keeps.refl _ _).alloc _) (fun e => e), (((Keeps.refl _ w).setA 51 _).setA 51 _).alloc _⟩
set_option maxHeartbeats 1000000 in
set_option maxRecDepth 1000000 in
theorem do_quit {w : World} {B : Nat} {a ag : Option Addr} {cap cg : Nat} {os : List Int} {gs : List (Bool × Int)} {s : Rs} (hS : DoS w B a ag cap cg os gs s) (q : Ins) {N : Int} (hcan : q.can N = true) (hc : q.code = 9) : Calls Tryz.prog 33 #[.pointer (some ⟨B, 0, none⟩), .agg q.cells.toArray] w fun e w' => e = .returned (.tuple #[]) ∧ RM w' B (.slice a os.length cap) (.slice ag gs.length cg) ({ s.inc with oc := 2 }) ∧ Keeps (fun k => k = B) w w' := by
  obtain ⟨cd, dst, oR, oN, xR, xN, yR, yN, op, rel, to⟩ := q
  simp only at hc
  subst hc
  obtain ⟨h, hO, hG, h16, hrd, hp⟩ := hS
  obtain ⟨W1, hW1⟩ : ∃ W1, W1 = (w.setCell ⟨B, 51, none⟩ (.int .i64 (s.pl + 1))).alloc (.cells #[.int .i64 9, .int .i64 dst, .bool oR, .int .i64 oN, .bool xR, .int .i64 xN, .bool yR, .int .i64 yN, .int .i64 op, .int .i64 rel, .int .i64 to] 69) := ⟨_, rfl⟩
  have K1 : Keeps (fun k => k = B) w W1 := by rw [hW1]; exact ((Keeps.refl _ w).setA 51 _).alloc _
  have H1 : RM W1 B (.slice a os.length cap) (.slice ag gs.length cg) s.inc := by
    rw [hW1]; exact (h.setP (s.pl + 1)).keep (S := fun _ => False) ((Keeps.refl _ _).alloc _) (fun e => e)
  have m1 : CL W1 w.heap.size (⟨9, dst, oR, oN, xR, xN, yR, yN, op, rel, to⟩ : Ins).cells := by
    rw [hW1]
    have := CL.made (w.setCell ⟨B, 51, none⟩ (.int .i64 (s.pl + 1))) (⟨9, dst, oR, oN, xR, xN, yR, yN, op, rel, to⟩ : Ins).cells 69
    rw [show (w.setCell ⟨B, 51, none⟩ (.int .i64 (s.pl + 1))).heap.size = w.heap.size by simp] at this
    exact this
  have HW : Hid (_ = _) := hW1
  clear hW1
  have hlt := h.lt
  have nb1 : ¬ w.heap.size = B := by omega
  have nb2 : ¬ B = w.heap.size := by omega
  have c51 := h.p
  have z51 := h.z 51 (by decide)
  have hwp : IntKind.i64.wrap (s.pl + 1) = s.pl + 1 := by rw [IntKind.wrap_i64]; omega
  have hp0 := hp.1
  have hp1 := hp.2
  have hO1 := hO.keep K1
  have hG1 := hG.keep K1
  clear hp hO hG
  show Calls Tryz.prog 33 #[.pointer (some ⟨B, 0, none⟩), .agg #[.int .i64 9, .int .i64 dst, .bool oR, .int .i64 oN, .bool xR, .int .i64 xN, .bool yR, .int .i64 yN, .int .i64 op, .int .i64 rel, .int .i64 to]] w _
  clear hcan
  have c52 := h.c
  have z52 := h.z 52 (by decide)
  go_enter Tryz.func33, Tryz.ntmps33
  go_wp2_with fail
  go_end0
  exact ⟨rfl, ((h.setP (s.pl + 1)).setC 2).keep (S := fun _ => False) ((Keeps.refl _ _).alloc _) (fun e => e), (((Keeps.refl _ w).setA 51 _).setA 52 _).alloc _⟩
end Go.Proofs.YthchbcfecconbaaGreatDoor

