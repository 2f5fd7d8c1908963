import Derived.Test.YtclednbclgkdaaaGreatDoorJD
import Derived.Test.YtclednbclgkdaaaGreatDoorPhI
import Derived.Test.YtclednbclgkdaaaGreatDoorLgM
import Derived.Maps.AppendAt
namespace Go.Proofs.YtclednbclgkdaaaGreatDoor
open Go.RowKit Go.Deep Go.ChangeShapes Go.WideShapes Go.ChangeAt
attribute [local go_sem] Oper.semAt_some run_store_nf run_store_f
def txt2 : ByteArray := ⟨#[103, 101, 116, 32, 114, 49, 32, 64, 48, 10, 97, 100, 100, 32, 114, 49, 32, 114, 49, 32, 49, 10, 112, 117, 116, 32, 64, 48, 32, 114, 49, 10, 100, 111, 110, 101, 32, 114, 49]⟩
def prg2 : List Ins := [⟨1, 1, false, 0, false, 0, false, 0, 0, 0, 0⟩, ⟨6, 1, false, 0, true, 1, false, 1, 1, 0, 0⟩, ⟨3, 0, false, 0, true, 1, false, 0, 0, 0, 0⟩, ⟨10, 0, false, 0, true, 1, false, 0, 0, 0, 0⟩]
theorem rd2 : rd (lns txt2) 0 [] = some prg2 := by kernel_rfl
theorem ln2 : ∀ x ∈ lns txt2, x.size ≤ 4096 := by
  have h : lns txt2 = [⟨#[103, 101, 116, 32, 114, 49, 32, 64, 48]⟩, ⟨#[97, 100, 100, 32, 114, 49, 32, 114, 49, 32, 49]⟩, ⟨#[112, 117, 116, 32, 64, 48, 32, 114, 49]⟩, ⟨#[100, 111, 110, 101, 32, 114, 49]⟩] := by kernel_rfl
  rw [h]
  intro x hx
  rcases (by simpa using hx : x = _ ∨ x = _ ∨ x = _ ∨ x = _) with rfl | rfl | rfl | rfl <;> decide
theorem chk2 : (chk prg2).1 = 0 := by kernel_rfl
theorem rfs2 : rfs 2 0 100 = 0 := by kernel_rfl
theorem gor2 : (gor prg2 [5, 7] [] 100 0 rs0).1.oc = 1 ∧ (gor prg2 [5, 7] [] 100 0 rs0).1.rs = 6 ∧ (gor prg2 [5, 7] [] 100 0 rs0).2 = 4 ∧ lft [5, 7] (gor prg2 [5, 7] [] 100 0 rs0).1 2 = [6, 7] := by
  refine ⟨?_, ?_, ?_, ?_⟩ <;> kernel_rfl
theorem run2 {w : World} {a ao : Option Addr} {cap co : Nat} (hT : LT w) (hl : ISL w a prg2) (hO : NUM w ao [5, 7]) : Calls Tryz.prog 8 #[.slice a 4 cap, .slice ao 2 co, .slice none 0 0, .int .i64 100] w fun e w' => ∃ b, e = .returned (.tuple #[.agg #[.int .i64 1, .int .i64 6, .slice (some ⟨b, 0, none⟩) 2 2, .int .i64 4], .int .i64 0]) ∧ CL w' b (nvs [6, 7]) ∧ Keeps (fun _ => False) w w' := by
  have h := run_any (cap := cap) (co := co) (ag := none) (cg := 0) (gs := []) hT hl (by decide) hO (fun i x hx => by simp at hx) 100
  refine Calls.mono h ?_
  rintro e w' ⟨v, x, rfl, hP, k⟩
  rcases hP with ⟨h0, _⟩ | ⟨_, h1, _⟩ | ⟨_, _, rfl, b, _, rfl, hC, _⟩
  · exact (h0 chk2).elim
  · exact (h1 rfs2).elim
  · obtain ⟨e1, e2, e3, e4⟩ := gor2
    have t100 : Int.toNat 100 = 100 := rfl
    rw [t100] at hC ⊢
    have l2 : ([5, 7] : List Int).length = 2 := rfl
    rw [l2] at hC ⊢
    rw [e4] at hC
    rw [e1, e2, e3]
    exact ⟨b, rfl, hC, k⟩
theorem two_num (w : World) (o : Obj) (x y : Int) : NUM ((w.alloc o).alloc (.cells #[.int .i64 x, .int .i64 y] 2)) (some ⟨w.heap.size + 1, 0, none⟩) [x, y] := NUM.ofCL (by
  have := CL.made (w.alloc o) [.int .i64 x, .int .i64 y] 2
  rw [show (w.alloc o).heap.size = w.heap.size + 1 by simp] at this
  exact this)
set_option maxHeartbeats 800000 in
set_option maxRecDepth 1000000 in
theorem head11 {w : World} (hT : PT w) (hNT : NT w) : Calls Tryz.prog 4 #[] w fun e w' => e = .returned (.bool true) ∧ Keeps (fun _ => False) w w' := by
  have hP := parse_ok txt2 (by decide) hT hNT rd2 ln2
  have hLT := hT.lt
  clear hT hNT
  go_enter Tryz.func4, Tryz.ntmps4
  go_wp2_with fail
  refine (show Calls Tryz.prog 6 #[.string txt2] w _ from hP).mono ?_
  clear hP
  rintro e w1 ⟨v, rfl, hown, k1⟩
  obtain ⟨a, cap, rfl, hI⟩ := isl_of_owns hown rfl
  clear hown
  have l4 : prg2.length = 4 := rfl
  rw [l4]
  clear l4
  obtain ⟨W2, hW2⟩ : ∃ W2, W2 = (w1.alloc (.cells #[.int .i64 0, .int .i64 0, .int .i64 0] 28)).alloc (.cells #[.int .i64 5, .int .i64 7] 2) := ⟨_, rfl⟩
  have k2 : Keeps (fun _ => False) w1 W2 := by rw [hW2]; exact ((Keeps.refl _ w1).alloc _).alloc _
  have s2 : W2.heap.size = w1.heap.size + 2 := by rw [hW2]; simp
  have hN : NUM W2 (some ⟨w1.heap.size + 1, 0, none⟩) [5, 7] := by rw [hW2]; exact two_num w1 _ 5 7
  have hR := run2 (cap := cap) (co := 2) (hLT.keep (k1.trans k2)) (hI.keep k2) hN
  have HW2 : Hid (_ = _) := hW2
  clear hW2 hI hN hLT
  have K2 := k1.trans k2
  clear k1 k2
  go_wp2_with (first | (go_at_call 7; refine (num11 _ _).mono ?_; rintro e wn ⟨rfl, en⟩; subst wn) | (go_at_call 8; rw [← HW2.out]; clear HW2; refine hR.mono ?_; clear hR; rintro e w3 ⟨b, rfl, C3, k3⟩; obtain ⟨W4, hW4⟩ : ∃ W4, W4 = (w3.alloc (.cells #[.int .i64 1, .int .i64 6, .slice (some ⟨b, 0, none⟩) 2 2, .int .i64 4] 33)).alloc (.cells #[.int .i64 6, .int .i64 7] 2) := ⟨_, rfl⟩; have HW4 : Hid (_ = _) := hW4; clear hW4) | (go_at_call 9; rw [← HW4.out]; have K4 : Keeps (fun _ => False) w3 W4 := (by rw [HW4.out]; exact ((Keeps.refl _ w3).alloc _).alloc _); have hB : NUM W4 (some ⟨w3.heap.size + 1, 0, none⟩) [6, 7] := (by rw [HW4.out]; exact two_num w3 _ 6 7); refine (same_ok (xs := [6, 7]) 2 2 1 6 4 ((NUM.ofCL C3).keep K4) hB (by decide)).mono ?_; rintro e w5 ⟨rfl, k5⟩))
  go_ret
  exact ⟨rfl, ((K2.trans k3).trans K4).trans k5⟩
end Go.Proofs.YtclednbclgkdaaaGreatDoor
namespace Go.Proofs.YtclednbclgkdaaaGreatDoor
open Go.RowKit
section
variable {l : List Ins} {os : List Int} {gs : List (Bool × Int)}
theorem gor_end (f c : Nat) {s : Rs} (h : ¬ s.oc = 0) : gor l os gs f c s = (s, c) := by
  cases f with
  | zero => rfl
  | succ f => exact if_neg h
theorem gor_step (f c : Nat) {s : Rs} (h : s.oc = 0) : gor l os gs (f + 1) c s = gor l os gs f (c + 1) (mstp os gs (atI l s.pl.toNat) s) := if_pos h
theorem gor_count : ∀ (f c : Nat) (s : Rs), c ≤ (gor l os gs f c s).2 ∧ (gor l os gs f c s).2 ≤ c + f ∧ ((gor l os gs f c s).1.oc = 0 → (gor l os gs f c s).2 = c + f) ∧ (s.oc = 0 → ¬ (gor l os gs f c s).1.oc = 0 → c + 1 ≤ (gor l os gs f c s).2)
  | 0, c, s => ⟨Nat.le_refl _, Nat.le_refl _, fun _ => rfl, fun h h2 => (h2 h).elim⟩
  | f + 1, c, s => by
    by_cases h : s.oc = 0
    · rw [gor_step f c h]
      have := gor_count f (c + 1) (mstp os gs (atI l s.pl.toNat) s)
      exact ⟨by omega, by omega, fun h => by have := this.2.2.1 h; omega, fun _ _ => this.1⟩
    · rw [gor_end (f + 1) c h]
      exact ⟨Nat.le_refl _, Nat.le_add_right _ _, fun h2 => (h h2).elim, fun h2 => (h h2).elim⟩
theorem gor_mono : ∀ (f c : Nat) (s : Rs), ¬ (gor l os gs f c s).1.oc = 0 → ∀ f', (gor l os gs f c s).2 ≤ c + f' → gor l os gs f' c s = gor l os gs f c s
  | 0, c, s, h, f', _ => gor_end f' c h
  | f + 1, c, s, h, f', hf => by
    by_cases h0 : s.oc = 0
    · rw [gor_step f c h0] at h hf ⊢
      have hc := (gor_count (l := l) (os := os) (gs := gs) f (c + 1) (mstp os gs (atI l s.pl.toNat) s)).1
      obtain ⟨f'', rfl⟩ : ∃ f'', f' = f'' + 1 := ⟨f' - 1, by omega⟩
      rw [gor_step f'' c h0]
      exact gor_mono f (c + 1) _ h f'' (by omega)
    · rw [gor_end (f + 1) c h0, gor_end f' c h0]
theorem gor_below : ∀ (f c : Nat) (s : Rs), s.oc = 0 → ¬ (gor l os gs f c s).1.oc = 0 → ∀ n, c + n + 1 = (gor l os gs f c s).2 → (gor l os gs n c s).1.oc = 0 ∧ (gor l os gs n c s).2 = c + n
  | 0, _, _, h0, h, _, _ => (h h0).elim
  | f + 1, c, s, h0, h, n, hn => by
    cases n with
    | zero => exact ⟨h0, rfl⟩
    | succ n =>
      rw [gor_step f c h0] at h hn
      rw [gor_step n c h0]
      by_cases h1 : (mstp os gs (atI l s.pl.toNat) s).oc = 0
      · have := gor_below f (c + 1) _ h1 h n (by omega)
        exact ⟨this.1, by omega⟩
      · rw [gor_end f (c + 1) h1] at hn
        have hn : c + (n + 1) + 1 = c + 1 := hn
        omega
/-- A result comes of a commit alone. -/
theorem mstp_rs (q : Ins) (s : Rs) (h : s.rs = 0) : (mstp os gs q s).oc = 1 ∨ (mstp os gs q s).rs = 0 := by
  have hr : ∀ x, (s.inc.rdo os gs x).rs = s.rs := fun x => by unfold Rs.rdo; split <;> rfl
  have hw : ∀ x, (s.inc.wro os x).rs = s.rs := fun x => by unfold Rs.wro; split <;> rfl
  unfold mstp
  split
  · split
    · right
      unfold mstpO
      split
      · exact (hr _).trans h
      · split
        · exact (hw _).trans h
        · split
          · exact (hw _).trans h
          · split <;> exact h
    · exact .inr h
  · split
    · exact .inr h
    · split
      · exact .inr h
      · split
        · split <;> exact .inr h
        · split
          · exact .inr h
          · split
            · exact .inr h
            · exact .inl rfl
theorem gor_rs : ∀ (f c : Nat) (s : Rs), (s.oc = 1 ∨ s.rs = 0) → ((gor l os gs f c s).1.oc = 1 ∨ (gor l os gs f c s).1.rs = 0)
  | 0, _, _, h => h
  | f + 1, c, s, h => by
    by_cases h0 : s.oc = 0
    · rw [gor_step f c h0]
      exact gor_rs f (c + 1) _ (mstp_rs _ s (h.resolve_left (by omega)))
    · rw [gor_end (f + 1) c h0]; exact h
end
end Go.Proofs.YtclednbclgkdaaaGreatDoor
namespace Go.Proofs.YtclednbclgkdaaaGreatDoor
open Go.RowKit
attribute [local go_sem] Oper.semAt_some run_store_nf run_store_f
theorem run_fine {w : World} {a ao ag : Option Addr} {cap co cg : Nat} {l : List Ins} {os : List Int} {gs : List (Bool × Int)} (hT : LT w) (hl : ISL w a l) (hO : NUM w ao os) (hG : GVN w ag gs) (hc : (chk l).1 = 0) (h16 : os.length ≤ 16) (h40 : gs.length ≤ 4096) (f : Nat) (hf : f ≤ 10000) {F : Rs × Nat} (hF : gor l os gs f 0 rs0 = F) {L : List Int} (hL : lft os F.1 os.length = L) : Calls Tryz.prog 8 #[.slice a l.length cap, .slice ao os.length co, .slice ag gs.length cg, .int .i64 (f : Int)] w fun e w' => ∃ b, e = .returned (.tuple #[.agg #[.int .i64 F.1.oc, .int .i64 F.1.rs, .slice (some ⟨b, 0, none⟩) os.length os.length, .int .i64 (F.2 : Int)], .int .i64 0]) ∧ CL w' b (nvs L) ∧ Keeps (fun _ => False) w w' := by
  have hl64 := (chk_ok hc).1
  refine (run_any (cap := cap) (co := co) (cg := cg) hT hl (by omega) hO hG (f : Int)).mono ?_
  rintro e w' ⟨v, x, rfl, hP, k⟩
  have hr : rfs os.length gs.length (f : Int) = 0 := by
    unfold rfs
    rw [if_neg (by omega), if_neg (by omega), if_neg (by omega)]
  rcases hP with ⟨h0, _⟩ | ⟨_, h1, _⟩ | ⟨_, _, rfl, b, _, rfl, hC, _⟩
  · exact (h0 hc).elim
  · exact (h1 hr).elim
  · rw [Int.toNat_natCast, hF] at hC ⊢
    rw [hL] at hC
    exact ⟨b, rfl, hC, k⟩
theorem run_bad {w : World} {a ao ag : Option Addr} {cap co cg : Nat} {l : List Ins} {os : List Int} {gs : List (Bool × Int)} (hT : LT w) (hl : ISL w a l) (hlen : l.length ≤ 9223372036854775807) (hO : NUM w ao os) (hG : GVN w ag gs) (fuel : Int) (hb : ¬ ((chk l).1 = 0 ∧ rfs os.length gs.length fuel = 0)) : Calls Tryz.prog 8 #[.slice a l.length cap, .slice ao os.length co, .slice ag gs.length cg, .int .i64 fuel] w fun e w' => ∃ x, e = .returned (.tuple #[zA, .int .i64 x]) ∧ ¬ x = 0 ∧ Keeps (fun _ => False) w w' := by
  refine (run_any (cap := cap) (co := co) (cg := cg) hT hl hlen hO hG fuel).mono ?_
  rintro e w' ⟨v, x, rfl, hP, k⟩
  rcases hP with ⟨h0, rfl, rfl⟩ | ⟨_, h1, rfl, rfl⟩ | ⟨h0, h1, _⟩
  · exact ⟨_, rfl, h0, k⟩
  · exact ⟨_, rfl, h1, k⟩
  · exact (hb ⟨h0, h1⟩).elim
end Go.Proofs.YtclednbclgkdaaaGreatDoor
namespace Go.Proofs.YtclednbclgkdaaaGreatDoor
open Go.RowKit Go.Deep Go.ChangeShapes Go.WideShapes Go.ChangeAt
/-- Numbers that were handed in. -/
theorem open_nums {H : Type} {enc : TypeId × Value → H} {P : Program} {W : World} {spare : Nat → Bool} {held : Bool} {t e : TypeId} {fuel : Nat} {a : Option Addr} {len cap : Nat} {x : DataW H × List MemPlace}
    (ht : P.underlying t = some (.slice e)) (he : P.underlying e = some (.int .i64)) (ce : P.cellsOf e = 1)
    (h : DataW.trod enc P W 0 spare held fuel t [.slice a len cap] = some x) : ∃ l : List Int, l.length = len ∧ NUM W a l := by
  by_cases h0 : len = 0
  · subst h0
    exact ⟨[], rfl, fun i x hi => by simp at hi⟩
  rcases open_slice ht h with ⟨hcs, _⟩ | ⟨a', len', cap', m, n, D, Pl, hcs, hb, hl, hm, hmm, rfl, hx⟩
  · simp at hcs; omega
  simp at hcs
  obtain ⟨rfl, rfl, rfl⟩ := hcs
  have hlm : len ≤ m := by rw [hmm]; split <;> omega
  have each : ∀ i, i < len → ∃ v : Int, W.cell? (a'.add i) = some (.int .i64 v) := by
    intro i hi
    obtain ⟨cs', h1, h2⟩ := hx i (by omega)
    rw [ce] at h1
    obtain ⟨_, hlen, hcell⟩ := World.cells?_some h1
    obtain ⟨v, rfl, _⟩ := DataW.trod_int he h2
    have cj := hcell 0 (by omega)
    rw [add_add] at cj
    refine ⟨v, ?_⟩
    simpa using cj
  obtain ⟨b, off, spot⟩ := a'
  obtain ⟨v0, z0⟩ := each 0 (by omega)
  have hspot : spot = none := by simpa [Addr.add] using World.cell?_spot z0
  subst hspot
  obtain ⟨V, hV⟩ := choose_lt each
  refine ⟨(List.range len).map V, by simp, fun i x hi => ?_⟩
  have hil : i < len := by have := (List.getElem?_eq_some_iff.1 hi).1; simpa using this
  have : x = V i := by simpa [hil] using hi.symm
  subst this
  have hv := hV i hil
  rw [add_at] at hv
  exact ⟨b, off, rfl, hv⟩
/-- Given reads that were handed in. -/
theorem open_givs {H : Type} {enc : TypeId × Value → H} {P : Program} {W : World} {spare : Nat → Bool} {held : Bool} {t e : TypeId} {g0 g1 : Field} {fuel : Nat} {a : Option Addr} {len cap : Nat} {x : DataW H × List MemPlace}
    (ht : P.underlying t = some (.slice e)) (hs : P.underlying e = some (.struct #[g0, g1])) (ce : P.cellsOf e = 2) (o0 : g0.offset = 0) (o1 : g1.offset = 1) (c0 : P.cellsOf g0.type = 1) (c1 : P.cellsOf g1.type = 1) (u0 : P.underlying g0.type = some .bool) (u1 : P.underlying g1.type = some (.int .i64))
    (h : DataW.trod enc P W 0 spare held fuel t [.slice a len cap] = some x) : ∃ l : List (Bool × Int), l.length = len ∧ GVN W a l := by
  by_cases h0 : len = 0
  · subst h0
    exact ⟨[], rfl, fun i x hi => by simp at hi⟩
  rcases open_slice ht h with ⟨hcs, _⟩ | ⟨a', len', cap', m, n, D, Pl, hcs, hb, hl, hm, hmm, rfl, hx⟩
  · simp at hcs; omega
  simp at hcs
  obtain ⟨rfl, rfl, rfl⟩ := hcs
  have hlm : len ≤ m := by rw [hmm]; split <;> omega
  have each : ∀ i, i < len → ∃ q : Bool × Int, W.cell? (a'.add (i * 2)) = some (.bool q.1) ∧ W.cell? (a'.add (i * 2 + 1)) = some (.int .i64 q.2) := by
    intro i hi
    obtain ⟨cs', h1, h2⟩ := hx i (by omega)
    rw [ce] at h1
    obtain ⟨_, hlen, hcell⟩ := World.cells?_some h1
    match cs', hlen with
    | [z0, z1], _ =>
      obtain ⟨b, q, rfl, rfl⟩ := open_opd hs o0 o1 c0 c1 u0 u1 h2
      have cj := hcell 0 (by omega)
      have ck := hcell 1 (by omega)
      rw [add_add] at cj ck
      refine ⟨(b, q), ?_, ?_⟩
      · simpa using cj
      · simpa using ck
  obtain ⟨b, off, spot⟩ := a'
  obtain ⟨q0, z0, _⟩ := each 0 (by omega)
  have hspot : spot = none := by simpa [Addr.add] using World.cell?_spot z0
  subst hspot
  obtain ⟨V, hV⟩ := choose_lt each
  refine ⟨(List.range len).map V, by simp, fun i x hi => ?_⟩
  have hil : i < len := by have := (List.getElem?_eq_some_iff.1 hi).1; simpa using this
  have : x = V i := by simpa [hil] using hi.symm
  subst this
  obtain ⟨hv, hu⟩ := hV i hil
  rw [add_at] at hv hu
  exact ⟨b, off, rfl, hv, by rw [← Nat.add_assoc] at hu; exact hu⟩
end Go.Proofs.YtclednbclgkdaaaGreatDoor
namespace Go.Proofs.YtclednbclgkdaaaGreatDoor
open Go.RowKit Go.Deep Go.ChangeShapes Go.WideShapes Go.ChangeAt
section
variable {l : List Ins} {os : List Int} {gs : List (Bool × Int)}
/-- Given reads that say what an object holds. -/
def Same (os : List Int) (gs : List (Bool × Int)) : Prop := ∀ x, x < os.length → ∀ r, seenV os gs r x = os.getD x 0
theorem seen_nil (r x : Nat) : seenV os [] r x = os.getD x 0 := by
  unfold seenV
  rw [if_neg (by simp)]
theorem mstp_same (h : Same os gs) (q : Ins) (s : Rs) : mstp os gs q s = mstp os [] q s := by
  unfold mstp
  split
  · split
    · rename_i hx
      have hxl : (s.sv q.oR q.oN).toNat < os.length := by omega
      generalize (s.sv q.oR q.oN).toNat = x at *
      have hr : s.inc.rdo os gs x = s.inc.rdo os [] x := by
        unfold Rs.rdo
        rw [h x hxl, seen_nil]
      unfold mstpO
      rw [hr]
    · rfl
  · rfl
theorem gor_same (h : Same os gs) : ∀ (f c : Nat) (s : Rs), gor l os gs f c s = gor l os [] f c s
  | 0, _, _ => rfl
  | f + 1, c, s => by
    by_cases h0 : s.oc = 0
    · rw [gor_step f c h0, gor_step f c h0, mstp_same h]
      exact gor_same h f (c + 1) _
    · rw [gor_end (f + 1) c h0, gor_end (f + 1) c h0]
end
theorem n64i : ∃ i, Tryz.prog.info? 2 = some i ∧ i.zero = some (.int .i64 0) ∧ i.size = 1 ∧ i.bytes = 8 := by
  have h := i64infoM
  cases hq : Tryz.prog.info? 2 with
  | none => rw [hq] at h; cases h
  | some i =>
    rw [hq] at h
    injection h with h
    injection h with h1 h2
    injection h2 with h2 h3
    exact ⟨i, rfl, h1, h2, h3⟩
theorem giv0 : (Tryz.prog.info? 154).map (fun i => (i.zero, i.size, i.bytes)) = some (some (.agg #[.bool false, .int .i64 0]), 2, 16) := by kernel_rfl
theorem givi : ∃ i, Tryz.prog.info? 154 = some i ∧ i.zero = some (.agg #[.bool false, .int .i64 0]) ∧ i.size = 2 ∧ i.bytes = 16 := by
  have h := giv0
  cases hq : Tryz.prog.info? 154 with
  | none => rw [hq] at h; cases h
  | some i =>
    rw [hq] at h
    injection h with h
    injection h with h1 h2
    injection h2 with h2 h3
    exact ⟨i, rfl, h1, h2, h3⟩
theorem nI : Tryz.prog.underlying 22 = some (.slice 2) := by kernel_rfl
theorem gI : Tryz.prog.underlying 45 = some (.slice 154) := by kernel_rfl
theorem append_n {W : World} {base k : Nat} {v : Value} {xs : List Int} (hown : W.ownsRow base 2 1 v k (nvs xs)) (hb : base ≤ W.heap.size) (hk : (k + 1) * 8 ≤ 140737488355328) (x : Int) :
    ∃ v' w', (Builtin.append_ #[22, 22] 22 #[v, .slice (some ⟨W.heap.size, 0, none⟩) 1 1]).run Tryz.prog (W.alloc (.cells #[.int .i64 x] 2)) = .ok v' w' ∧ w'.ownsRow base 2 1 v' (k + 1) (nvs (xs ++ [x])) ∧ Keeps (fun i => v.ownBlock = some i) W w' ∧ (v'.ownBlock = v.ownBlock ∨ v'.ownBlock = some (W.heap.size + 1)) := by
  obtain ⟨i0, hi0, hz0, hz1, hz2⟩ := n64i
  obtain ⟨v', w', hr, ho, hg, _, hbl⟩ := run_append_own_at (P := Tryz.prog) (w := W.alloc (.cells (nvs [x]).toArray 2)) base 22 22 2 i0 _ 1 8 nI hi0 hz0 hz1 hz2 rfl (by decide) v k (nvs xs) (((Keeps.refl (fun _ => False) W).alloc _).owns hown (fun _ _ e => e)) ⟨W.heap.size, 0, none⟩ 1 1 (nvs [x]) rfl (fun j u hu => by
      rw [add_at]
      have := (CL.made W (nvs [x]) 2).c j u hu
      simpa using this) (fun u hu => by
      simp [nvs] at hu
      rcases hu with rfl
      rfl) (by unfold maxLen; omega) (by omega) (Nat.le_trans hb (by simp))
  refine ⟨v', w', hr, ?_, ((Keeps.refl _ W).alloc _).grown hg (fun i _ e => e), by simpa using hbl⟩
  unfold nvs
  rw [List.map_append]
  simpa [nvs] using ho
/-- Given reads' cells. -/
def gvs (l : List (Bool × Int)) : List Value := l.flatMap fun g => [.bool g.1, .int .i64 g.2]
theorem append_g {W : World} {base k : Nat} {v : Value} {xs : List (Bool × Int)} (hown : W.ownsRow base 154 2 v k (gvs xs)) (hb : base ≤ W.heap.size) (hk : (k + 1) * 16 ≤ 140737488355328) (u : Bool) (x : Int) :
    ∃ v' w', (Builtin.append_ #[45, 45] 45 #[v, .slice (some ⟨W.heap.size, 0, none⟩) 1 1]).run Tryz.prog (W.alloc (.cells #[.bool u, .int .i64 x] 154)) = .ok v' w' ∧ w'.ownsRow base 154 2 v' (k + 1) (gvs (xs ++ [(u, x)])) ∧ Keeps (fun i => v.ownBlock = some i) W w' ∧ (v'.ownBlock = v.ownBlock ∨ v'.ownBlock = some (W.heap.size + 1)) := by
  obtain ⟨i0, hi0, hz0, hz1, hz2⟩ := givi
  obtain ⟨v', w', hr, ho, hg, _, hbl⟩ := run_append_own_at (P := Tryz.prog) (w := W.alloc (.cells (gvs [(u, x)]).toArray 154)) base 45 45 154 i0 _ 2 16 gI hi0 hz0 hz1 hz2 rfl (by decide) v k (gvs xs) (((Keeps.refl (fun _ => False) W).alloc _).owns hown (fun _ _ e => e)) ⟨W.heap.size, 0, none⟩ 1 1 (gvs [(u, x)]) rfl (fun j y hy => by
      rw [add_at]
      have := (CL.made W (gvs [(u, x)]) 154).c j y hy
      simpa using this) (fun y hy => by
      simp [gvs] at hy
      rcases hy with rfl | rfl <;> rfl) (by unfold maxLen; omega) (by omega) (Nat.le_trans hb (by simp))
  refine ⟨v', w', hr, ?_, ((Keeps.refl _ W).alloc _).grown hg (fun i _ e => e), by simpa using hbl⟩
  unfold gvs
  rw [List.flatMap_append]
  simpa [gvs] using ho
theorem num_of_owns {W : World} {base n : Nat} {v : Value} {l : List Int} (h : W.ownsRow base 2 1 v n (nvs l)) (hn : l.length = n) : ∃ a cap, v = .slice a n cap ∧ NUM W a l := by
  rcases h.2 with ⟨rfl, h0⟩ | ⟨g, cap, cur, rfl, _⟩
  · have hz : n = 0 := by first | exact h0.1 | omega
    subst hz
    exact ⟨none, 0, rfl, fun i x hi => by have := (List.getElem?_eq_some_iff.1 hi).1; omega⟩
  · refine ⟨_, cap, rfl, fun i x hi => ⟨g, 0, rfl, ?_⟩⟩
    have hc := h.cells (g := g) rfl i (.int .i64 x) (by unfold nvs; rw [List.getElem?_map, hi]; rfl)
    rw [add_at] at hc
    exact hc
theorem gvs_get : ∀ (l : List (Bool × Int)) (i : Nat) (g : Bool × Int), l[i]? = some g → (gvs l)[i * 2]? = some (.bool g.1) ∧ (gvs l)[i * 2 + 1]? = some (.int .i64 g.2)
  | [], _, _, h => by simp at h
  | q :: l, 0, g, h => by
    have h : q = g := by simpa using h
    subst h
    exact ⟨rfl, rfl⟩
  | q :: l, i + 1, g, h => by
    have := gvs_get l i g (by simpa using h)
    rw [show (i + 1) * 2 = i * 2 + 1 + 1 by omega]
    exact this
theorem gvn_of_owns {W : World} {base n : Nat} {v : Value} {l : List (Bool × Int)} (h : W.ownsRow base 154 2 v n (gvs l)) (hn : l.length = n) : ∃ a cap, v = .slice a n cap ∧ GVN W a l := by
  rcases h.2 with ⟨rfl, h0⟩ | ⟨g, cap, cur, rfl, _⟩
  · have hz : n = 0 := by first | exact h0.1 | omega
    subst hz
    exact ⟨none, 0, rfl, fun i x hi => by have := (List.getElem?_eq_some_iff.1 hi).1; omega⟩
  · refine ⟨_, cap, rfl, fun i x hi => ⟨g, 0, rfl, ?_, ?_⟩⟩
    · have hc := h.cells (g := g) rfl (i * 2) _ (gvs_get l i x hi).1
      rw [add_at] at hc
      exact hc
    · have hc := h.cells (g := g) rfl (i * 2 + 1) _ (gvs_get l i x hi).2
      rw [add_at, ← Nat.add_assoc] at hc
      exact hc
end Go.Proofs.YtclednbclgkdaaaGreatDoor
namespace Go.Proofs.YtclednbclgkdaaaGreatDoor
open Go.RowKit Go.Deep Go.ChangeShapes Go.WideShapes Go.ChangeAt
attribute [local go_sem] Oper.semAt_some run_store_nf run_store_f
/-- An append whose run is known. -/
theorem wpList_append_run {P : Program} {w : World} {ops : Array Oper} {rest : List Oper} {o : Oper} {a : Act} {Q : Exit → Act → World → Prop} (hgd : o.guard = none) (s x : Operand) (t : TypeId)
    (ho : o.op = .call { callee := .builtin .append, args := #[s, x], argTypes := #[t, t] }) (v src v' : Value) (w' : World) (hs : a.eval s = v) (hx : a.eval x = src)
    (hr : (Builtin.append_ #[t, t] o.type #[v, src]).run P w = .ok v' w') (h : wpList P ops Q rest (a.put o.dst v') w') : wpList P ops Q (o :: rest) a w :=
  wpList_plain hgd fun K hK => by
    unfold Oper.wp execOp
    simp only [ho, resolve, invoke, builtin, Sem.run_bind, Sem.run_pure, Result.andThen_ok, List.map_toArray, List.map_cons, List.map_nil, hs, hx, hr]
    exact hK _ _ h
/-- Truths in memory. -/
def BSL (w : World) (a : Option Addr) (n : Nat) : Prop := ∀ i, i < n → ∃ b off v, a = some ⟨b, off, none⟩ ∧ w.cell? ⟨b, off + i, none⟩ = some (.bool v)
theorem open_bools {H : Type} {enc : TypeId × Value → H} {P : Program} {W : World} {spare : Nat → Bool} {held : Bool} {t e : TypeId} {fuel : Nat} {a : Option Addr} {len cap : Nat} {x : DataW H × List MemPlace}
    (ht : P.underlying t = some (.slice e)) (he : P.underlying e = some .bool) (ce : P.cellsOf e = 1)
    (h : DataW.trod enc P W 0 spare held fuel t [.slice a len cap] = some x) : BSL W a len := by
  by_cases h0 : len = 0
  · subst h0
    exact fun i hi => by omega
  rcases open_slice ht h with ⟨hcs, _⟩ | ⟨a', len', cap', m, n, D, Pl, hcs, hb, hl, hm, hmm, rfl, hx⟩
  · simp at hcs; omega
  simp at hcs
  obtain ⟨rfl, rfl, rfl⟩ := hcs
  have hlm : len ≤ m := by rw [hmm]; split <;> omega
  have each : ∀ i, i < len → ∃ v, W.cell? (a'.add i) = some (.bool v) := by
    intro i hi
    obtain ⟨cs', h1, h2⟩ := hx i (by omega)
    rw [ce] at h1
    obtain ⟨_, hlen, hcell⟩ := World.cells?_some h1
    obtain ⟨v, rfl, _⟩ := DataW.trod_bool he h2
    have cj := hcell 0 (by omega)
    rw [add_add] at cj
    refine ⟨v, ?_⟩
    simpa using cj
  obtain ⟨b, off, spot⟩ := a'
  obtain ⟨v0, z0⟩ := each 0 (by omega)
  have hspot : spot = none := by simpa [Addr.add] using World.cell?_spot z0
  subst hspot
  intro i hi
  obtain ⟨v, hv⟩ := each i hi
  rw [add_at] at hv
  exact ⟨b, off, v, rfl, hv⟩
/-- What Run says where it refuses. -/
def errv (l : List Ins) (no ng : Nat) (fuel : Int) : Int := if (chk l).1 = 0 then rfs no ng fuel else (chk l).1
theorem rfs_ng {no ng : Nat} {fuel : Int} (h : ng ≤ 4096) : rfs no ng fuel = rfs no 0 fuel := by
  unfold rfs
  rw [if_neg (show ¬ 4096 < ng by omega), if_neg (show ¬ 4096 < 0 by omega)]
theorem run_no {w : World} {a ao ag : Option Addr} {cap co cg : Nat} {l : List Ins} {os : List Int} {gs : List (Bool × Int)} (hT : LT w) (hl : ISL w a l) (hlen : l.length ≤ 9223372036854775807) (hO : NUM w ao os) (hG : GVN w ag gs) (fuel : Int) {x : Int} (hx : errv l os.length gs.length fuel = x) (hb : ¬ x = 0) : Calls Tryz.prog 8 #[.slice a l.length cap, .slice ao os.length co, .slice ag gs.length cg, .int .i64 fuel] w fun e w' => e = .returned (.tuple #[.agg #[.int .i64 0, .int .i64 0, .slice none 0 0, .int .i64 0], .int .i64 x]) ∧ Keeps (fun _ => False) w w' := by
  refine (run_any (cap := cap) (co := co) (cg := cg) hT hl hlen hO hG fuel).mono ?_
  rintro e w' ⟨v, y, rfl, hP, k⟩
  unfold errv at hx
  rcases hP with ⟨h0, rfl, rfl⟩ | ⟨h0, h1, rfl, rfl⟩ | ⟨h0, h1, _⟩
  · rw [if_neg h0] at hx
    subst hx
    exact ⟨rfl, k⟩
  · rw [if_pos h0] at hx
    subst hx
    exact ⟨rfl, k⟩
  · rw [if_pos h0] at hx
    exact (hb (hx.symm.trans h1)).elim
theorem same_rep {k : Nat} {v : Int} {gs : List (Bool × Int)} (h : ∀ g ∈ gs, g.1 = true → g.2 = v) : Same (List.replicate k v) gs := by
  intro x hx r
  have hv : (List.replicate k v).getD x 0 = v := by
    rw [List.length_replicate] at hx
    rw [List.getD_eq_getElem?_getD, List.getElem?_replicate, if_pos hx]; rfl
  unfold seenV
  split
  · rename_i e
    cases hg : gs[r]? with
    | none => rw [List.getD_eq_getElem?_getD, hg] at e; cases e
    | some g =>
      rw [List.getD_eq_getElem?_getD, hg] at e ⊢
      rw [hv]
      exact h g (List.mem_of_getElem? hg) e
  · rfl
end Go.Proofs.YtclednbclgkdaaaGreatDoor
namespace Go.Proofs.YtclednbclgkdaaaGreatDoor
open Go.RowKit Go.Deep Go.ChangeShapes Go.WideShapes Go.ChangeAt
attribute [local go_sem] Oper.semAt_some run_store_nf run_store_f
end Go.Proofs.YtclednbclgkdaaaGreatDoor
namespace Go.Proofs.YtclednbclgkdaaaGreatDoor
open Go.RowKit Go.Deep Go.ChangeShapes Go.WideShapes Go.ChangeAt
/-- A list's room. -/
theorem open_cap {H : Type} {enc : TypeId × Value → H} {P : Program} {W : World} {spare : Nat → Bool} {held : Bool} {t e : TypeId} {fuel : Nat} {a : Option Addr} {len cap : Nat} {x : DataW H × List MemPlace}
    (ht : P.underlying t = some (.slice e)) (h : DataW.trod enc P W 0 spare held fuel t [.slice a len cap] = some x) : len ≤ cap := by
  rcases open_slice ht h with ⟨hcs, _⟩ | ⟨a', len', cap', m, n, D, Pl, hcs, hb, hl, hm, hmm, rfl, hx⟩
  · simp at hcs; omega
  · simp at hcs
    obtain ⟨rfl, rfl, rfl⟩ := hcs
    exact hl
end Go.Proofs.YtclednbclgkdaaaGreatDoor
namespace Go.Proofs.YtclednbclgkdaaaGreatDoor
open Go.RowKit
/-- A put of a plain number. -/
def putI (q : Int × Int) : Ins := ⟨3, 0, false, q.1, false, q.2, false, 0, 0, 0, 0⟩
/-- What the puts come to: the numbers, the count, whether an object was bad. -/
def pts (n : Nat) : List (Int × Int) → List Int → Nat → List Int × Nat × Bool
  | [], wt, c => (wt, c, false)
  | q :: l, wt, c => if 0 ≤ q.1 ∧ q.1 < n then pts n l (wt.set q.1.toNat q.2) (c + 1) else (wt, c + 1, true)
/-- A run's own numbers stand for a list. -/
def Own (os wt : List Int) (s : Rs) : Prop := wt.length = os.length ∧ ∀ i, i < os.length → wt.getD i 0 = if s.st i = 2 then s.nm i else os.getD i 0
theorem Own.lft {os wt : List Int} {s : Rs} (h : Own os wt s) (h1 : s.oc = 1) : lft os s os.length = wt := by
  unfold Go.Proofs.YtclednbclgkdaaaGreatDoor.lft
  apply List.ext_getElem (by simp [h.1])
  intro i h2 h3
  have hi : i < os.length := by simpa using h2
  have := h.2 i hi
  rw [List.getD_eq_getElem?_getD, List.getElem?_eq_getElem h3] at this
  rw [List.getElem_map, List.getElem_range]
  have e : wt[i] = if s.st i = 2 then s.nm i else os.getD i 0 := this
  rw [e]
  by_cases h4 : s.st i = 2
  · rw [if_pos ⟨hi, h1, h4⟩, if_pos h4]
  · rw [if_neg (fun e => h4 e.2.2), if_neg h4]
theorem put_step {os wt : List Int} {q : Int × Int} {s : Rs} (hq : 0 ≤ q.1 ∧ q.1 < os.length) (h : Own os wt s) : Own os (wt.set q.1.toNat q.2) (mstp os [] (putI q) s) ∧ (mstp os [] (putI q) s).oc = s.oc ∧ (mstp os [] (putI q) s).pl = s.pl + 1 ∧ (mstp os [] (putI q) s).rs = s.rs := by
  obtain ⟨x, v⟩ := q
  obtain ⟨k, rfl⟩ : ∃ k : Nat, x = (k : Int) := ⟨x.toNat, by simp only at hq; omega⟩
  have hk : k < os.length := by simp only at hq; omega
  have e : mstp os [] (putI ((k : Int), v)) s = { s.inc.wro os k with nm := fun i => if i = k then v else (s.inc.wro os k).nm i } := by
    unfold mstp putI
    simp only
    rw [if_pos (by decide)]
    have hs : s.sv false (k : Int) = (k : Int) := rfl
    rw [hs, if_pos ⟨by omega, by omega⟩]
    unfold mstpO
    simp only
    rw [if_neg (by decide), if_neg (by decide), if_pos (by decide), Int.toNat_natCast]
    rfl
  rw [e]
  have hw : ∀ i, (s.inc.wro os k).st i = if i = k then 2 else s.st i := fun i => by
    unfold Rs.wro
    split
    · rename_i h2
      have h2 : s.st k = 2 := h2
      by_cases e2 : i = k
      · rw [if_pos e2, e2]; exact h2
      · rw [if_neg e2]; rfl
    · rfl
  have hn : ∀ i, ¬ i = k → (s.inc.wro os k).nm i = s.nm i := fun i hi => by
    unfold Rs.wro
    split
    · rfl
    · exact if_neg hi
  have ho : (s.inc.wro os k).oc = s.oc ∧ (s.inc.wro os k).pl = s.pl + 1 ∧ (s.inc.wro os k).rs = s.rs := by
    unfold Rs.wro
    split <;> exact ⟨rfl, rfl, rfl⟩
  refine ⟨⟨by simp [h.1], fun i hi => ?_⟩, ho⟩
  simp only [Int.toNat_natCast]
  rw [hw]
  by_cases e2 : i = k
  · subst e2
    rw [if_pos rfl, if_pos rfl, if_pos rfl, List.getD_eq_getElem?_getD, List.getElem?_set_self (by rw [h.1]; exact hi)]; rfl
  · rw [if_neg e2, if_neg e2, hn i e2, ← h.2 i hi, List.getD_eq_getElem?_getD, List.getD_eq_getElem?_getD, List.getElem?_set_ne (fun e => e2 e.symm)]
theorem put_bad {os : List Int} {q : Int × Int} {s : Rs} (hq : ¬ (0 ≤ q.1 ∧ q.1 < os.length)) : mstp os [] (putI q) s = s.inc.bad := by
  unfold mstp putI
  simp only
  rw [if_pos (by decide)]
  have hs : s.sv false q.1 = q.1 := rfl
  rw [hs, if_neg hq]
theorem gor_puts {os : List Int} {L : List (Int × Int)} : ∀ (suf pre : List (Int × Int)), pre ++ suf = L → ∀ (wt : List Int) (c f : Nat) (s : Rs), s.oc = 0 → s.pl = (pre.length : Int) → s.rs = 0 → suf.length + 1 ≤ f → Own os wt s →
    (gor (L.map putI) os [] f c s).1.rs = 0 ∧ ((pts os.length suf wt c).2.2 = true → (gor (L.map putI) os [] f c s).1.oc = 3 ∧ (gor (L.map putI) os [] f c s).2 = (pts os.length suf wt c).2.1) ∧ ((pts os.length suf wt c).2.2 = false → (gor (L.map putI) os [] f c s).1.oc = 1 ∧ (gor (L.map putI) os [] f c s).2 = (pts os.length suf wt c).2.1 + 1 ∧ lft os (gor (L.map putI) os [] f c s).1 os.length = (pts os.length suf wt c).1)
  | [], pre, hL, wt, c, f, s, h0, hp, hr, hf, hO => by
    obtain ⟨f, rfl⟩ : ∃ g, f = g + 1 := ⟨f - 1, by omega⟩
    have e : atI (L.map putI) s.pl.toNat = doneI := if_pos (by rw [← hL]; simp; omega)
    rw [gor_step f c h0, e]
    have h1 : (mstp os [] doneI s).oc = 1 := rfl
    have h2 : (mstp os [] doneI s).rs = 0 := rfl
    rw [gor_end f (c + 1) (by rw [h1]; decide)]
    have hO' : Own os wt (mstp os [] doneI s) := hO
    exact ⟨h2, fun h => (by cases h), fun _ => ⟨h1, rfl, hO'.lft h1⟩⟩
  | q :: suf, pre, hL, wt, c, f, s, h0, hp, hr, hf, hO => by
    obtain ⟨f, rfl⟩ : ∃ g, f = g + 1 := ⟨f - 1, by simp at hf; omega⟩
    have hlen : L.length = pre.length + (suf.length + 1) := by rw [← hL]; simp
    have e : atI (L.map putI) s.pl.toNat = putI q := by
      have e1 : s.pl.toNat = pre.length := by omega
      rw [e1]
      have : ¬ pre.length = (L.map putI).length := by simp; omega
      rw [show atI (L.map putI) pre.length = (L.map putI).getD pre.length ins0 from if_neg this]
      rw [← hL, List.getD_eq_getElem?_getD]
      simp
    rw [gor_step f c h0, e]
    by_cases hq : 0 ≤ q.1 ∧ q.1 < os.length
    · have ep : pts os.length (q :: suf) wt c = pts os.length suf (wt.set q.1.toNat q.2) (c + 1) := if_pos hq
      rw [ep]
      obtain ⟨a1, a2, a3, a4⟩ := put_step hq hO
      exact gor_puts suf (pre ++ [q]) (by rw [← hL]; simp) _ (c + 1) f _ (a2.trans h0) (by rw [a3, hp]; simp) (a4.trans hr) (by simp at hf; omega) a1
    · have ep : pts os.length (q :: suf) wt c = (wt, c + 1, true) := if_neg hq
      rw [ep, put_bad hq, gor_end f (c + 1) (by show ¬ (3 : Int) = 0; decide)]
      exact ⟨hr, fun _ => ⟨rfl, rfl⟩, fun h => by cases h⟩
/-- A list of puts may be. -/
theorem puts_chk {L : List (Int × Int)} (h : L.length ≤ 64) : (chk (L.map putI)).1 = 0 := by
  have hc : ∀ q, (putI q).can ((L.map putI).length : Int) = true := fun q => by
    unfold putI Ins.can kdD kdR kdL kdO kdX kdY btw fts opk
    simp
  unfold chk
  rw [if_neg (by simpa using h)]
  have hb : ∀ m, m ≤ (L.map putI).length → firstBad (L.map putI) ((L.map putI).length : Int) m = none := by
    intro m
    induction m with
    | zero => intro _; rfl
    | succ m ih =>
      intro hm
      unfold firstBad
      have hlt : (L.map putI).length - (m + 1) < (L.map putI).length := by omega
      have : ((L.map putI).getD ((L.map putI).length - (m + 1)) ins0).can ((L.map putI).length : Int) = true := by
        rw [List.getD_eq_getElem?_getD, List.getElem?_eq_getElem hlt]
        simp only [Option.getD_some, List.getElem_map]
        exact hc _
      rw [this]
      simp only [Bool.true_eq_false, if_false]
      exact ih (by omega)
  rw [hb _ (Nat.le_refl _)]
  rfl
end Go.Proofs.YtclednbclgkdaaaGreatDoor
namespace Go.Proofs.YtclednbclgkdaaaGreatDoor
open Go.RowKit Go.Deep Go.ChangeShapes Go.WideShapes Go.ChangeAt
/-- Sets in memory. -/
def SETS (w : World) (a : Option Addr) (l : List (Int × Int)) : Prop := ∀ i x, l[i]? = some x → ∃ b off, a = some ⟨b, off, none⟩ ∧ w.cell? ⟨b, off + i * 2, none⟩ = some (.int .i64 x.1) ∧ w.cell? ⟨b, off + i * 2 + 1, none⟩ = some (.int .i64 x.2)
theorem SETS.keep {w w' : World} {a : Option Addr} {l : List (Int × Int)} (h : SETS w a l) (k : Keeps (fun _ => False) w w') : SETS w' a l := fun i x hx => by
  obtain ⟨b, off, e, hc, hd⟩ := h i x hx
  exact ⟨b, off, e, k.cell hc (fun e => e), k.cell hd (fun e => e)⟩
theorem SETS.take {w : World} {a : Option Addr} {l : List (Int × Int)} (h : SETS w a l) (n : Nat) : SETS w a (l.take n) := fun i x hx => by
  rw [List.getElem?_take] at hx
  split at hx
  · exact h i x hx
  · cases hx
theorem open_two {H : Type} {enc : TypeId × Value → H} {P : Program} {W : World} {spare : Nat → Bool} {held : Bool} {e : TypeId} {g0 g1 : Field} {fuel : Nat} {v0 v1 : Value} {x : DataW H × List MemPlace}
    (hs : P.underlying e = some (.struct #[g0, g1])) (o0 : g0.offset = 0) (o1 : g1.offset = 1) (c0 : P.cellsOf g0.type = 1) (c1 : P.cellsOf g1.type = 1) (u0 : P.underlying g0.type = some (.int .i64)) (u1 : P.underlying g1.type = some (.int .i64))
    (h : DataW.trod enc P W 0 spare held fuel e [v0, v1] = some x) : ∃ (r n : Int), v0 = .int .i64 r ∧ v1 = .int .i64 n := by
  obtain ⟨y0, y1, k, _, _, G0, G1⟩ := trod_struct2 hs h
  simp [o0, o1, c0, c1] at G0 G1
  obtain ⟨b, r0, _⟩ := DataW.trod_int u0 G0
  obtain ⟨q, r1, _, _⟩ := DataW.trod_int u1 G1
  simp at r0 r1
  exact ⟨b, q, r0, r1⟩
/-- Sets that were handed in. -/
theorem open_sets {H : Type} {enc : TypeId × Value → H} {P : Program} {W : World} {spare : Nat → Bool} {held : Bool} {t e : TypeId} {g0 g1 : Field} {fuel : Nat} {a : Option Addr} {len cap : Nat} {x : DataW H × List MemPlace}
    (ht : P.underlying t = some (.slice e)) (hs : P.underlying e = some (.struct #[g0, g1])) (ce : P.cellsOf e = 2) (o0 : g0.offset = 0) (o1 : g1.offset = 1) (c0 : P.cellsOf g0.type = 1) (c1 : P.cellsOf g1.type = 1) (u0 : P.underlying g0.type = some (.int .i64)) (u1 : P.underlying g1.type = some (.int .i64))
    (h : DataW.trod enc P W 0 spare held fuel t [.slice a len cap] = some x) : ∃ l : List (Int × Int), l.length = len ∧ SETS W a l := by
  by_cases h0 : len = 0
  · subst h0
    exact ⟨[], rfl, fun i x hi => by simp at hi⟩
  rcases open_slice ht h with ⟨hcs, _⟩ | ⟨a', len', cap', m, n, D, Pl, hcs, hb, hl, hm, hmm, rfl, hx⟩
  · simp at hcs; omega
  simp at hcs
  obtain ⟨rfl, rfl, rfl⟩ := hcs
  have hlm : len ≤ m := by rw [hmm]; split <;> omega
  have each : ∀ i, i < len → ∃ q : Int × Int, W.cell? (a'.add (i * 2)) = some (.int .i64 q.1) ∧ W.cell? (a'.add (i * 2 + 1)) = some (.int .i64 q.2) := by
    intro i hi
    obtain ⟨cs', h1, h2⟩ := hx i (by omega)
    rw [ce] at h1
    obtain ⟨_, hlen, hcell⟩ := World.cells?_some h1
    match cs', hlen with
    | [z0, z1], _ =>
      obtain ⟨b, q, rfl, rfl⟩ := open_two hs o0 o1 c0 c1 u0 u1 h2
      have cj := hcell 0 (by omega)
      have ck := hcell 1 (by omega)
      rw [add_add] at cj ck
      refine ⟨(b, q), ?_, ?_⟩
      · simpa using cj
      · simpa using ck
  obtain ⟨b, off, spot⟩ := a'
  obtain ⟨q0, z0, _⟩ := each 0 (by omega)
  have hspot : spot = none := by simpa [Addr.add] using World.cell?_spot z0
  subst hspot
  obtain ⟨V, hV⟩ := choose_lt each
  refine ⟨(List.range len).map V, by simp, fun i x hi => ?_⟩
  have hil : i < len := by have := (List.getElem?_eq_some_iff.1 hi).1; simpa using this
  have : x = V i := by simpa [hil] using hi.symm
  subst this
  obtain ⟨hv, hu⟩ := hV i hil
  rw [add_at] at hv hu
  exact ⟨b, off, rfl, hv, by rw [← Nat.add_assoc] at hu; exact hu⟩
end Go.Proofs.YtclednbclgkdaaaGreatDoor
namespace Go.Proofs.YtclednbclgkdaaaGreatDoor
open Go.RowKit Go.Deep Go.ChangeShapes Go.WideShapes Go.ChangeAt
/-- A list's room, and that of none. -/
theorem open_cap2 {H : Type} {enc : TypeId × Value → H} {P : Program} {W : World} {spare : Nat → Bool} {held : Bool} {t e : TypeId} {fuel : Nat} {a : Option Addr} {len cap : Nat} {x : DataW H × List MemPlace}
    (ht : P.underlying t = some (.slice e)) (h : DataW.trod enc P W 0 spare held fuel t [.slice a len cap] = some x) : len ≤ cap ∧ (a = none → cap = 0) := by
  rcases open_slice ht h with ⟨hcs, _⟩ | ⟨a', len', cap', m, n, D, Pl, hcs, hb, hl, hm, hmm, rfl, hx⟩
  · simp at hcs
    obtain ⟨rfl, rfl, rfl⟩ := hcs
    exact ⟨Nat.le_refl _, fun _ => rfl⟩
  · simp at hcs
    obtain ⟨rfl, rfl, rfl⟩ := hcs
    exact ⟨hl, fun e => by cases e⟩
/-- Where the puts stand behind the first k. -/
def ptk (n : Nat) (L : List (Int × Int)) (os : List Int) : Nat → List Int × Nat × Bool
  | 0 => (os, 0, false)
  | k + 1 => if (ptk n L os k).2.2 = true then ptk n L os k else if 0 ≤ (L.getD k (0, 0)).1 ∧ (L.getD k (0, 0)).1 < n then ((ptk n L os k).1.set (L.getD k (0, 0)).1.toNat (L.getD k (0, 0)).2, (ptk n L os k).2.1 + 1, false) else ((ptk n L os k).1, (ptk n L os k).2.1 + 1, true)
theorem ptk_pts {n : Nat} {L : List (Int × Int)} {os : List Int} : ∀ k, k ≤ L.length → ((ptk n L os k).2.2 = true → pts n L os 0 = ptk n L os k) ∧ ((ptk n L os k).2.2 = false → pts n L os 0 = pts n (L.drop k) (ptk n L os k).1 (ptk n L os k).2.1)
  | 0, _ => ⟨fun h => (by cases h), fun _ => rfl⟩
  | k + 1, hk => by
    obtain ⟨i1, i2⟩ := ptk_pts (n := n) (L := L) (os := os) k (by omega)
    have e : ptk n L os (k + 1) = if (ptk n L os k).2.2 = true then ptk n L os k else if 0 ≤ (L.getD k (0, 0)).1 ∧ (L.getD k (0, 0)).1 < n then ((ptk n L os k).1.set (L.getD k (0, 0)).1.toNat (L.getD k (0, 0)).2, (ptk n L os k).2.1 + 1, false) else ((ptk n L os k).1, (ptk n L os k).2.1 + 1, true) := rfl
    have hd : L.drop k = L.getD k (0, 0) :: L.drop (k + 1) := by
      rw [List.drop_eq_getElem_cons (by omega), List.getD_eq_getElem?_getD, List.getElem?_eq_getElem (by omega)]; rfl
    rw [e]
    by_cases hb : (ptk n L os k).2.2 = true
    · rw [if_pos hb]
      exact ⟨fun _ => i1 hb, fun h => by rw [hb] at h; cases h⟩
    · rw [if_neg hb]
      have hf : (ptk n L os k).2.2 = false := by simpa using hb
      have hp := i2 hf
      rw [hd] at hp
      by_cases hq : 0 ≤ (L.getD k (0, 0)).1 ∧ (L.getD k (0, 0)).1 < n
      · rw [if_pos hq]
        exact ⟨fun h => (by cases h), fun _ => hp.trans (if_pos hq)⟩
      · rw [if_neg hq]
        exact ⟨fun _ => hp.trans (if_neg hq), fun h => by cases h⟩
theorem ptk_end {n : Nat} {L : List (Int × Int)} {os : List Int} : pts n L os 0 = ptk n L os L.length := by
  obtain ⟨h1, h2⟩ := ptk_pts (n := n) (L := L) (os := os) L.length (Nat.le_refl _)
  cases hb : (ptk n L os L.length).2.2 with
  | true => exact h1 hb
  | false =>
    rw [h2 hb, List.drop_length]
    show ((ptk n L os L.length).1, (ptk n L os L.length).2.1, false) = _
    rw [← hb]
theorem ptk_len {n : Nat} {L : List (Int × Int)} {os : List Int} : ∀ k, (ptk n L os k).1.length = os.length ∧ (ptk n L os k).2.1 ≤ k
  | 0 => ⟨rfl, Nat.le_refl _⟩
  | k + 1 => by
    have i := ptk_len (n := n) (L := L) (os := os) k
    unfold ptk
    split
    · exact ⟨i.1, by omega⟩
    · split
      · exact ⟨by simp [i.1], by show _ + 1 ≤ _; omega⟩
      · exact ⟨i.1, by show _ + 1 ≤ _; omega⟩
/-- A copy of numbers. -/
theorem copy_n {W0 : World} {ao : Option Addr} {os : List Int} (co : Nat) (hO : NUM W0 ao os) (hz : ao = none → co = 0) (hn : os.length ≤ 16) :
    ∃ v' W', (Builtin.append_ #[22, 22] 22 #[.slice (some ⟨W0.heap.size, 0, none⟩) 0 0, .slice ao os.length co]).run Tryz.prog (W0.alloc (.cells #[] 2)) = .ok v' W' ∧ W'.ownsRow W0.heap.size 2 1 v' os.length (nvs os) ∧ Keeps (fun _ => False) W0 W' := by
  obtain ⟨i0, hi0, hz0, hz1, hz2⟩ := n64i
  have k0 : Keeps (fun _ => False) W0 (W0.alloc (.cells #[] 2)) := (Keeps.refl _ W0).alloc _
  have o0 : (W0.alloc (.cells #[] 2)).ownsRow W0.heap.size 2 1 (.slice (some ⟨W0.heap.size, 0, none⟩) 0 0) 0 [] := ⟨rfl, .inr ⟨W0.heap.size, 0, #[], rfl, Nat.le_refl _, heap_alloc_new W0 _, Nat.le_refl _, by unfold maxLen; omega, rfl, rfl⟩⟩
  cases ao with
  | none =>
    have hl : os = [] := by
      cases os with
      | nil => rfl
      | cons x r => obtain ⟨b, off, e, _⟩ := hO 0 x rfl; cases e
    subst hl
    rw [hz rfl]
    exact ⟨_, _, run_append_owned_none (P := Tryz.prog) (w := W0.alloc (.cells #[] 2)) W0.heap.size 22 22 2 i0 1 nI hi0 _ 0 [] o0, o0, k0⟩
  | some a =>
    have hsrc : ∀ j u, (nvs os)[j]? = some u → (W0.alloc (.cells #[] 2)).cell? (a.add j) = some u := fun j u e => by
      unfold nvs at e
      rw [List.getElem?_map] at e
      cases hx : os[j]? with
      | none => rw [hx] at e; cases e
      | some x =>
        rw [hx] at e
        cases e
        obtain ⟨b, off, e', hc⟩ := hO j x hx
        cases e'
        rw [add_at]
        exact k0.cell hc (fun e => e)
    obtain ⟨v', w', hr, ho, hgr, _, _⟩ := run_append_own_at (P := Tryz.prog) (w := W0.alloc (.cells #[] 2)) W0.heap.size 22 22 2 i0 _ 1 8 nI hi0 hz0 hz1 hz2 rfl (by decide) _ 0 [] o0 a os.length co (nvs os) (by simp [nvs]) hsrc (fun u hu => by
      unfold nvs at hu
      obtain ⟨x, _, rfl⟩ := List.mem_map.1 hu
      rfl) (by unfold maxLen; omega) (by omega) k0.size
    rw [Nat.zero_add, List.nil_append] at ho
    exact ⟨v', w', hr, ho, k0.trans' ((Keeps.refl _ _).grown hgr (S := fun i => i = W0.heap.size) (fun i _ e => by simp [Value.ownBlock] at e; exact e.symm)) (fun _ _ e => e) (fun i hi e => by omega)⟩
theorem cl_of_owns {W : World} {base n : Nat} {v : Value} {l : List Int} (h : W.ownsRow base 2 1 v n (nvs l)) (hn : l.length = n) : ∃ a cap g, v = .slice a n cap ∧ base ≤ g ∧ CL W g (nvs l) ∧ (0 < n → a = some ⟨g, 0, none⟩ ∧ g < W.heap.size) := by
  rcases h.2 with ⟨rfl, h0⟩ | ⟨g, cap, cur, rfl, hb, hgg, rest⟩
  · have hz : n = 0 := by first | exact h0.1 | omega
    subst hz
    have hl : l = [] := List.eq_nil_of_length_eq_zero hn
    subst hl
    exact ⟨none, 0, base, rfl, Nat.le_refl _, ⟨fun o v e => by simp [nvs] at e, fun o ho => absurd ho (Nat.not_lt_zero _)⟩, fun h => by omega⟩
  · refine ⟨_, cap, g, rfl, hb, ⟨fun o v e => ?_, fun o _ => by simp [World.frozen?, hgg]⟩, fun _ => ⟨rfl, owns_lt' h g rfl⟩⟩
    have hc := h.cells (g := g) rfl o v e
    rw [add_at, Nat.zero_add] at hc
    exact hc
end Go.Proofs.YtclednbclgkdaaaGreatDoor
