import Derived.Test.YtmnmphkkcabkiaaG12
import Derived.Test.YtmnmphkkcabkiaaG11
import Derived.Shelf.SlIterI.Collect
import Derived.Ground.GgzProg
import Derived.Sort.MapsRangeIn
import Derived.RangeFuncLeaves
import Derived.WalkKit
import Derived.OwnWalkIn
import Derived.TacticsInMore
import Derived.RegionIn
import Derived.LoopNIn
import Derived.LoopIn
import Derived.Shelf.AbstractIn
namespace Go.Proofs.Ytmnmphkkcabkiaa
open Go.RowKit
def wrT (f : Nat → Int) (ts : List Tv) (th : Nat) : List Wo := (ts.getD (f (th * 5 + 3) - 1).toNat tv0).wrs
structure PW (base : Nat) (W : World) (f : Nat → Int) (ts : List Tv) (Q : Nat → Value) (mb : Nat → Nat) (m : Nat) : Prop where
  q : ∀ th, th < 6 → f (th * 5) = 1 → Q th = .map (some (mb th)) ∧ base ≤ mb th ∧ MV W (mb th) (wrT f ts th).length (wof (wrT f ts th))
  d : ∀ th th', th < 6 → th' < 6 → f (th * 5) = 1 → f (th' * 5) = 1 → th ≠ th' → mb th ≠ mb th'
  l : ∀ th, th < 6 → f (th * 5) = 1 → (wrT f ts th).length ≤ m
theorem PW.start (base : Nat) (W : World) (ts : List Tv) (Q : Nat → Value) (mb : Nat → Nat) (m : Nat) : PW base W (f0 6) ts Q mb m := by
  have h0 : ∀ th, th < 6 → f0 6 (th * 5) ≠ 1 := fun th ht => by unfold f0; rw [if_neg (by omega)]; decide
  exact ⟨fun th h1 h => absurd h (h0 th h1), fun th th' h1 _ h => absurd h (h0 th h1), fun th h1 h => absurd h (h0 th h1)⟩
theorem PW.keep {base m : Nat} {W W' : World} {f : Nat → Int} {ts : List Tv} {Q : Nat → Value} {mb : Nat → Nat} (h : PW base W f ts Q mb m) {S : Nat → Prop} (k : Keeps S W W') (hS : ∀ b, base ≤ b → ¬ S b) : PW base W' f ts Q mb m :=
  ⟨fun th h1 h2 => ⟨(h.q th h1 h2).1, (h.q th h1 h2).2.1, (h.q th h1 h2).2.2.keep k (hS _ (h.q th h1 h2).2.1)⟩, h.d, h.l⟩
theorem PW.more {base m m' : Nat} {W : World} {f : Nat → Int} {ts : List Tv} {Q : Nat → Value} {mb : Nat → Nat} (h : PW base W f ts Q mb m) (hm : m ≤ m') : PW base W f ts Q mb m' :=
  ⟨h.q, h.d, fun th h1 h2 => Nat.le_trans (h.l th h1 h2) hm⟩
theorem PW.sub {base m : Nat} {W : World} {f f' : Nat → Int} {ts : List Tv} {Q : Nat → Value} {mb : Nat → Nat} (h : PW base W f ts Q mb m) (hs : ∀ q, q < 6 → f' (q * 5) = 1 → f (q * 5) = 1 ∧ f' (q * 5 + 3) = f (q * 5 + 3)) : PW base W f' ts Q mb m := by
  have e : ∀ q, q < 6 → f' (q * 5) = 1 → wrT f' ts q = wrT f ts q := fun q hq h1 => by unfold wrT; rw [(hs q hq h1).2]
  exact ⟨fun q h1 h2 => by rw [e q h1 h2]; exact h.q q h1 (hs q h1 h2).1, fun a b ha hb h1 h2 => h.d a b ha hb (hs a ha h1).1 (hs b hb h2).1, fun q h1 h2 => by rw [e q h1 h2]; exact h.l q h1 (hs q h1 h2).1⟩
theorem PW.begin {base m th pb mn : Nat} {W W' : World} {f : Nat → Int} {ts : List Tv} {Q : Nat → Value} {mb : Nat → Nat} {r : Rw} {sti : Int} (h : PW base W f ts Q mb m) (hv : VI f ts.length) (hk : r.kind = 1 ∨ r.kind = 2) (hro : RO f ts.length r) (hp : pb < base) (hb : base ≤ mn) (hmn : W.heap.size ≤ mn) (k2 : Keeps (fun b => b = pb) W W') (hm2 : MV W' mn 0 (fun _ => none)) :
    PW base W' (folP f r th) (ts ++ [begD r sti]) (fun o => if o = th then .map (some mn) else Q o) (fun o => if o = th then mn else mb o) m := by
  have hk0 : r.kind ≠ 0 := by omega
  have hrb := hro.b hk
  have hno : folP f r th (th * 5 + 3) = r.no := folP_no hk0
  have hot : ∀ q o, q < 6 → q ≠ th → o < 5 → folP f r th (q * 5 + o) = f (q * 5 + o) := fun q o hq e ho => folP_other hk0 hq e ho
  have ho0 : ∀ q, q < 6 → q ≠ th → folP f r th (q * 5) = f (q * 5) := fun q hq e => by have := hot q 0 hq e (by omega); rwa [Nat.add_zero] at this
  have h2 := h.keep k2 (fun b hb e => by have e : b = pb := e; omega)
  have eo : ∀ q, q < 6 → q ≠ th → f (q * 5) = 1 → wrT (folP f r th) (ts ++ [begD r sti]) q = wrT f ts q := fun q hq e h1 => by
    have := hv.t q hq (by rw [h1]; decide)
    unfold wrT
    rw [hot q 3 hq e (by omega), getD_app_left (by omega)]
  have et : wrT (folP f r th) (ts ++ [begD r sti]) th = [] := by
    unfold wrT
    rw [hno, hrb.1, show ((ts.length : Int) + 1 - 1).toNat = ts.length by omega, getD_app_right]
    rfl
  have lt : ∀ q, q < 6 → f (q * 5) = 1 → mb q < W.heap.size := fun q hq h1 => (h.q q hq h1).2.2.lt
  refine ⟨fun q hq h1 => ?_, fun a b ha hb h1 h3 hab => ?_, fun q hq h1 => ?_⟩
  · by_cases e : q = th
    · subst e
      rw [if_pos rfl, if_pos rfl, et]
      exact ⟨rfl, hb, hm2⟩
    · rw [ho0 q hq e] at h1
      rw [if_neg e, if_neg e, eo q hq e h1]
      exact h2.q q hq h1
  · by_cases e : a = th
    · by_cases e2 : b = th
      · omega
      · rw [ho0 b hb e2] at h3
        rw [if_pos e, if_neg e2]
        have := lt b hb h3
        omega
    · rw [ho0 a ha e] at h1
      by_cases e2 : b = th
      · rw [if_neg e, if_pos e2]
        have := lt a ha h1
        omega
      · rw [ho0 b hb e2] at h3
        rw [if_neg e, if_neg e2]
        exact h.d a b ha hb h1 h3 hab
  · by_cases e : q = th
    · subst e
      rw [et]
      exact Nat.zero_le _
    · rw [ho0 q hq e] at h1
      rw [eo q hq e h1]
      exact h.l q hq h1
theorem wrT_set {f : Nat → Int} {ts : List Tv} {r : Rw} {th q : Nat} (hlv : LV f ts) (hv : VI f ts.length) (ht : th < 6) (hl : f (th * 5) = 1) (hno : r.no = f (th * 5 + 3)) (hq : q < 6) (hq1 : f (q * 5) = 1) : wrT f (ts.set (r.no - 1).toNat (addD (ts.getD (r.no - 1).toNat tv0) r)) q = if q = th then (if r.puts = true then putD (wrT f ts th) (wroD r) else wrT f ts th) else wrT f ts q := by
  have h1 := hv.t th ht (by rw [hl]; decide)
  have h2 := hv.t q hq (by rw [hq1]; decide)
  unfold wrT
  by_cases e : q = th
  · subst e
    rw [if_pos rfl, ← hno, getD_set_eq (by omega), addD_wrs]
  · rw [if_neg e, getD_set_ne (fun e2 => e (hlv.d q th hq ht hq1 hl (by omega)))]
theorem PW.quiet {base m th : Nat} {W : World} {f : Nat → Int} {ts : List Tv} {Q : Nat → Value} {mb : Nat → Nat} {r : Rw} (h : PW base W f ts Q mb m) (hlv : LV f ts) (hv : VI f ts.length) (ht : th < 6) (hl : f (th * 5) = 1) (hno : r.no = f (th * 5 + 3)) (hp : r.puts = false) : PW base W f (ts.set (r.no - 1).toNat (addD (ts.getD (r.no - 1).toNat tv0) r)) Q mb m := by
  have e : ∀ q, q < 6 → f (q * 5) = 1 → wrT f (ts.set (r.no - 1).toNat (addD (ts.getD (r.no - 1).toNat tv0) r)) q = wrT f ts q := fun q hq h1 => by
    rw [wrT_set hlv hv ht hl hno hq h1, hp]
    by_cases e : q = th
    · rw [if_pos e, if_neg (by decide), e]
    · rw [if_neg e]
  exact ⟨fun q h1 h2 => by rw [e q h1 h2]; exact h.q q h1 h2, h.d, fun q h1 h2 => by rw [e q h1 h2]; exact h.l q h1 h2⟩
theorem PW.put {base m th : Nat} {W W' : World} {f : Nat → Int} {ts : List Tv} {Q : Nat → Value} {mb : Nat → Nat} {r : Rw} (h : PW base W f ts Q mb m) (hlv : LV f ts) (hv : VI f ts.length) (ht : th < 6) (hl : f (th * 5) = 1) (hno : r.no = f (th * 5 + 3)) (hp : r.puts = true) (hi : Inc (wrT f ts th))
    (hM : MV W' (mb th) (if (wof (wrT f ts th) r.object).isSome then (wrT f ts th).length else (wrT f ts th).length + 1) (updV (wof (wrT f ts th)) r.object (wroD r).val)) (k : Keeps (fun b => b = mb th) W W') : PW base W' f (ts.set (r.no - 1).toNat (addD (ts.getD (r.no - 1).toNat tv0) r)) Q mb (m + 1) := by
  have e : ∀ q, q < 6 → f (q * 5) = 1 → wrT f (ts.set (r.no - 1).toNat (addD (ts.getD (r.no - 1).toNat tv0) r)) q = if q = th then insW (wroD r) (wrT f ts th) else wrT f ts q := fun q hq h1 => by
    rw [wrT_set hlv hv ht hl hno hq h1, hp, if_pos rfl, putD_ins hi]
  refine ⟨fun q h1 h2 => ?_, h.d, fun q h1 h2 => ?_⟩
  · rw [e q h1 h2]
    by_cases e1 : q = th
    · subst e1
      rw [if_pos rfl]
      refine ⟨(h.q q h1 h2).1, (h.q q h1 h2).2.1, ?_⟩
      rw [ins_len hi, funext (wof_ins hi)]
      exact hM
    · rw [if_neg e1]
      exact ⟨(h.q q h1 h2).1, (h.q q h1 h2).2.1, (h.q q h1 h2).2.2.keep k (fun e2 => h.d q th h1 ht h2 hl e1 e2)⟩
  · rw [e q h1 h2]
    split
    · rw [ins_len hi]
      have := h.l th ht hl
      split <;> omega
    · have := h.l q h1 h2
      omega
theorem sub_of {f : Nat → Int} {r : Rw} {th : Nat} (hk : r.kind ≠ 0) (h1 : r.kind ≠ 1) (h2 : r.kind ≠ 2) (h17 : r.kind ≠ 17) (hno : r.no = f (th * 5 + 3)) : ∀ q, q < 6 → folP f r th (q * 5) = 1 → f (q * 5) = 1 ∧ folP f r th (q * 5 + 3) = f (q * 5 + 3) := fun q hq e => by
  by_cases e1 : q = th
  · subst e1
    rw [fol_state hk] at e
    refine ⟨?_, by rw [folP_no hk, hno]⟩
    split at e
    · cases e
    · split at e
      · cases e
      · rw [if_neg (by omega)] at e
        (try rw [if_neg h17] at e)
        exact e
  · have := folP_other (f := f) (r := r) (th := th) (o := 0) hk hq e1 (by omega)
    rw [Nat.add_zero] at this
    rw [this] at e
    exact ⟨e, folP_other hk hq e1 (by omega)⟩
theorem sub_no {f : Nat → Int} {r : Rw} {th : Nat} (hf : r.fin = 0) (hk : r.kind = 0 ∨ r.kind = 17) : ∀ q, q < 6 → folP f r th (q * 5) = 1 → f (q * 5) = 1 ∧ folP f r th (q * 5 + 3) = f (q * 5 + 3) := fun q hq e => by
  by_cases h0 : r.kind = 0
  · have e1 : folP f r th = f := by unfold folP; rw [if_pos h0]
    rw [e1] at e ⊢
    exact ⟨e, rfl⟩
  · by_cases e1 : q = th
    · subst e1
      rw [fol_state h0, hf, if_neg (by decide), if_neg (by decide), if_neg (by omega), if_pos (by omega)] at e
      cases e
    · have := folP_other (f := f) (r := r) (th := th) (o := 0) h0 hq e1 (by omega)
      rw [Nat.add_zero] at this
      rw [this] at e
      exact ⟨e, folP_other h0 hq e1 (by omega)⟩
end Go.Proofs.Ytmnmphkkcabkiaa

namespace Go.Proofs.Ytmnmphkkcabkiaa
open Go.RowKit
attribute [local go_sem] Oper.semAt_some run_store_nf run_store_f
theorem run_store_mp {w : World} {b o : Nat} (hc : (w.cell? ⟨b, o, none⟩).isSome = true) (hz : w.frozen? ⟨b, o, none⟩ = false) (m : Nat) : (storeVar 64 ⟨b, o, none⟩ (.map (some m))).run Try.prog w = .ok () (w.setCell ⟨b, o, none⟩ (.map (some m))) := by
  obtain ⟨u, hu⟩ := Option.isSome_iff_exists.1 hc
  go_simp
theorem wpList_store_mp {w : World} {ops : Array Oper} {rest : List Oper} {o : Oper} {a : Act} {Q : Exit → Act → World → Prop} (hgd : o.guard = none) (hd : o.dst = none) (x y : Operand) (ho : o.op = .store 64 x y) (b off : Nat) (hx : a.eval x = .pointer (some ⟨b, off, none⟩)) (m : Nat) (hy : a.eval y = .map (some m))
    {n : Nat} {f : Nat → Value} (hB : VB w b n f) (hl : off < n) (h : ∀ w1, VB w1 b n (fun o => if o = off then .map (some m) else f o) → Keeps (fun k => k = b) w w1 → w1.heap.size = w.heap.size → wpList Try.prog ops Q rest a w1) : wpList Try.prog ops Q (o :: rest) a w :=
  wpList_plain hgd fun _ hK => by
    unfold Oper.wp execOp
    simp only [ho, hx, hy, Instr.storeAt, Instr.sureAddr, Sem.run_bind, Sem.run_pure, Result.andThen_ok, run_store_mp (by rw [hB.c off hl]; rfl) (hB.z off hl) m]
    refine hK _ _ ?_
    rw [hd]
    exact (h _ (hB.set hl _) ((Keeps.refl (fun k => k = b) w).setCell (p := ⟨b, off, none⟩) (fun _ => rfl) _) (by simp))
set_option maxHeartbeats 1000000 in
set_option maxRecDepth 100000 in
theorem at_no {w : World} {a fa : Option Addr} {cap n fc i : Nat} {s : Int} {l : List Rw} (hl : RSL w a l) (hlen : l.length ≤ 980000000000) (hf : fstP l 0 (f0 6) = some i) : Calls Try.prog 11 #[.slice fa n fc, .slice a l.length cap, .int .i64 s] w fun e w' => e = .returned (.tuple #[.slice none 0 0, .int .i64 150]) ∧ Keeps (fun _ => False) w w' := by
  have hck := upTo_no (cap := cap) (s := s) hl hlen hf
  clear hl hf
  generalize l.length = N at *
  go_enter Try.func11, Try.ntmps11
  go_wp2_with (go_at_call 20; refine hck.mono ?_; clear hck; rintro e w1 ⟨rfl, k1⟩)
  go_ret2
  exact ⟨rfl, k1⟩
set_option maxHeartbeats 1000000 in
set_option maxRecDepth 100000 in
theorem at_ok {w : World} {a fa : Option Addr} {cap n fc : Nat} {s : Int} {l : List Rw} {F0 : Nat → V3} (hl : RSL w a l) (hlen : l.length ≤ 980000000000) (hcap : l.length ≤ cap) (hza : a = none → cap = 0) (hf : fstP l 0 (f0 6) = none) (hi64 : ∀ k, k < l.length → I64 (l.getD k rw0).object ∧ I64 (l.getD k rw0).entry) (hs : -1 ≤ s ∧ s < (l.length : Int)) (hv : VS w fa n F0) (hz : fa = none → fc = 0) (hn : n * 24 ≤ 140737488355328) :
    Calls Try.prog 11 #[.slice fa n fc, .slice a l.length cap, .int .i64 s] w fun e w' => ∃ v, e = .returned (.tuple #[v, .int .i64 0]) ∧ w'.ownsRow w.heap.size 27 3 v n (gvl (fwK l F0 (s + 1).toNat) n) ∧ Keeps (fun _ => False) w w' := by
  obtain ⟨K, hK⟩ : ∃ K : Nat, s + 1 = (K : Int) := ⟨(s + 1).toNat, by omega⟩
  have hck := upTo_ok (cap := cap) hl hlen hcap hza hf hs hK
  rw [hK, show ((K : Int)).toNat = K by omega]
  have hKN : K ≤ l.length := by omega
  have HCL : Hid (∀ W, Keeps (fun _ => False) w W → Calls Try.prog 21 #[.slice fa n fc] W fun e w' => ∃ v, e = .returned v ∧ w'.ownsRow W.heap.size 27 3 v n (gvl F0 n) ∧ Keeps (fun _ => False) W w') := fun W k => clone_v (hv.keep k) hz hn
  have HL : Hid (RSL w a l) := hl
  have HF : Hid (fstP l 0 (f0 6) = none) := hf
  have HI : Hid (∀ k, k < l.length → I64 (l.getD k rw0).object ∧ I64 (l.getD k rw0).entry) := hi64
  clear hl hf hv hz hza hcap hi64 hK hs
  generalize hN : l.length = N at *
  go_enter Try.func11, Try.ntmps11
  go_wp2_with (first | (go_at_call 20; refine hck.mono ?_; clear hck; rintro e w1 ⟨rfl, k1⟩) | (go_at_call 21; refine (HCL.out w1 k1).mono ?_; clear HCL; rintro e w2 ⟨vv, rfl, ho2, k2⟩; obtain ⟨av, cv, rfl, -⟩ := own_slice ho2; obtain ⟨X, hX⟩ : ∃ X, X = w2.alloc (.cells #[.map none, .map none, .map none, .map none, .map none, .map none] 65) := ⟨_, rfl⟩; have HX : Hid (X = w2.alloc (.cells #[.map none, .map none, .map none, .map none, .map none, .map none] 65)) := hX; clear hX))
  rw [← HX.out]
  have kX : Keeps (fun _ => False) w2 X := by rw [HX.out]; exact (Keeps.refl _ w2).alloc _
  have hVX : VB X w2.heap.size 6 (fun _ => .map none) := by rw [HX.out]; exact VB.made w2 6 (.map none) _
  have zX : X.heap.size = w2.heap.size + 1 := by rw [HX.out]; simp
  have hOX := kX.owns ho2 (fun _ _ e => e)
  have hlo : ∀ b, (Value.slice av n cv).ownBlock = some b → w1.heap.size ≤ b ∧ b < w2.heap.size := fun b e => ⟨owns_baseT ho2 b e, owns_lt' ho2 b e⟩
  have kwX := (k1.trans k2).trans kX
  have z1 := k1.size
  have z2 := k2.size
  have HPX : Hid (PW (w2.heap.size + 1) X (fAt l 0) (txK l 0).1 (fun _ => .map none) (fun _ => 0) 0) := PW.start _ _ _ _ _ _
  have HZX : Hid (X.heap.size = w2.heap.size + 1) := zX
  clear HX ho2 k1 k2 kX zX
  go_loopw [26] (fun iv Wr => ∃ (k : Nat) (Q : Nat → Value) (mb : Nat → Nat), iv = .int .i64 (k : Int) ∧ k ≤ K ∧ Wr.ownsRow w1.heap.size 27 3 (.slice av n cv) n (gvl (fwK l F0 k) n) ∧ VB Wr w2.heap.size 6 Q ∧ PW (w2.heap.size + 1) Wr (fAt l k) (txK l k).1 Q mb k ∧ Keeps (fun _ => False) w Wr) (fun iv _ => K - (intOf iv).toNat)
  case atStart => exact ⟨0, _, _, rfl, Nat.zero_le _, hOX, hVX, HPX.out, kwX⟩
  case round =>
    obtain ⟨k, Q, mb, rfl, hk, hO, hV, hP, kr⟩ := hrel
    clear hOX hVX HPX kwX HZX
    by_cases hlt : k < K
    · have l1 : decide ((k : Int) < (K : Int)) = true := decide_eq_true (by omega)
      have l2 : (k : Int) < (K : Int) := by omega
      have l4 : decide (k < K) = true := decide_eq_true hlt
      have hf := HF.out
      obtain ⟨b, off, rfl, hc⟩ := HL.out k (by omega)
      have hR := run_rwAt (W := wr) (fun j v e => kr.cell (hc j v e) (fun e => e))
      have hvi := txK_vi hf k (by omega)
      have hlv := lv_inv hf k (by omega)
      have hfit := (row_ok hf (by omega : k < l.length)).2
      have hro := hvi.row hfit
      have hinc := inc_inv hf k (by omega)
      have hpos := wrs_pos hf (k + 1) (by omega)
      have hi64k := HI.out k (by omega)
      have HNX : Hid (txK l (k + 1) = stT (txK l k) (l.getD k rw0)) := rfl
      have HFX : Hid (fAt l (k + 1) = folP (fAt l k) (l.getD k rw0) (l.getD k rw0).thread.toNat) := rfl
      have HFW : Hid (fwK l F0 (k + 1) = if (l.getD k rw0).fin = 1 then layF ((txK l (k + 1)).1.getD ((l.getD k rw0).no - 1).toNat tv0).wrs (fwK l F0 k) else fwK l F0 k) := rfl
      clear hc hf
      rw [HNX.out] at hpos
      generalize l.getD k rw0 = r at *
      generalize txK l k = s at *
      generalize fAt l k = fk at *
      obtain ⟨ts, g⟩ := s
      dsimp only at hP hro hvi hlv hinc
      have hvl := hV.lt (by decide)
      have hmb : ∀ th, th < 6 → fk (th * 5) = 1 → mb th < wr.heap.size := fun th h1 h2 => (hP.q th h1 h2).2.2.lt
      obtain ⟨W4, hW4⟩ : ∃ W4, W4 = wr.alloc (.cells rw0.cells.toArray 50) := ⟨_, rfl⟩
      have k4 : Keeps (fun _ => False) wr W4 := by rw [hW4]; exact (Keeps.refl _ wr).alloc _
      have hU4 : CL W4 wr.heap.size rw0.cells := by rw [hW4]; exact CL.made wr rw0.cells _
      have HW4 : Hid (W4 = wr.alloc (.cells rw0.cells.toArray 50)) := hW4
      have hOC := all_oneCell_rw r
      clear hW4
      unfold rw0 Rw.cells at HW4
      dsimp only at HW4
      by_cases hkd : r.kind = 1 ∨ r.kind = 2
      · have hth := hro.th (by omega)
        have hrb := hro.b hkd
        obtain ⟨th, et⟩ : ∃ th : Nat, r.thread = (th : Int) := ⟨r.thread.toNat, by omega⟩
        have HET : Hid (r.thread = (th : Int)) := et
        have HET2 : Hid (r.thread.toNat = th) := by show _ = _; omega
        have i1 : (0 : Int) ≤ (th : Int) := by omega
        have i2 : (th : Int) < 6 := by omega
        have i3 : th < 6 := by omega
        obtain ⟨sti, hsti⟩ : ∃ sti, (stT (ts, g) r).1 = ts ++ [begD r sti] := by
          unfold stT
          rcases hkd with e | e
          · rw [if_pos e]; exact ⟨_, rfl⟩
          · rw [if_neg (by omega), if_pos e]; exact ⟨_, rfl⟩
        have HN2 : Hid ((txK l (k + 1)).1 = ts ++ [begD r sti]) := by
          show _ = _
          rw [HNX.out, hsti]
        have HF2 : Hid (fwK l F0 (k + 1) = fwK l F0 k) := by
          show _ = _
          rw [HFW.out, if_neg (by omega)]
        have s21 := hrb.2.2.1
        have s25 : (r.fin == 1) = false := by simp [hrb.2.2.2]
        have HKD : Hid (r.kind = 1 ∨ r.kind = 2) := hkd
        have HRO : Hid (RO fk ts.length r) := hro
        have s1 : (r.kind == 1 || r.kind == 2) = true := by rcases hkd with e | e <;> simp [e]
        have HP : Hid (PW (w2.heap.size + 1) wr fk ts Q mb k) := hP
        clear HNX HFW hsti et hro hpos hfit hrb hth hP
        rcases hkd with hkk | hkk
        · have e1 : (r.kind == 1) = true := by simp [hkk]
          clear hkk s1
          go_wp2_with (first | (refine wpList_load_run rfl 50 _ rfl ⟨b, off + k * 26, none⟩ rfl _ hR ?_; clear hR) | (rw [← HW4.out]; clear HW4; refine wpList_store_cl rfl 50 _ _ rfl wr.heap.size 0 26 _ rfl rfl rfl hU4 (by show 26 ≤ 26; decide) iRw hOC ?_; intro w5 hc5 k5 hsz5; clear hsz5; have hI5 : CL w5 wr.heap.size r.cells := hc5; clear hc5; have K45 : Keeps (fun _ => False) wr w5 := k4.trans' k5 (fun _ _ e => e) (fun i hi e => (by have e : i = wr.heap.size := e; omega)); have c5 := hI5.c 5 _ rfl; have c21 := hI5.c 21 _ rfl; have c25 := hI5.c 25 _ rfl; have c1 := hI5.c 1 _ rfl; rw [HET.out] at c1; have hV5 := hV.keep (by decide) K45 (fun e => e); have cq := hV5.c th i3; have zq := hV5.z th i3; obtain ⟨W6, hW6⟩ : ∃ W6, W6 = w5.alloc (.map #[] 0) := ⟨_, rfl⟩; have hmm : (Instr.makeMap 64 none).run Try.prog w5 = .ok (.map (some w5.heap.size)) W6 := (by rw [hW6]; exact run_makeMap _ _); have k6 : Keeps (fun _ => False) w5 W6 := (by rw [hW6]; exact (Keeps.refl _ w5).alloc _); have hm6 : MV W6 w5.heap.size 0 (fun _ => none) := (by rw [hW6]; exact MV.made w5); clear hW6; have hV6 := hV5.keep (by decide) k6 (fun e => e); have hl5 : wr.heap.size < w5.heap.size := hI5.lt (by show 0 < 26; decide)) | (refine wpList_store_mp rfl rfl _ _ rfl w2.heap.size th rfl w5.heap.size rfl hV6 i3 ?_; intro w7 hV7 k7 z7; clear z7; have c21 := k7.cell (k6.cell c21 (fun e => e)) (fun e => by have e : wr.heap.size = w2.heap.size := e; omega); have c25 := k7.cell (k6.cell c25 (fun e => e)) (fun e => by have e : wr.heap.size = w2.heap.size := e; omega)))
          have hP9 := (HP.out.keep K45 (fun _ _ e => e)).begin (W' := w7) (pb := w2.heap.size) (mn := w5.heap.size) (sti := sti) (th := th) hvi HKD.out HRO.out (by omega) (by omega) (Nat.le_refl _) (k6.trans' k7 (fun _ _ e => e.elim) (fun _ _ e => e)) (hm6.keep k7 (fun e => by have e : w5.heap.size = w2.heap.size := e; omega))
          have hO9 := k7.owns (k6.owns (K45.owns hO (fun _ _ e => e)) (fun _ _ e => e)) (fun b e1 e2 => by have := hlo b e1; have e2 : b = w2.heap.size := e2; omega)
          have K9 : Keeps (fun _ => False) w w7 := ((kr.trans K45).trans k6).trans' k7 (fun _ _ e => e) (fun i hi e => by have e : i = w2.heap.size := e; omega)
          go_roundw
          case rel => exact ⟨k + 1, _, _, by go_num, by omega, by rw [HF2.out]; exact hO9, hV7, by rw [HFX.out, HET2.out, HN2.out]; exact hP9.more (by omega), K9⟩
          case measure => simp [intOf]; omega
        · have e1 : (r.kind == 1) = false := by simp [hkk]
          have e2 : (r.kind == 2) = true := by simp [hkk]
          clear hkk s1
          go_wp2_with (first | (refine wpList_load_run rfl 50 _ rfl ⟨b, off + k * 26, none⟩ rfl _ hR ?_; clear hR) | (rw [← HW4.out]; clear HW4; refine wpList_store_cl rfl 50 _ _ rfl wr.heap.size 0 26 _ rfl rfl rfl hU4 (by show 26 ≤ 26; decide) iRw hOC ?_; intro w5 hc5 k5 hsz5; clear hsz5; have hI5 : CL w5 wr.heap.size r.cells := hc5; clear hc5; have K45 : Keeps (fun _ => False) wr w5 := k4.trans' k5 (fun _ _ e => e) (fun i hi e => (by have e : i = wr.heap.size := e; omega)); have c5 := hI5.c 5 _ rfl; have c21 := hI5.c 21 _ rfl; have c25 := hI5.c 25 _ rfl; have c1 := hI5.c 1 _ rfl; rw [HET.out] at c1; have hV5 := hV.keep (by decide) K45 (fun e => e); have cq := hV5.c th i3; have zq := hV5.z th i3; obtain ⟨W6, hW6⟩ : ∃ W6, W6 = w5.alloc (.map #[] 0) := ⟨_, rfl⟩; have hmm : (Instr.makeMap 64 none).run Try.prog w5 = .ok (.map (some w5.heap.size)) W6 := (by rw [hW6]; exact run_makeMap _ _); have k6 : Keeps (fun _ => False) w5 W6 := (by rw [hW6]; exact (Keeps.refl _ w5).alloc _); have hm6 : MV W6 w5.heap.size 0 (fun _ => none) := (by rw [hW6]; exact MV.made w5); clear hW6; have hV6 := hV5.keep (by decide) k6 (fun e => e); have hl5 : wr.heap.size < w5.heap.size := hI5.lt (by show 0 < 26; decide)) | (refine wpList_store_mp rfl rfl _ _ rfl w2.heap.size th rfl w5.heap.size rfl hV6 i3 ?_; intro w7 hV7 k7 z7; clear z7; have c21 := k7.cell (k6.cell c21 (fun e => e)) (fun e => by have e : wr.heap.size = w2.heap.size := e; omega); have c25 := k7.cell (k6.cell c25 (fun e => e)) (fun e => by have e : wr.heap.size = w2.heap.size := e; omega)))
          have hP9 := (HP.out.keep K45 (fun _ _ e => e)).begin (W' := w7) (pb := w2.heap.size) (mn := w5.heap.size) (sti := sti) (th := th) hvi HKD.out HRO.out (by omega) (by omega) (Nat.le_refl _) (k6.trans' k7 (fun _ _ e => e.elim) (fun _ _ e => e)) (hm6.keep k7 (fun e => by have e : w5.heap.size = w2.heap.size := e; omega))
          have hO9 := k7.owns (k6.owns (K45.owns hO (fun _ _ e => e)) (fun _ _ e => e)) (fun b e1 e2 => by have := hlo b e1; have e2 : b = w2.heap.size := e2; omega)
          have K9 : Keeps (fun _ => False) w w7 := ((kr.trans K45).trans k6).trans' k7 (fun _ _ e => e) (fun i hi e => by have e : i = w2.heap.size := e; omega)
          go_roundw
          case rel => exact ⟨k + 1, _, _, by go_num, by omega, by rw [HF2.out]; exact hO9, hV7, by rw [HFX.out, HET2.out, HN2.out]; exact hP9.more (by omega), K9⟩
          case measure => simp [intOf]; omega
      by_cases hof : ofD r.kind = true
      · have hk0 : r.kind ≠ 0 := fun e => by rw [e] at hof; cases hof
        have h17 : r.kind ≠ 17 := fun e => by rw [e] at hof; cases hof
        have hth := hro.th hk0
        obtain ⟨th, et⟩ : ∃ th : Nat, r.thread = (th : Int) := ⟨r.thread.toNat, by omega⟩
        have ett : r.thread.toNat = th := by omega
        have HET : Hid (r.thread = (th : Int)) := et
        have HET2 : Hid (r.thread.toNat = th) := ett
        have i1 : (0 : Int) ≤ (th : Int) := by omega
        have i2 : (th : Int) < 6 := by omega
        have i3 : th < 6 := by omega
        rw [ett] at hfit
        obtain ⟨hno, hlive⟩ := fit_live hfit hof
        have hnob := hro.o hof
        obtain ⟨TS2, hTS2⟩ : ∃ TS2, TS2 = ts.set (r.no - 1).toNat (addD (ts.getD (r.no - 1).toNat tv0) r) := ⟨_, rfl⟩
        have hst : (stT (ts, g) r).1 = TS2 := by
          rw [hTS2]
          unfold stT
          rw [if_neg (fun e => hkd (.inl e)), if_neg (fun e => hkd (.inr e)), if_pos hof]
        have HN2 : Hid ((txK l (k + 1)).1 = TS2) := by
          show _ = _
          rw [HNX.out, hst]
        have HPOS : Hid (∀ x ∈ wrT fk TS2 th, 0 ≤ x.object) := by
          rw [hst] at hpos
          show ∀ x ∈ wrT fk TS2 th, 0 ≤ x.object
          unfold wrT
          rw [← hno]
          exact hpos _ (by rw [hTS2, List.length_set]; omega)
        have hin : Inc (wrT fk ts th) := by
          unfold wrT
          rw [← hno]
          exact hinc _ (by omega)
        have HSUB : Hid (∀ q, q < 6 → folP fk r th (q * 5) = 1 → fk (q * 5) = 1 ∧ folP fk r th (q * 5 + 3) = fk (q * 5 + 3)) := sub_of hk0 (fun e => hkd (.inl e)) (fun e => hkd (.inr e)) h17 hno
        have e1 : (r.kind == 1) = false := by simp; exact fun e => hkd (.inl e)
        have e2 : (r.kind == 2) = false := by simp; exact fun e => hkd (.inr e)
        have hmbl := hmb th i3 hlive
        obtain ⟨hQ, hmbb, hMth⟩ := hP.q th i3 hlive
        cases hp : r.puts with
        | false =>
          have hP2 := hP.quiet hlv hvi i3 hlive hno hp
          rw [← hTS2] at hP2
          by_cases hfin : r.fin = 1
          · have s25 : (r.fin == 1) = true := by simp [hfin]
            have HF2 : Hid (fwK l F0 (k + 1) = layF (wrT fk TS2 th) (fwK l F0 k)) := by
              show _ = _
              rw [HFW.out, if_pos hfin, HN2.out]
              unfold wrT
              rw [← hno]
            clear hfin HNX hst hpos hro hkd hof hk0 h17 hth et ett hfit hnob hTS2 hinc hP hMth
            go_wp2_with (first | (refine wpList_load_run rfl 50 _ rfl ⟨b, off + k * 26, none⟩ rfl _ hR ?_; clear hR) | (rw [← HW4.out]; clear HW4; refine wpList_store_cl rfl 50 _ _ rfl wr.heap.size 0 26 _ rfl rfl rfl hU4 (by show 26 ≤ 26; decide) iRw hOC ?_; intro w5 hc5 k5 hsz5; clear hsz5; have hI5 : CL w5 wr.heap.size r.cells := hc5; clear hc5; have K45 : Keeps (fun _ => False) wr w5 := k4.trans' k5 (fun _ _ e => e) (fun i hi e => (by have e : i = wr.heap.size := e; omega)); have c5 := hI5.c 5 _ rfl; have c21 := hI5.c 21 _ rfl; have c25 := hI5.c 25 _ rfl; have c1 := hI5.c 1 _ rfl; rw [HET.out] at c1; have hV5 := hV.keep (by decide) K45 (fun e => e); have cq := hV5.c th i3; have zq := hV5.z th i3; rw [hQ] at cq; have hVX := hV5; have hPX := hP2.keep K45 (fun _ _ e => e); have hOX := K45.owns hO (fun _ _ e => e); have KX := kr.trans K45; have hlay := lay_any (hPX.q th i3 hlive).2.2 HPOS.out hOX (fun g e1 e2 => by have := hlo g e1; have := (hPX.q th i3 hlive).2.1; omega) (by omega)) | (go_at_call 22; refine hlay.mono ?_; clear hlay; rintro e w9 ⟨rfl, hO9, k9⟩))
            have hP9 := (hPX.keep k9 (fun b hb e => by have := hlo b e; omega)).sub HSUB.out
            have hV9 := hVX.keep (by decide) k9 (fun e => by have := hlo _ e; omega)
            have K9 : Keeps (fun _ => False) w w9 := KX.trans' k9 (fun _ _ e => e) (fun i hi e => by have := hlo i e; omega)
            go_roundw
            case rel => exact ⟨k + 1, _, _, by go_num, by omega, by rw [HF2.out]; exact hO9, hV9, by rw [HFX.out, HET2.out, HN2.out]; exact hP9.more (by omega), K9⟩
            case measure => simp [intOf]; omega
          · have s25 : (r.fin == 1) = false := by simp [hfin]
            have HF2 : Hid (fwK l F0 (k + 1) = fwK l F0 k) := by
              show _ = _
              rw [HFW.out, if_neg hfin]
            clear hfin HNX hst hpos hro hkd hof hk0 h17 hth et ett hfit hnob hTS2 hinc hP hMth
            go_wp2_with (first | (refine wpList_load_run rfl 50 _ rfl ⟨b, off + k * 26, none⟩ rfl _ hR ?_; clear hR) | (rw [← HW4.out]; clear HW4; refine wpList_store_cl rfl 50 _ _ rfl wr.heap.size 0 26 _ rfl rfl rfl hU4 (by show 26 ≤ 26; decide) iRw hOC ?_; intro w5 hc5 k5 hsz5; clear hsz5; have hI5 : CL w5 wr.heap.size r.cells := hc5; clear hc5; have K45 : Keeps (fun _ => False) wr w5 := k4.trans' k5 (fun _ _ e => e) (fun i hi e => (by have e : i = wr.heap.size := e; omega)); have c5 := hI5.c 5 _ rfl; have c21 := hI5.c 21 _ rfl; have c25 := hI5.c 25 _ rfl; have c1 := hI5.c 1 _ rfl; rw [HET.out] at c1; have hV5 := hV.keep (by decide) K45 (fun e => e); have cq := hV5.c th i3; have zq := hV5.z th i3; rw [hQ] at cq; have hVX := hV5; have hPX := hP2.keep K45 (fun _ _ e => e); have hOX := K45.owns hO (fun _ _ e => e); have KX := kr.trans K45))
            have hP9 := hPX.sub HSUB.out
            go_roundw
            case rel => exact ⟨k + 1, _, _, by go_num, by omega, by rw [HF2.out]; exact hOX, hVX, by rw [HFX.out, HET2.out, HN2.out]; exact hP9.more (by omega), KX⟩
            case measure => simp [intOf]; omega
        | true =>
          have ho := hi64k.1
          go_wp2_with (first | (refine wpList_load_run rfl 50 _ rfl ⟨b, off + k * 26, none⟩ rfl _ hR ?_; clear hR) | (rw [← HW4.out]; clear HW4; refine wpList_store_cl rfl 50 _ _ rfl wr.heap.size 0 26 _ rfl rfl rfl hU4 (by show 26 ≤ 26; decide) iRw hOC ?_; intro w5 hc5 k5 hsz5; clear hsz5; have hI5 : CL w5 wr.heap.size r.cells := hc5; clear hc5; have K45 : Keeps (fun _ => False) wr w5 := k4.trans' k5 (fun _ _ e => e) (fun i hi e => (by have e : i = wr.heap.size := e; omega)); have c5 := hI5.c 5 _ rfl; have c21 := hI5.c 21 _ rfl; have c25 := hI5.c 25 _ rfl; have c1 := hI5.c 1 _ rfl; rw [HET.out] at c1; have hV5 := hV.keep (by decide) K45 (fun e => e); have cq := hV5.c th i3; have zq := hV5.z th i3; rw [hQ] at cq; clear cq zq))
          have hMd := (hMth.keep K45 (fun e => e)).keep (Keeps.refl (fun _ => False) w5).drew (fun e => e)
          have hwl := hP.l th i3 hlive
          obtain ⟨W', hup, hM', kk⟩ := hMd.put underW ho (wroD r).val (by omega)
          have hPX := ((hP.keep K45 (fun _ _ e => e)).keep (Keeps.refl (fun _ => False) w5).drew (fun _ _ e => e)).put hlv hvi i3 hlive hno hp hin hM' kk
          rw [← hTS2] at hPX
          unfold Wo.val wroD at hup
          dsimp only at hup
          have hl5 : wr.heap.size < w5.heap.size := hI5.lt (by show 0 < 26; decide)
          have hVd := hV5.keep (by decide) (Keeps.refl (fun _ => False) w5).drew (fun e => e)
          have hOX := kk.owns ((Keeps.refl (fun _ => False) w5).drew.owns (K45.owns hO (fun _ _ e => e)) (fun _ _ e => e)) (fun b e1 e2 => by have := hlo b e1; have e2 : b = mb th := e2; omega)
          have KX : Keeps (fun _ => False) w W' := ((kr.trans K45).trans (Keeps.refl _ w5).drew).trans' kk (fun _ _ e => e) (fun i hi e => by have e : i = mb th := e; omega)
          refine wp_region_held_drew (S := SV wr.heap.size w2.heap.size r Q) (by kernel_rfl) ⟨hI5.drew, hVd⟩ (fun hHeld => ?_)
          refine wpAnyH_take (i := 0) (v := ?_) rfl (by kernel_rfl) (by kernel_rfl) (by kernel_rfl) (fun _ _ _ h => h) (Or.inl ⟨by rfl, ?_⟩) (by assumption) ?_
          rotate_left
          · intro wx hSw; clear hSw; go_simp <;> with_reducible rfl
          (try simp only [List.getElem_toArray]); (try simp only [List.getElem_cons_succ]); (try simp only [List.getElem_cons_zero]); (try simp only [Act.put]); (try simp only [List.setIfInBounds_toArray]); (repeat first | simp only [List.set_cons_succ] | simp only [List.set_cons_zero])
          refine wpAnyH_take (i := 1) (v := ?_) rfl (by kernel_rfl) (by kernel_rfl) (by kernel_rfl) (fun _ _ _ h => h) (Or.inl ⟨by rfl, ?_⟩) (by assumption) ?_
          rotate_left
          · intro wx hSw; have p1 := hSw.r.c 1 _ rfl; rw [HET.out] at p1; clear hSw; go_simp <;> with_reducible rfl
          (try simp only [List.getElem_toArray]); (try simp only [List.getElem_cons_succ]); (try simp only [List.getElem_cons_zero]); (try simp only [Act.put]); (try simp only [List.setIfInBounds_toArray]); (repeat first | simp only [List.set_cons_succ] | simp only [List.set_cons_zero])
          refine wpAnyH_take (i := 2) (v := ?_) rfl (by kernel_rfl) (by kernel_rfl) (by kernel_rfl) (fun _ _ _ h => h) (Or.inl ⟨by rfl, ?_⟩) (by assumption) ?_
          rotate_left
          · intro wx hSw; clear hSw; go_simp <;> with_reducible rfl
          (try simp only [List.getElem_toArray]); (try simp only [List.getElem_cons_succ]); (try simp only [List.getElem_cons_zero]); (try simp only [Act.put]); (try simp only [List.setIfInBounds_toArray]); (repeat first | simp only [List.set_cons_succ] | simp only [List.set_cons_zero])
          refine wpAnyH_take (i := 3) (v := ?_) rfl (by kernel_rfl) (by kernel_rfl) (by kernel_rfl) (fun _ _ _ h => h) (Or.inl ⟨by rfl, ?_⟩) (by assumption) ?_
          rotate_left
          · intro wx hSw; have p1 := hSw.q.c th i3; rw [hQ] at p1; clear hSw; go_simp <;> with_reducible rfl
          (try simp only [List.getElem_toArray]); (try simp only [List.getElem_cons_succ]); (try simp only [List.getElem_cons_zero]); (try simp only [Act.put]); (try simp only [List.setIfInBounds_toArray]); (repeat first | simp only [List.set_cons_succ] | simp only [List.set_cons_zero])
          refine wpAnyH_take (i := 4) (v := ?_) rfl (by kernel_rfl) (by kernel_rfl) (by kernel_rfl) (fun _ _ _ h => h) (Or.inl ⟨by rfl, ?_⟩) (by assumption) ?_
          rotate_left
          · intro wx hSw; clear hSw; go_simp <;> with_reducible rfl
          (try simp only [List.getElem_toArray]); (try simp only [List.getElem_cons_succ]); (try simp only [List.getElem_cons_zero]); (try simp only [Act.put]); (try simp only [List.setIfInBounds_toArray]); (repeat first | simp only [List.set_cons_succ] | simp only [List.set_cons_zero])
          refine wpAnyH_take (i := 5) (v := ?_) rfl (by kernel_rfl) (by kernel_rfl) (by kernel_rfl) (fun _ _ _ h => h) (Or.inl ⟨by rfl, ?_⟩) (by assumption) ?_
          rotate_left
          · intro wx hSw; have p1 := hSw.r.c 7 _ rfl; clear hSw; go_simp <;> with_reducible rfl
          (try simp only [List.getElem_toArray]); (try simp only [List.getElem_cons_succ]); (try simp only [List.getElem_cons_zero]); (try simp only [Act.put]); (try simp only [List.setIfInBounds_toArray]); (repeat first | simp only [List.set_cons_succ] | simp only [List.set_cons_zero])
          refine wpAnyH_take (i := 6) (v := ?_) rfl (by kernel_rfl) (by kernel_rfl) (by kernel_rfl) (fun _ _ _ h => h) (Or.inl ⟨by rfl, ?_⟩) (by assumption) ?_
          rotate_left
          · intro wx hSw; clear hSw; go_simp <;> with_reducible rfl
          (try simp only [List.getElem_toArray]); (try simp only [List.getElem_cons_succ]); (try simp only [List.getElem_cons_zero]); (try simp only [Act.put]); (try simp only [List.setIfInBounds_toArray]); (repeat first | simp only [List.set_cons_succ] | simp only [List.set_cons_zero])
          refine wpAnyH_take (i := 7) (v := ?_) rfl (by kernel_rfl) (by kernel_rfl) (by kernel_rfl) (fun _ _ _ h => h) (Or.inl ⟨by rfl, ?_⟩) (by assumption) ?_
          rotate_left
          · intro wx hSw; have p1 := hSw.r.c 22 _ rfl; have p2 := hSw.r.c 23 _ rfl; have p3 := hSw.r.c 24 _ rfl; clear hSw; go_simp <;> with_reducible rfl
          (try simp only [List.getElem_toArray]); (try simp only [List.getElem_cons_succ]); (try simp only [List.getElem_cons_zero]); (try simp only [Act.put]); (try simp only [List.setIfInBounds_toArray]); (repeat first | simp only [List.set_cons_succ] | simp only [List.set_cons_zero])
          refine wpAnyH_one 8 (by kernel_rfl) rfl rfl ?_
          go_simp
          refine ⟨⟨hHeld.r.keep (by show 0 < 26; decide) kk (fun e => by have e : wr.heap.size = mb th := e; omega), hHeld.q.keep (by decide) kk (fun e => by have e : w2.heap.size = mb th := e; omega)⟩, fun hS9 => ?_⟩
          (try simp only [List.getElem_toArray]); (try simp only [List.getElem_cons_succ]); (try simp only [List.getElem_cons_zero]); (try simp only [Act.put]); (try simp only [List.setIfInBounds_toArray]); (repeat first | simp only [List.set_cons_succ] | simp only [List.set_cons_zero])
          refine wpAnyH_done (by kernel_rfl) ?_ _
          have hVX := hS9.q
          have c25 := hS9.r.c 25 _ rfl
          have c1 := hS9.r.c 1 _ rfl
          rw [HET.out] at c1
          have cq := hS9.q.c th i3
          rw [hQ] at cq
          by_cases hfin : r.fin = 1
          · have s25 : (r.fin == 1) = true := by simp [hfin]
            have HF2 : Hid (fwK l F0 (k + 1) = layF (wrT fk TS2 th) (fwK l F0 k)) := by
              show _ = _
              rw [HFW.out, if_pos hfin, HN2.out]
              unfold wrT
              rw [← hno]
            have hlay := lay_any (hPX.q th i3 hlive).2.2 HPOS.out hOX (fun g e1 e2 => by have := hlo g e1; have := (hPX.q th i3 hlive).2.1; omega) (by omega)
            clear hfin HNX hst hpos hro hkd hof hk0 h17 hth et ett hfit hnob hTS2 hinc hP hMth hMd hM' hup
            go_wp2_with (first | (go_at_call 22; refine hlay.mono ?_; clear hlay; rintro e w9 ⟨rfl, hO9, k9⟩))
            have hP9 := (hPX.keep k9 (fun b hb e => by have := hlo b e; omega)).sub HSUB.out
            have hV9 := hVX.keep (by decide) k9 (fun e => by have := hlo _ e; omega)
            have K9 : Keeps (fun _ => False) w w9 := KX.trans' k9 (fun _ _ e => e) (fun i hi e => by have := hlo i e; omega)
            go_roundw
            case rel => exact ⟨k + 1, _, _, by go_num, by omega, by rw [HF2.out]; exact hO9, hV9, by rw [HFX.out, HET2.out, HN2.out]; exact hP9.more (by omega), K9⟩
            case measure => simp [intOf]; omega
          · have s25 : (r.fin == 1) = false := by simp [hfin]
            have HF2 : Hid (fwK l F0 (k + 1) = fwK l F0 k) := by
              show _ = _
              rw [HFW.out, if_neg hfin]
            clear hfin HNX hst hpos hro hkd hof hk0 h17 hth et ett hfit hnob hTS2 hinc hP hMth hMd hM' hup
            go_wp2_with fail
            have hP9 := hPX.sub HSUB.out
            go_roundw
            case rel => exact ⟨k + 1, _, _, by go_num, by omega, by rw [HF2.out]; exact hOX, hVX, by rw [HFX.out, HET2.out, HN2.out]; exact hP9.more (by omega), KX⟩
            case measure => simp [intOf]; omega
      have hof : ofD r.kind = false := by simpa using hof
      obtain ⟨hfin, hpu⟩ := fit_quiet hfit hof
      have hk017 : r.kind = 0 ∨ r.kind = 17 := by
        by_cases h0 : r.kind = 0
        · exact .inl h0
        · by_cases h17 : r.kind = 17
          · exact .inr h17
          · exact absurd (ofd_x h0 (fun e => hkd (.inl e)) (fun e => hkd (.inr e)) h17) (by rw [hof]; decide)
      have HN2 : Hid ((txK l (k + 1)).1 = ts) := by
        show _ = _
        rw [HNX.out]
        unfold stT
        rw [if_neg (fun e => hkd (.inl e)), if_neg (fun e => hkd (.inr e)), if_neg (by rw [hof]; decide)]
      have HF2 : Hid (fwK l F0 (k + 1) = fwK l F0 k) := by
        show _ = _
        rw [HFW.out, if_neg (by omega)]
      have HSUB : Hid (∀ q, q < 6 → folP fk r r.thread.toNat (q * 5) = 1 → fk (q * 5) = 1 ∧ folP fk r r.thread.toNat (q * 5 + 3) = fk (q * 5 + 3)) := sub_no hfin hk017
      have s25 : (r.fin == 1) = false := by simp [hfin]
      have e1 : (r.kind == 1) = false := by simp; exact fun e => hkd (.inl e)
      have e2 : (r.kind == 2) = false := by simp; exact fun e => hkd (.inr e)
      clear HNX hpos hro hkd hof hfit hinc hfin hk017
      go_wp2_with (first | (refine wpList_load_run rfl 50 _ rfl ⟨b, off + k * 26, none⟩ rfl _ hR ?_; clear hR) | (rw [← HW4.out]; clear HW4; refine wpList_store_cl rfl 50 _ _ rfl wr.heap.size 0 26 _ rfl rfl rfl hU4 (by show 26 ≤ 26; decide) iRw hOC ?_; intro w5 hc5 k5 hsz5; clear hsz5; have hI5 : CL w5 wr.heap.size r.cells := hc5; clear hc5; have K45 : Keeps (fun _ => False) wr w5 := k4.trans' k5 (fun _ _ e => e) (fun i hi e => (by have e : i = wr.heap.size := e; omega)); have c5 := hI5.c 5 _ rfl; have c21 := hI5.c 21 _ rfl; have c25 := hI5.c 25 _ rfl; have hV5 := hV.keep (by decide) K45 (fun e => e)))
      have hP9 := (hP.keep K45 (fun _ _ e => e)).sub HSUB.out
      have hO9 := K45.owns hO (fun _ _ e => e)
      go_roundw
      case rel => exact ⟨k + 1, _, _, by go_num, by omega, by rw [HF2.out]; exact hO9, hV5, by rw [HFX.out, HN2.out]; exact hP9.more (by omega), kr.trans K45⟩
      case measure => simp [intOf]; omega
    · have l1 : decide ((k : Int) < (K : Int)) = false := decide_eq_false (by omega)
      have l4 : decide (k < K) = false := decide_eq_false hlt
      obtain rfl : k = K := by omega
      go_wp2_with fail
      go_ret2
      exact ⟨_, rfl, owns_low hO z1, kr⟩
end Go.Proofs.Ytmnmphkkcabkiaa

namespace Go.Proofs.Ytmnmphkkcabkiaa
open Go.RowKit
def OPn (f : Nat → Int) (th : Nat) : Bool := f (th * 5) == 1 || f (th * 5) == 2
theorem OPn_not {f : Nat → Int} {th : Nat} : OPn f th = false ↔ f (th * 5) ≠ 1 ∧ f (th * 5) ≠ 2 := by unfold OPn; simp
def opS (f g : Nat → Int) (s : Nat) : Bool := (List.range 6).any (fun th => OPn f th && g th == (s : Int))
structure OI (f g : Nat → Int) : Prop where
  n : 0 ≤ f 30
  b : ∀ th, th < 6 → OPn f th = true → 0 ≤ g th ∧ g th < f 30
  d : ∀ th th', th < 6 → th' < 6 → OPn f th = true → OPn f th' = true → g th = g th' → th = th'
theorem OI.start : OI (f0 6) (fun _ => 0) := by
  have h0 : ∀ th, th < 6 → OPn (f0 6) th = false := fun th ht => by
    rw [OPn_not]
    unfold f0
    rw [if_neg (by omega)]
    exact ⟨by decide, by decide⟩
  refine ⟨by unfold f0; decide, fun th h1 h => ?_, fun th th' h1 _ h => ?_⟩
  · rw [h0 th h1] at h; cases h
  · rw [h0 th h1] at h; cases h
inductive OS (f g f' g' : Nat → Int) (r : Rw) : Prop where
  | idle (hk : r.kind ≠ 1) (hd : dec r.fin = false) (h : ∀ q, q < 6 → OPn f' q = OPn f q) (hg : ∀ q, q < 6 → OPn f q = true → g' q = g q) (hn : f' 30 = f 30) : OS f g f' g' r
  | beg (th : Nat) (ht : th < 6) (et : r.thread = (th : Int)) (hk : r.kind = 1) (hd : dec r.fin = false) (ho : OPn f th = false) (hs : r.seen = f 30) (h1 : OPn f' th = true) (h : ∀ q, q < 6 → q ≠ th → OPn f' q = OPn f q) (g1 : g' th = r.seen) (hg : ∀ q, q < 6 → q ≠ th → g' q = g q) (hn : f' 30 = f 30 + 1) : OS f g f' g' r
  | fin (th : Nat) (ht : th < 6) (et : r.thread = (th : Int)) (hk : r.kind ≠ 1) (hd : dec r.fin = true) (ho : OPn f th = true) (hno : r.no = f (th * 5 + 3)) (h1 : OPn f' th = false) (h : ∀ q, q < 6 → q ≠ th → OPn f' q = OPn f q) (hg : ∀ q, q < 6 → g' q = g q) (hn : f' 30 = f 30) : OS f g f' g' r
theorem OI.next {f g f' g' : Nat → Int} {r : Rw} (h : OI f g) (s : OS f g f' g' r) : OI f' g' := by
  have hn0 := h.n
  cases s with
  | idle hk hd h1 hg hn =>
    refine ⟨by omega, fun th ht ho => ?_, fun a b ha hb h2 h3 e => ?_⟩
    · rw [h1 th ht] at ho
      rw [hg th ht ho, hn]
      exact h.b th ht ho
    · rw [h1 a ha] at h2
      rw [h1 b hb] at h3
      rw [hg a ha h2, hg b hb h3] at e
      exact h.d a b ha hb h2 h3 e
  | beg th ht et hk hd ho hs h1 h2 g1 hg hn =>
    refine ⟨by omega, fun q hq hoq => ?_, fun a b ha hb ha2 hb2 e => ?_⟩
    · by_cases e : q = th
      · rw [e, g1, hs, hn]
        omega
      · rw [h2 q hq e] at hoq
        rw [hg q hq e, hn]
        have := h.b q hq hoq
        omega
    · by_cases e1 : a = th
      · by_cases e2 : b = th
        · omega
        · rw [h2 b hb e2] at hb2
          rw [e1, g1, hg b hb e2, hs] at e
          have := h.b b hb hb2
          omega
      · rw [h2 a ha e1] at ha2
        by_cases e2 : b = th
        · rw [e2, g1, hg a ha e1, hs] at e
          have := h.b a ha ha2
          omega
        · rw [h2 b hb e2] at hb2
          rw [hg a ha e1, hg b hb e2] at e
          exact h.d a b ha hb ha2 hb2 e
  | fin th ht et hk hd ho hno h1 h2 hg hn =>
    have sub : ∀ q, q < 6 → OPn f' q = true → OPn f q = true := fun q hq e => by
      by_cases e1 : q = th
      · rw [e1]; exact ho
      · rw [h2 q hq e1] at e; exact e
    refine ⟨by omega, fun q hq hoq => ?_, fun a b ha hb ha2 hb2 e => ?_⟩
    · rw [hg q hq, hn]
      exact h.b q hq (sub q hq hoq)
    · rw [hg a ha, hg b hb] at e
      exact h.d a b ha hb (sub a ha ha2) (sub b hb hb2) e
def oldS (f g : Nat → Int) (n : Nat) : Int := match (List.range n).find? (opS f g) with | some s => (s : Int) | none => -1
end Go.Proofs.Ytmnmphkkcabkiaa

/-
  DERIVED: THE SHELF's CONTRACTS AT THIS DUMP, IN PLAIN WORDS (tools/lay-plain.mjs out of 'YtmnmphkkcabkiaaHuXSrc.lean', which tools/lay-shelf.mjs wrote): THE SAME DECLARATIONS UNDER THE SAME NAMES: 'import', 'namespace', 'open', 'def', 'theorem' AND NOTHING ELSE: no command of the shelf's: FOR A HAND-IN. Each laying: the table of numbers ('.._ren') and one theorem, a field a fact of the dump's own or the kernel's comparison; each contract: ONE APPLICATION.
-/
namespace Go.Proofs
open Go.Shelf
def Try.colV_ren : Go.Shelf.Ren := ⟨fun | 8 => 31 | 11 => 44 | n => n, fun | 26 => 2 | 28 => 82 | 24 => 79 | 0 => 0 | 33 => 100 | 4 => 4 | n => n, fun | n => n⟩
end Go.Proofs

namespace Go.Proofs.Ytmnmphkkcabkiaa
open Go.RowKit Go.Maps Go.ChangeMaps Go.MapKept Go.WideShapes Go.Shelf
theorem underO : Try.prog.underlying 77 = some (.map 3 2) := by kernel_rfl
def VAll (m : Int → Option Value) (n : Nat) (xs : List Int) : Prop := (∀ x ∈ xs, ∃ k, I64 k ∧ m k = some (.int .i64 x)) ∧ (∀ k, I64 k → ∀ x, m k = some (.int .i64 x) → x ∈ xs) ∧ xs.length ≤ n
end Go.Proofs.Ytmnmphkkcabkiaa

