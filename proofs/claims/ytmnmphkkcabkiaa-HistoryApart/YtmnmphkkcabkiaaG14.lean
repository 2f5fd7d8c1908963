import Derived.Test.YtmnmphkkcabkiaaG13
import Derived.Test.YtmnmphkkcabkiaaG12
import Derived.Test.YtmnmphkkcabkiaaG04
import Derived.Great.BuildSlice
import Derived.Deep.Slices
import Derived.ChangeArms
import Derived.ChangeSlices
import Derived.DataReads
import Derived.OpenShut
namespace Go.Proofs.Ytmnmphkkcabkiaa
open Go.RowKit
attribute [local go_sem] Oper.semAt_some run_store_nf run_store_f
end Go.Proofs.Ytmnmphkkcabkiaa

namespace Go.Proofs.Ytmnmphkkcabkiaa
open Go.RowKit Go.Shelf
attribute [local go_sem] Oper.semAt_some run_store_nf run_store_f
def moV (f g : Nat → Int) : Int → Option Value := fun x => if 0 ≤ x ∧ x < 6 ∧ OPn f x.toNat = true then some (.int .i64 (g x.toNat)) else none
def b2n (b : Bool) : Nat := if b then 1 else 0
def cntO (f : Nat → Int) : Nat := b2n (OPn f 0) + b2n (OPn f 1) + b2n (OPn f 2) + b2n (OPn f 3) + b2n (OPn f 4) + b2n (OPn f 5)
theorem MV.len {w : World} {mb n : Nat} {f : Int → Option Value} (h : MV w mb n f) (ty : TypeId) : (Builtin.len_ #[77] ty #[.map (some mb)]).run Try.prog w = .ok (.int .i64 (n : Int)) w := by
  obtain ⟨D, h1, h2, _⟩ := h
  rw [← h2]
  exact h1.len underO ty
end Go.Proofs.Ytmnmphkkcabkiaa

namespace Go.Proofs.Ytmnmphkkcabkiaa
open Go.RowKit
end Go.Proofs.Ytmnmphkkcabkiaa

namespace Go.Proofs.Ytmnmphkkcabkiaa
open Go.RowKit
theorem vs_of {W : World} {base n : Nat} {v : Value} {F : Nat → V3} (h : W.ownsRow base 27 3 v n (gvl F n)) : ∃ a cap, v = .slice a n cap ∧ VS W a n F ∧ (a = none → cap = 0) := by
  rcases h.2 with ⟨rfl, h0⟩ | ⟨g, cap, cur, rfl, _⟩
  · have hz : n = 0 := by first | exact h0.1 | omega
    subst hz
    exact ⟨none, 0, rfl, fun i hi => by omega, fun _ => rfl⟩
  · refine ⟨_, cap, rfl, fun i hi => ⟨g, 0, rfl, fun j v hv => ?_⟩, fun e => by cases e⟩
    rw [Nat.zero_add]
    exact (own_cl h).c _ _ (gvl_get hi j v hv)
theorem eql_v3 (s : V3) (w : World) : (Op.equalIn 10000 27 (.agg s.cells.toArray) (.agg s.cells.toArray)).run Try.prog w = .ok true w := by
  rw [run_equalIn_agg w 9999 _ _ _ (by kernel_rfl) (by kernel_rfl)]
  unfold Program.fieldsOf
  rw [Try.underlying27]
  unfold V3.cells
  go_simp
set_option maxHeartbeats 1000000 in
set_option maxRecDepth 100000 in
theorem sameValues_ok {w : World} {a b : Option Addr} {N : Nat} {F : Nat → V3} (ca cb : Nat) (ha : VS w a N F) (hb : VS w b N F) (hn : N ≤ 4611686018427387904) : Calls Try.prog 14 #[.slice a N ca, .slice b N cb] w fun e w' => e = .returned (.bool true) ∧ Keeps (fun _ => False) w w' := by
  have hnn : ((N : Int) != (N : Int)) = false := by simp
  go_enter Try.func14, Try.ntmps14
  go_wp2
  go_loopw [5] (fun iv Wr => ∃ k : Nat, iv = .int .i64 (k : Int) ∧ k ≤ N ∧ Keeps (fun _ => False) w Wr) (fun iv _ => N - (intOf iv).toNat)
  case atStart => exact ⟨0, rfl, Nat.zero_le _, Keeps.refl _ w⟩
  case round =>
    obtain ⟨k, rfl, hk, kr⟩ := hrel
    by_cases hlt : k < N
    · have hltI : decide ((k : Int) < (N : Int)) = true := by simp; omega
      have hltJ : (k : Int) < (N : Int) := by omega
      have hk0 : (0 : Int) ≤ (k : Int) := by omega
      have hw1 : IntKind.i64.wrap ((k : Int) + 1) = (k : Int) + 1 := by rw [IntKind.wrap_i64]; omega
      obtain ⟨ba, oa, rfl, c1⟩ := ha k hlt
      obtain ⟨bb, ob, rfl, c2⟩ := hb k hlt
      generalize F k = x at *
      have HR1 : Hid (∀ w', (∃ u : KS wr, w' = u.1) → (loadVar 27 ⟨ba, oa + k * 3, none⟩).run Try.prog w' = .ok (.agg x.cells.toArray) w') := by
        rintro _ ⟨u, rfl⟩
        exact run_vlAt (fun j v e => u.property.cell (kr.cell (c1 j v e) (fun e => e)) (fun e => e))
      have HR2 : Hid (∀ w', (∃ u : KS wr, w' = u.1) → (loadVar 27 ⟨bb, ob + k * 3, none⟩).run Try.prog w' = .ok (.agg x.cells.toArray) w') := by
        rintro _ ⟨u, rfl⟩
        exact run_vlAt (fun j v e => u.property.cell (kr.cell (c2 j v e) (fun e => e)) (fun e => e))
      have HE : Hid (∀ w, (Op.equalIn 10000 27 (.agg x.cells.toArray) (.agg x.cells.toArray)).run Try.prog w = .ok true w) := fun w => eql_v3 x w
      have hNE : Nonempty (KS wr) := ⟨⟨wr, Keeps.refl _ wr⟩⟩
      clear c1 c2 ha hb
      go_wp2_with fail
      refine wp_region_ks (by kernel_rfl) (by kernel_rfl) ?_
      (repeat (first | go_big_quiet_skip | (refine wpQuiet_load (by kernel_rfl) 27 _ rfl ⟨ba, oa + k * 3, none⟩ rfl _ HR1.out ?_; clear HR1; (try simp only [Act.put, List.setIfInBounds_toArray, List.set_cons_zero, List.set_cons_succ])) | (refine wpQuiet_load (by kernel_rfl) 27 _ rfl ⟨bb, ob + k * 3, none⟩ rfl _ HR2.out ?_; clear HR2; (try simp only [Act.put, List.setIfInBounds_toArray, List.set_cons_zero, List.set_cons_succ])) | (refine wpQuiet_neq (by kernel_rfl) 27 _ _ _ rfl _ _ rfl rfl true (by kernel_rfl) HE.out ?_; (try simp only [Act.put, List.setIfInBounds_toArray, List.set_cons_zero, List.set_cons_succ])) | (go_big_quiet_step (fail))))
      refine wpQuiet_nil ?_
      rintro _ ⟨u, rfl⟩
      have ku := kr.trans u.property
      generalize u.val = wu at *
      go_wp2
      go_roundw
      case rel => exact ⟨k + 1, by go_num, by omega, ku⟩
      case measure => simp [intOf]; omega
    · have hltI : decide ((k : Int) < (N : Int)) = false := by simp; omega
      clear ha hb
      go_wp2
      go_ret
      exact ⟨rfl, kr⟩
def atR (l : List Rw) (F0 : Nat → V3) (n : Nat) (s : Int) : Int × Nat × (Nat → V3) := match fstP l 0 (f0 6) with | some _ => (150, 0, F0) | none => if s < -1 ∨ (l.length : Int) ≤ s then (151, 0, F0) else (0, n, fwK l F0 (s + 1).toNat)
def oldR (l : List Rw) (s : Int) : Int × Int := match fstP l 0 (f0 6) with | some _ => (0, 150) | none => if s < -1 ∨ (l.length : Int) ≤ s then (0, 151) else (oldS (fAt l (s + 1).toNat) (txK l (s + 1).toNat).2 (fAt l (s + 1).toNat 30).toNat, 0)
end Go.Proofs.Ytmnmphkkcabkiaa

namespace Go.Proofs.Ytmnmphkkcabkiaa
open Go.RowKit
def rLife : Rw := { rw0 with try_ := 1, no := 1, object := -1, entry := -1, enemy := -1, cell := -1 }
def lifeOps (f : Func) : Array Oper := match f.body with | some (.seq _ (.seq _ (.seq (.region _ ops _) _))) => ops | _ => #[]
def lfF (y z : Value) (x : Nat → Value) : Act := { tmps := #[.slice none 0 0, y, x 0, x 1, x 2, x 3, x 4, x 5, z, .agg rLife.cells.toArray, .agg rLife.cells.toArray, .agg rLife.cells.toArray, .agg rLife.cells.toArray, .agg rLife.cells.toArray, .agg rLife.cells.toArray, undef, undef, undef, undef, undef, undef, undef, undef, undef, undef, undef, undef, undef, undef, undef, undef, undef, undef, undef, undef, undef, undef, undef, undef, undef, undef, undef, undef, undef, undef, undef, undef, undef, undef, undef], defers := [] }
def lfL (b : Nat → Bool) : Array Bool := #[true, true, true, true, true, true, b 0, b 1, b 2, b 3, b 4, b 5, false, false, false, false, false, false]
def lfP (p : Nat → Nat) : Nat → Value := fun k => .pointer (some ⟨p k, 0, none⟩)
theorem wp_alloc_row {o : Oper} {a : Act} {w : World} {K : Act → World → Prop} {Q : Exit → Act → World → Prop} (ho : o.op = .alloc 50) (h : K (a.put o.dst (.pointer (some ⟨w.heap.size, 0, none⟩))) (w.alloc (.cells rw0.cells.toArray 50))) : Oper.wp Try.prog o a w K Q := by
  unfold Oper.wp execOp
  simp only [ho]
  go_simp
  exact h
theorem ready_life (b : Nat → Bool) (i : Nat) (hi : i ∈ Region.ready .any (lifeOps Try.f7) (lfL b)) (hn : (b 0 && b 1 && b 2 && b 3 && b 4 && b 5) = false) : ∃ k, k < 6 ∧ i = 6 + k ∧ b k = false := by
  have key : ∀ b0 b1 b2 b3 b4 b5 : Bool, (b0 && b1 && b2 && b3 && b4 && b5) = false → (Region.ready .any (lifeOps Try.f7) #[true, true, true, true, true, true, b0, b1, b2, b3, b4, b5, false, false, false, false, false, false]).all (fun i => decide (i = 6) && !b0 || decide (i = 7) && !b1 || decide (i = 8) && !b2 || decide (i = 9) && !b3 || decide (i = 10) && !b4 || decide (i = 11) && !b5) = true := by
    decide +kernel
  have := List.all_eq_true.1 (key (b 0) (b 1) (b 2) (b 3) (b 4) (b 5) hn) i hi
  simp only [Bool.or_eq_true, Bool.and_eq_true, decide_eq_true_eq, Bool.not_eq_true'] at this
  rcases this with ((((⟨e, h⟩ | ⟨e, h⟩) | ⟨e, h⟩) | ⟨e, h⟩) | ⟨e, h⟩) | ⟨e, h⟩
  · exact ⟨0, by omega, by omega, h⟩
  · exact ⟨1, by omega, by omega, h⟩
  · exact ⟨2, by omega, by omega, h⟩
  · exact ⟨3, by omega, by omega, h⟩
  · exact ⟨4, by omega, by omega, h⟩
  · exact ⟨5, by omega, by omega, h⟩
theorem ready_ne (b : Nat → Bool) (hn : (b 0 && b 1 && b 2 && b 3 && b 4 && b 5) = false) : Region.ready .any (lifeOps Try.f7) (lfL b) ≠ [] := by
  have key : ∀ b0 b1 b2 b3 b4 b5 : Bool, (b0 && b1 && b2 && b3 && b4 && b5) = false → (Region.ready .any (lifeOps Try.f7) #[true, true, true, true, true, true, b0, b1, b2, b3, b4, b5, false, false, false, false, false, false]).isEmpty = false := by
    decide +kernel
  intro e
  have := key (b 0) (b 1) (b 2) (b 3) (b 4) (b 5) hn
  have e : Region.ready .any (lifeOps Try.f7) #[true, true, true, true, true, true, b 0, b 1, b 2, b 3, b 4, b 5, false, false, false, false, false, false] = [] := e
  rw [e] at this
  cases this
set_option maxHeartbeats 1000000 in
set_option maxRecDepth 100000 in
theorem life_stores {Q : Exit → Act → World → Prop} {w1 w : World} (y z : Value) (p : Nat → Nat) (hp : ∀ k, k < 6 → CL w (p k) rw0.cells ∧ w1.heap.size ≤ p k) (hne : ∀ j k, j < 6 → k < 6 → j ≠ k → p j ≠ p k) (hS : Keeps (fun _ => False) w1 w)
    (hQ : ∀ w', (∀ k, k < 6 → CL w' (p k) rLife.cells) → Keeps (fun _ => False) w1 w' → Q .normal (lfF y z (lfP p)) w') : wpAnyH Try.prog .any (lifeOps Try.f7) Q (fun w' => Keeps (fun _ => False) w1 w') 6 (lfL (fun _ => true)) (lfF y z (lfP p)) w := by
  have hOC := all_oneCell_rw rLife
  have st : ∀ (W : World) (k : Nat), k < 6 → CL W (p k) rw0.cells → Keeps (fun _ => False) w1 W → ∃ W', W' = W.setCells (p k) 0 rLife.cells.toArray.toList ∧ CL W' (p k) rLife.cells ∧ Keeps (fun i => i = p k) W W' ∧ Keeps (fun _ => False) w1 W' := fun W k hk h hS => by
    obtain ⟨q1, q2⟩ := store_rw h rLife
    exact ⟨_, rfl, q1, q2, hS.trans' q2 (fun _ _ e => e) (fun i hi e => by have e : i = p k := e; have := (hp k hk).2; omega)⟩
  have c0 := (hp 0 (by omega)).1
  have c1 := (hp 1 (by omega)).1
  have c2 := (hp 2 (by omega)).1
  have c3 := (hp 3 (by omega)).1
  have c4 := (hp 4 (by omega)).1
  have c5 := (hp 5 (by omega)).1
  obtain ⟨W0, e0, q0, m0, s0⟩ := st w 0 (by omega) c0 hS
  refine wpAnyH_store 12 (by kernel_rfl) rfl rfl 50 _ _ rfl (p 0) 0 26 _ rfl rfl rfl (c0.there (by show 0 + 26 ≤ 26; decide)) iRw hOC (e0 ▸ s0) (fun _ => ?_)
  rw [← e0]
  refine (?_ : wpAnyH Try.prog .any (lifeOps Try.f7) Q (fun w' => Keeps (fun _ => False) w1 w') 5 #[true, true, true, true, true, true, true, true, true, true, true, true, true, false, false, false, false, false] (lfF y z (lfP p)) W0)
  replace c1 := c1.keep (by show 0 < 26; decide) m0 (fun e => hne 1 0 (by omega) (by omega) (by omega) e)
  replace c2 := c2.keep (by show 0 < 26; decide) m0 (fun e => hne 2 0 (by omega) (by omega) (by omega) e)
  replace c3 := c3.keep (by show 0 < 26; decide) m0 (fun e => hne 3 0 (by omega) (by omega) (by omega) e)
  replace c4 := c4.keep (by show 0 < 26; decide) m0 (fun e => hne 4 0 (by omega) (by omega) (by omega) e)
  replace c5 := c5.keep (by show 0 < 26; decide) m0 (fun e => hne 5 0 (by omega) (by omega) (by omega) e)
  obtain ⟨W1, e1, q1, m1, s1⟩ := st W0 1 (by omega) c1 s0
  refine wpAnyH_store 13 (by kernel_rfl) rfl rfl 50 _ _ rfl (p 1) 0 26 _ rfl rfl rfl (c1.there (by show 0 + 26 ≤ 26; decide)) iRw hOC (e1 ▸ s1) (fun _ => ?_)
  rw [← e1]
  refine (?_ : wpAnyH Try.prog .any (lifeOps Try.f7) Q (fun w' => Keeps (fun _ => False) w1 w') 4 #[true, true, true, true, true, true, true, true, true, true, true, true, true, true, false, false, false, false] (lfF y z (lfP p)) W1)
  replace q0 := q0.keep (by show 0 < 26; decide) m1 (fun e => hne 0 1 (by omega) (by omega) (by omega) e)
  replace c2 := c2.keep (by show 0 < 26; decide) m1 (fun e => hne 2 1 (by omega) (by omega) (by omega) e)
  replace c3 := c3.keep (by show 0 < 26; decide) m1 (fun e => hne 3 1 (by omega) (by omega) (by omega) e)
  replace c4 := c4.keep (by show 0 < 26; decide) m1 (fun e => hne 4 1 (by omega) (by omega) (by omega) e)
  replace c5 := c5.keep (by show 0 < 26; decide) m1 (fun e => hne 5 1 (by omega) (by omega) (by omega) e)
  obtain ⟨W2, e2, q2, m2, s2⟩ := st W1 2 (by omega) c2 s1
  refine wpAnyH_store 14 (by kernel_rfl) rfl rfl 50 _ _ rfl (p 2) 0 26 _ rfl rfl rfl (c2.there (by show 0 + 26 ≤ 26; decide)) iRw hOC (e2 ▸ s2) (fun _ => ?_)
  rw [← e2]
  refine (?_ : wpAnyH Try.prog .any (lifeOps Try.f7) Q (fun w' => Keeps (fun _ => False) w1 w') 3 #[true, true, true, true, true, true, true, true, true, true, true, true, true, true, true, false, false, false] (lfF y z (lfP p)) W2)
  replace q0 := q0.keep (by show 0 < 26; decide) m2 (fun e => hne 0 2 (by omega) (by omega) (by omega) e)
  replace q1 := q1.keep (by show 0 < 26; decide) m2 (fun e => hne 1 2 (by omega) (by omega) (by omega) e)
  replace c3 := c3.keep (by show 0 < 26; decide) m2 (fun e => hne 3 2 (by omega) (by omega) (by omega) e)
  replace c4 := c4.keep (by show 0 < 26; decide) m2 (fun e => hne 4 2 (by omega) (by omega) (by omega) e)
  replace c5 := c5.keep (by show 0 < 26; decide) m2 (fun e => hne 5 2 (by omega) (by omega) (by omega) e)
  obtain ⟨W3, e3, q3, m3, s3⟩ := st W2 3 (by omega) c3 s2
  refine wpAnyH_store 15 (by kernel_rfl) rfl rfl 50 _ _ rfl (p 3) 0 26 _ rfl rfl rfl (c3.there (by show 0 + 26 ≤ 26; decide)) iRw hOC (e3 ▸ s3) (fun _ => ?_)
  rw [← e3]
  refine (?_ : wpAnyH Try.prog .any (lifeOps Try.f7) Q (fun w' => Keeps (fun _ => False) w1 w') 2 #[true, true, true, true, true, true, true, true, true, true, true, true, true, true, true, true, false, false] (lfF y z (lfP p)) W3)
  replace q0 := q0.keep (by show 0 < 26; decide) m3 (fun e => hne 0 3 (by omega) (by omega) (by omega) e)
  replace q1 := q1.keep (by show 0 < 26; decide) m3 (fun e => hne 1 3 (by omega) (by omega) (by omega) e)
  replace q2 := q2.keep (by show 0 < 26; decide) m3 (fun e => hne 2 3 (by omega) (by omega) (by omega) e)
  replace c4 := c4.keep (by show 0 < 26; decide) m3 (fun e => hne 4 3 (by omega) (by omega) (by omega) e)
  replace c5 := c5.keep (by show 0 < 26; decide) m3 (fun e => hne 5 3 (by omega) (by omega) (by omega) e)
  obtain ⟨W4, e4, q4, m4, s4⟩ := st W3 4 (by omega) c4 s3
  refine wpAnyH_store 16 (by kernel_rfl) rfl rfl 50 _ _ rfl (p 4) 0 26 _ rfl rfl rfl (c4.there (by show 0 + 26 ≤ 26; decide)) iRw hOC (e4 ▸ s4) (fun _ => ?_)
  rw [← e4]
  refine (?_ : wpAnyH Try.prog .any (lifeOps Try.f7) Q (fun w' => Keeps (fun _ => False) w1 w') 1 #[true, true, true, true, true, true, true, true, true, true, true, true, true, true, true, true, true, false] (lfF y z (lfP p)) W4)
  replace q0 := q0.keep (by show 0 < 26; decide) m4 (fun e => hne 0 4 (by omega) (by omega) (by omega) e)
  replace q1 := q1.keep (by show 0 < 26; decide) m4 (fun e => hne 1 4 (by omega) (by omega) (by omega) e)
  replace q2 := q2.keep (by show 0 < 26; decide) m4 (fun e => hne 2 4 (by omega) (by omega) (by omega) e)
  replace q3 := q3.keep (by show 0 < 26; decide) m4 (fun e => hne 3 4 (by omega) (by omega) (by omega) e)
  replace c5 := c5.keep (by show 0 < 26; decide) m4 (fun e => hne 5 4 (by omega) (by omega) (by omega) e)
  obtain ⟨W5, e5, q5, m5, s5⟩ := st W4 5 (by omega) c5 s4
  refine wpAnyH_store 17 (by kernel_rfl) rfl rfl 50 _ _ rfl (p 5) 0 26 _ rfl rfl rfl (c5.there (by show 0 + 26 ≤ 26; decide)) iRw hOC (e5 ▸ s5) (fun _ => ?_)
  rw [← e5]
  refine (?_ : wpAnyH Try.prog .any (lifeOps Try.f7) Q (fun w' => Keeps (fun _ => False) w1 w') 0 #[true, true, true, true, true, true, true, true, true, true, true, true, true, true, true, true, true, true] (lfF y z (lfP p)) W5)
  replace q0 := q0.keep (by show 0 < 26; decide) m5 (fun e => hne 0 5 (by omega) (by omega) (by omega) e)
  replace q1 := q1.keep (by show 0 < 26; decide) m5 (fun e => hne 1 5 (by omega) (by omega) (by omega) e)
  replace q2 := q2.keep (by show 0 < 26; decide) m5 (fun e => hne 2 5 (by omega) (by omega) (by omega) e)
  replace q3 := q3.keep (by show 0 < 26; decide) m5 (fun e => hne 3 5 (by omega) (by omega) (by omega) e)
  replace q4 := q4.keep (by show 0 < 26; decide) m5 (fun e => hne 4 5 (by omega) (by omega) (by omega) e)
  refine wpAnyH_done (by kernel_rfl) ?_ _
  refine hQ _ (fun k hk => ?_) s5
  rcases (by omega : k = 0 ∨ k = 1 ∨ k = 2 ∨ k = 3 ∨ k = 4 ∨ k = 5) with rfl | rfl | rfl | rfl | rfl | rfl
  · exact q0
  · exact q1
  · exact q2
  · exact q3
  · exact q4
  · exact q5
set_option maxHeartbeats 1000000 in
set_option maxRecDepth 100000 in
theorem life_allocs {Q : Exit → Act → World → Prop} {w1 : World} (y z : Value)
    (hQ : ∀ w' p, (∀ j k, j < 6 → k < 6 → j ≠ k → p j ≠ p k) → (∀ k, k < 6 → CL w' (p k) rLife.cells) → Keeps (fun _ => False) w1 w' → (∀ k, k < 6 → w1.heap.size ≤ p k) → Q .normal (lfF y z (lfP p)) w') :
    ∀ (n : Nat) (b : Nat → Bool) (x : Nat → Value) (p : Nat → Nat) (w : World), (b 0).toNat + (b 1).toNat + (b 2).toNat + (b 3).toNat + (b 4).toNat + (b 5).toNat + n = 6 → (∀ k, k < 6 → b k = true → x k = .pointer (some ⟨p k, 0, none⟩) ∧ CL w (p k) rw0.cells ∧ w1.heap.size ≤ p k) → (∀ j k, j < 6 → k < 6 → b j = true → b k = true → j ≠ k → p j ≠ p k) → Keeps (fun _ => False) w1 w →
      wpAnyH Try.prog .any (lifeOps Try.f7) Q (fun w' => Keeps (fun _ => False) w1 w') (n + 6) (lfL b) (lfF y z x) w := by
  intro n
  induction n with
  | zero =>
    intro b x p w hn hp hne hS
    have l := fun k => Bool.toNat_le (b k)
    have all : ∀ k, k < 6 → b k = true := fun k hk => by
      have e : (b k).toNat = 1 := by
        have := l 0
        have := l 1
        have := l 2
        have := l 3
        have := l 4
        have := l 5
        rcases (by omega : k = 0 ∨ k = 1 ∨ k = 2 ∨ k = 3 ∨ k = 4 ∨ k = 5) with rfl | rfl | rfl | rfl | rfl | rfl <;> omega
      cases hb : b k
      · rw [hb] at e; cases e
      · rfl
    have eL : lfL b = lfL (fun _ => true) := by
      unfold lfL
      rw [all 0 (by omega), all 1 (by omega), all 2 (by omega), all 3 (by omega), all 4 (by omega), all 5 (by omega)]
    have eF : lfF y z x = lfF y z (lfP p) := by
      unfold lfF lfP
      rw [(hp 0 (by omega) (all 0 (by omega))).1, (hp 1 (by omega) (all 1 (by omega))).1, (hp 2 (by omega) (all 2 (by omega))).1, (hp 3 (by omega) (all 3 (by omega))).1, (hp 4 (by omega) (all 4 (by omega))).1, (hp 5 (by omega) (all 5 (by omega))).1]
    rw [eL, eF]
    exact life_stores y z p (fun k hk => (hp k hk (all k hk)).2) (fun j k hj hk => hne j k hj hk (all j hj) (all k hk)) hS (fun w' h1 h2 => hQ w' p (fun j k hj hk => hne j k hj hk (all j hj) (all k hk)) h1 h2 (fun k hk => (hp k hk (all k hk)).2.2))
  | succ n ih =>
    intro b x p w hn hp hne hS
    have hnot : (b 0 && b 1 && b 2 && b 3 && b 4 && b 5) = false := by
      cases h : (b 0 && b 1 && b 2 && b 3 && b 4 && b 5)
      · rfl
      · simp only [Bool.and_eq_true] at h
        obtain ⟨⟨⟨⟨⟨h0, h1⟩, h2⟩, h3⟩, h4⟩, h5⟩ := h
        rw [h0, h1, h2, h3, h4, h5] at hn
        simp at hn
    refine ⟨fun e => absurd e (ready_ne b hnot), fun i hi => ?_⟩
    obtain ⟨k, hk, rfl, hb⟩ := ready_life b i hi hnot
    have step : ∀ (hw : World), hw = w.alloc (.cells rw0.cells.toArray 50) → Keeps (fun _ => False) w1 hw ∧ wpAnyH Try.prog .any (lifeOps Try.f7) Q (fun w' => Keeps (fun _ => False) w1 w') (n + 6) (lfL (fun j => if j = k then true else b j)) (lfF y z (fun j => if j = k then .pointer (some ⟨w.heap.size, 0, none⟩) else x j)) hw := by
      rintro hw rfl
      have ka : Keeps (fun _ => False) w1 (w.alloc (.cells rw0.cells.toArray 50)) := hS.alloc _
      refine ⟨ka, ih _ _ (fun j => if j = k then w.heap.size else p j) _ ?_ ?_ ?_ ka⟩
      · have hz : (b k).toNat = 0 := by rw [hb]; rfl
        have ht : (true).toNat = 1 := rfl
        rcases (by omega : k = 0 ∨ k = 1 ∨ k = 2 ∨ k = 3 ∨ k = 4 ∨ k = 5) with rfl | rfl | rfl | rfl | rfl | rfl <;> simp <;> omega
      · intro j hj hbj
        by_cases e : j = k
        · subst e
          simp only [if_pos]
          exact ⟨trivial, CL.made w rw0.cells _, hS.size⟩
        · simp only [if_neg e] at hbj ⊢
          obtain ⟨h1, h2, h3⟩ := hp j hj hbj
          exact ⟨h1, h2.alloc (by show 0 < 26; decide) _, h3⟩
      · intro i2 j hi2 hj hbi hbj hij
        by_cases e1 : i2 = k
        · subst e1
          have e2 : ¬ j = i2 := fun e => hij e.symm
          simp only [if_pos, if_neg e2] at hbj ⊢
          have := (hp j hj hbj).2.1.lt (by show 0 < 26; decide)
          omega
        · by_cases e2 : j = k
          · subst e2
            simp only [if_pos, if_neg e1] at hbi ⊢
            have := (hp i2 hi2 hbi).2.1.lt (by show 0 < 26; decide)
            omega
          · simp only [if_neg e1, if_neg e2] at hbi hbj ⊢
            exact hne i2 j hi2 hj hbi hbj hij
    rcases (by omega : k = 0 ∨ k = 1 ∨ k = 2 ∨ k = 3 ∨ k = 4 ∨ k = 5) with rfl | rfl | rfl | rfl | rfl | rfl
    all_goals
      refine wpOp_step rfl (fun K' hK => ?_)
      rw [if_pos (by rfl)]
      refine wp_alloc_row rfl (hK _ _ ?_)
      exact step _ rfl
structure LB (w0 w : World) (p : Nat → Nat) (L : Nat → List Value) : Prop where
  cl : ∀ k, k < 6 → CL w (p k) (L k)
  ge : ∀ k, k < 6 → w0.heap.size ≤ p k
  ne : ∀ j k, j < 6 → k < 6 → j ≠ k → p j ≠ p k
  len : ∀ k, (L k).length = 26
  kp : Keeps (fun _ => False) w0 w
def lup (L : Nat → List Value) (k o : Nat) (v : Value) : Nat → List Value := fun j => if j = k then (L k).set o v else L j
theorem LB.put {w0 w : World} {p : Nat → Nat} {L : Nat → List Value} (h : LB w0 w p L) {k o : Nat} (hk : k < 6) (ho : o < 26) (v : Value) : LB w0 (w.setCell ⟨p k, o, none⟩ v) p (lup L k o v) := by
  refine ⟨fun j hj => ?_, h.ge, h.ne, fun j => ?_, h.kp.setCell (p := ⟨p k, o, none⟩) (fun e => by have := h.ge k hk; have e : p k < w0.heap.size := e; omega) v⟩
  · unfold lup
    by_cases e : j = k
    · subst e
      rw [if_pos rfl]
      exact (h.cl j hj).set (by rw [h.len]; exact ho) v
    · rw [if_neg e]
      exact (h.cl j hj).other (p := ⟨p k, o, none⟩) (fun e2 => h.ne k j hk hj (fun e3 => e e3.symm) e2) v
  · unfold lup
    split
    · rw [List.length_set]; exact h.len k
    · exact h.len j
theorem run_store_bool {w : World} {b o : Nat} (hc : (w.cell? ⟨b, o, none⟩).isSome = true) (hz : w.frozen? ⟨b, o, none⟩ = false) (v : Bool) : (storeVar 4 ⟨b, o, none⟩ (.bool v)).run Try.prog w = .ok () (w.setCell ⟨b, o, none⟩ (.bool v)) := by
  obtain ⟨u, hu⟩ := Option.isSome_iff_exists.1 hc
  go_simp
theorem LB.there {w0 w : World} {p : Nat → Nat} {L : Nat → List Value} (h : LB w0 w p L) {k o : Nat} (hk : k < 6) (ho : o < 26) : (w.cell? ⟨p k, o, none⟩).isSome = true ∧ w.frozen? ⟨p k, o, none⟩ = false :=
  ⟨by rw [(h.cl k hk).c o ((L k)[o]'(by rw [h.len]; exact ho)) (by simp)]; rfl, (h.cl k hk).z o (by rw [h.len]; exact ho)⟩
theorem wpList_store_lbI {w w0 : World} {ops : Array Oper} {rest : List Oper} {o : Oper} {a : Act} {Q : Exit → Act → World → Prop} (hgd : o.guard = none) (hd : o.dst = none) (x y : Operand) (ho : o.op = .store 3 x y) {p : Nat → Nat} (k off : Nat) (hx : a.eval x = .pointer (some ⟨p k, off, none⟩)) (v : Int) (hy : a.eval y = .int .i64 v)
    {L : Nat → List Value} (hB : LB w0 w p L) (hk : k < 6) (hl : off < 26) (h : ∀ w1, LB w0 w1 p (lup L k off (.int .i64 v)) → wpList Try.prog ops Q rest a w1) : wpList Try.prog ops Q (o :: rest) a w :=
  wpList_plain hgd fun _ hK => by
    unfold Oper.wp execOp
    simp only [ho, hx, hy, Instr.storeAt, Instr.sureAddr, Sem.run_bind, Sem.run_pure, Result.andThen_ok, run_store_int (hB.there hk hl).1 (hB.there hk hl).2 v]
    refine hK _ _ ?_
    rw [hd]
    exact h _ (hB.put hk hl _)
theorem wpList_store_lbB {w w0 : World} {ops : Array Oper} {rest : List Oper} {o : Oper} {a : Act} {Q : Exit → Act → World → Prop} (hgd : o.guard = none) (hd : o.dst = none) (x y : Operand) (ho : o.op = .store 4 x y) {p : Nat → Nat} (k off : Nat) (hx : a.eval x = .pointer (some ⟨p k, off, none⟩)) (v : Bool) (hy : a.eval y = .bool v)
    {L : Nat → List Value} (hB : LB w0 w p L) (hk : k < 6) (hl : off < 26) (h : ∀ w1, LB w0 w1 p (lup L k off (.bool v)) → wpList Try.prog ops Q rest a w1) : wpList Try.prog ops Q (o :: rest) a w :=
  wpList_plain hgd fun _ hK => by
    unfold Oper.wp execOp
    simp only [ho, hx, hy, Instr.storeAt, Instr.sureAddr, Sem.run_bind, Sem.run_pure, Result.andThen_ok, run_store_bool (hB.there hk hl).1 (hB.there hk hl).2 v]
    refine hK _ _ ?_
    rw [hd]
    exact h _ (hB.put hk hl _)
theorem wpList_store_lbV {w w0 : World} {ops : Array Oper} {rest : List Oper} {o : Oper} {a : Act} {Q : Exit → Act → World → Prop} (hgd : o.guard = none) (hd : o.dst = none) (x y : Operand) (ho : o.op = .store 27 x y) {p : Nat → Nat} (k off : Nat) (hx : a.eval x = .pointer (some ⟨p k, off, none⟩)) (v1 v2 : Int) (v3 : Bool) (hy : a.eval y = .agg #[.int .i64 v1, .int .i64 v2, .bool v3])
    {L : Nat → List Value} (hB : LB w0 w p L) (hk : k < 6) (hl : off + 2 < 26) (h : ∀ w1, LB w0 w1 p (lup (lup (lup L k off (.int .i64 v1)) k (off + 1) (.int .i64 v2)) k (off + 2) (.bool v3)) → wpList Try.prog ops Q rest a w1) : wpList Try.prog ops Q (o :: rest) a w :=
  wpList_store_mid hgd 27 x y ho (p k) off #[.int .i64 v1, .int .i64 v2, .bool v3] hx hy (fun j hj => by
    have hj : j < 3 := hj
    exact hB.there hk (by omega)) (by kernel_rfl) (all_oneCell_toArray (cs := [.int .i64 v1, .int .i64 v2, .bool v3]) (fun v hv => by simp at hv; rcases hv with rfl | rfl | rfl <;> rfl))
    (by rw [hd]; exact h _ (((hB.put hk (by omega) _).put hk (by omega) _).put hk (by omega) _))
theorem LB.load {w0 w : World} {p : Nat → Nat} {L : Nat → List Value} (h : LB w0 w p L) {k : Nat} (hk : k < 6) (r : Rw) (e : L k = r.cells) : (loadVar 50 ⟨p k, 0, none⟩).run Try.prog w = .ok (.agg r.cells.toArray) w := run_rw (e ▸ h.cl k hk)
def rL0 : Rw := { rLife with kind := 1 }
def rL1 : Rw := { rLife with step := 1, kind := 7, phase := 1, object := 2, entry := 0, told := true, vN := 7 }
def rL2 : Rw := { rLife with step := 2, kind := 7, phase := 2, object := 0, told := true, puts := true, pN := 9, pX := 1 }
def rL3 : Rw := { rLife with step := 3, kind := 4, object := 2, entry := 0 }
def rL4 : Rw := { rLife with step := 4, kind := 15, phase := 3, done := true, fin := 1 }
def rL5 : Rw := { rLife with step := 5, kind := 17 }
theorem wpList_stop {P : Program} {ops : Array Oper} {rest : List Oper} {o : Oper} {a : Act} {w : World} {Q : Exit → Act → World → Prop} (d : Tmp) (_ : o.dst = some d) (h : Hid (wpList P ops Q (o :: rest) a w)) : wpList P ops Q (o :: rest) a w := h.out
def lifeL : List Rw := [rL0, rL1, rL2, rL3, rL4, rL5]
theorem life_rsl (W : World) : RSL (W.alloc (.cells (rcl lifeL).toArray 50)) (some ⟨W.heap.size, 0, none⟩) lifeL := fun i hi => ⟨W.heap.size, 0, rfl, fun j v hv => by
  have := (CL.made W (rcl lifeL) 50).c (i * 26 + j) v (rcl_get lifeL i j v hi hv)
  rw [Nat.zero_add]
  exact this⟩
end Go.Proofs.Ytmnmphkkcabkiaa

namespace Go.Proofs.Ytmnmphkkcabkiaa
open Go.RowKit
set_option maxHeartbeats 1000000 in
set_option maxRecDepth 100000 in
theorem life_any6 (w : World) : Calls Try.prog 7 #[] w fun e w' => ∃ (l : List Rw) (a : Option Addr) (cap : Nat), e = .returned (.slice a l.length cap) ∧ (l.length = 6 ∧ l = lifeL ∧ cap = 6) ∧ RSL w' a l ∧ (a = none → cap = 0) ∧ Keeps (fun _ => False) w w' := by
  obtain ⟨W4, hW4⟩ : ∃ W4, W4 = w.alloc (.cells #[.int .i64 0, .int .i64 0, .int .i64 0, .int .i64 0, .int .i64 0, .int .i64 0, .int .i64 0, .int .i64 0, .int .i64 0, .int .i64 0, .int .i64 0, .int .i64 0, .int .i64 0, .bool false, .bool false, .bool false, .int .i64 0, .bool false, .int .i64 0, .int .i64 0, .bool false, .bool false, .int .i64 0, .int .i64 0, .bool false, .int .i64 0] 50) := ⟨_, rfl⟩
  have k4 : Keeps (fun _ => False) w W4 := by rw [hW4]; exact (Keeps.refl _ w).alloc _
  have hU4 : CL W4 w.heap.size rw0.cells := by rw [hW4]; exact CL.made w rw0.cells _
  have hz4 : W4.heap.size = w.heap.size + 1 := by rw [hW4]; simp
  have hOC : (#[.int .i64 0, .int .i64 0, .int .i64 0, .int .i64 1, .int .i64 1, .int .i64 0, .int .i64 0, .int .i64 (-1), .int .i64 (-1), .int .i64 (-1), .int .i64 (-1), .int .i64 0, .int .i64 0, .bool false, .bool false, .bool false, .int .i64 0, .bool false, .int .i64 0, .int .i64 0, .bool false, .bool false, .int .i64 0, .int .i64 0, .bool false, .int .i64 0] : Array Value).all (·.oneCell') = true := all_oneCell_rw rLife
  have HW4 : Hid (W4 = w.alloc (.cells #[.int .i64 0, .int .i64 0, .int .i64 0, .int .i64 0, .int .i64 0, .int .i64 0, .int .i64 0, .int .i64 0, .int .i64 0, .int .i64 0, .int .i64 0, .int .i64 0, .int .i64 0, .bool false, .bool false, .bool false, .int .i64 0, .bool false, .int .i64 0, .int .i64 0, .bool false, .bool false, .int .i64 0, .int .i64 0, .bool false, .int .i64 0] 50)) := hW4
  clear hW4
  go_enter Try.func7, Try.ntmps7
  go_wp2_with ((rw [← HW4.out]; clear HW4; refine wpList_store_cl rfl 50 _ _ rfl w.heap.size 0 26 _ rfl rfl rfl hU4 (by show 26 ≤ 26; decide) iRw hOC ?_; intro w1 hc5 k5 hsz5))
  have hI1 : CL w1 w.heap.size rLife.cells := hc5
  have K1 : Keeps (fun _ => False) w w1 := k4.trans' k5 (fun _ _ e => e) (fun i hi e => by have e : i = w.heap.size := e; omega)
  clear hc5 k5 hsz5 hU4 k4 hz4 hOC
  refine wp_region_held_drew (S := fun w' => Keeps (fun _ => False) w1 w') (by kernel_rfl) (Keeps.refl _ w1).drew (fun hHeld => ?_)
  refine wpAnyH_take (i := 0) (v := (.agg rLife.cells.toArray)) rfl (by kernel_rfl) (by kernel_rfl) (by kernel_rfl) (fun _ _ _ h => h) (Or.inl ⟨by rfl, ?_⟩) (by assumption) ?_
  · intro wx hSw; exact takes_load 50 _ rfl ⟨w.heap.size, 0, none⟩ rfl (run_rw (hI1.keep (by show 0 < 26; decide) hSw (fun e => e)))
  (try simp only [List.getElem_toArray]); (try simp only [List.getElem_cons_succ]); (try simp only [List.getElem_cons_zero]); (try simp only [Act.put]); (try simp only [List.setIfInBounds_toArray]); (repeat first | simp only [List.set_cons_succ] | simp only [List.set_cons_zero])
  refine wpAnyH_take (i := 1) (v := (.agg rLife.cells.toArray)) rfl (by kernel_rfl) (by kernel_rfl) (by kernel_rfl) (fun _ _ _ h => h) (Or.inl ⟨by rfl, ?_⟩) (by assumption) ?_
  · intro wx hSw; exact takes_load 50 _ rfl ⟨w.heap.size, 0, none⟩ rfl (run_rw (hI1.keep (by show 0 < 26; decide) hSw (fun e => e)))
  (try simp only [List.getElem_toArray]); (try simp only [List.getElem_cons_succ]); (try simp only [List.getElem_cons_zero]); (try simp only [Act.put]); (try simp only [List.setIfInBounds_toArray]); (repeat first | simp only [List.set_cons_succ] | simp only [List.set_cons_zero])
  refine wpAnyH_take (i := 2) (v := (.agg rLife.cells.toArray)) rfl (by kernel_rfl) (by kernel_rfl) (by kernel_rfl) (fun _ _ _ h => h) (Or.inl ⟨by rfl, ?_⟩) (by assumption) ?_
  · intro wx hSw; exact takes_load 50 _ rfl ⟨w.heap.size, 0, none⟩ rfl (run_rw (hI1.keep (by show 0 < 26; decide) hSw (fun e => e)))
  (try simp only [List.getElem_toArray]); (try simp only [List.getElem_cons_succ]); (try simp only [List.getElem_cons_zero]); (try simp only [Act.put]); (try simp only [List.setIfInBounds_toArray]); (repeat first | simp only [List.set_cons_succ] | simp only [List.set_cons_zero])
  refine wpAnyH_take (i := 3) (v := (.agg rLife.cells.toArray)) rfl (by kernel_rfl) (by kernel_rfl) (by kernel_rfl) (fun _ _ _ h => h) (Or.inl ⟨by rfl, ?_⟩) (by assumption) ?_
  · intro wx hSw; exact takes_load 50 _ rfl ⟨w.heap.size, 0, none⟩ rfl (run_rw (hI1.keep (by show 0 < 26; decide) hSw (fun e => e)))
  (try simp only [List.getElem_toArray]); (try simp only [List.getElem_cons_succ]); (try simp only [List.getElem_cons_zero]); (try simp only [Act.put]); (try simp only [List.setIfInBounds_toArray]); (repeat first | simp only [List.set_cons_succ] | simp only [List.set_cons_zero])
  refine wpAnyH_take (i := 4) (v := (.agg rLife.cells.toArray)) rfl (by kernel_rfl) (by kernel_rfl) (by kernel_rfl) (fun _ _ _ h => h) (Or.inl ⟨by rfl, ?_⟩) (by assumption) ?_
  · intro wx hSw; exact takes_load 50 _ rfl ⟨w.heap.size, 0, none⟩ rfl (run_rw (hI1.keep (by show 0 < 26; decide) hSw (fun e => e)))
  (try simp only [List.getElem_toArray]); (try simp only [List.getElem_cons_succ]); (try simp only [List.getElem_cons_zero]); (try simp only [Act.put]); (try simp only [List.setIfInBounds_toArray]); (repeat first | simp only [List.set_cons_succ] | simp only [List.set_cons_zero])
  refine wpAnyH_take (i := 5) (v := (.agg rLife.cells.toArray)) rfl (by kernel_rfl) (by kernel_rfl) (by kernel_rfl) (fun _ _ _ h => h) (Or.inl ⟨by rfl, ?_⟩) (by assumption) ?_
  · intro wx hSw; exact takes_load 50 _ rfl ⟨w.heap.size, 0, none⟩ rfl (run_rw (hI1.keep (by show 0 < 26; decide) hSw (fun e => e)))
  (try simp only [List.getElem_toArray]); (try simp only [List.getElem_cons_succ]); (try simp only [List.getElem_cons_zero]); (try simp only [Act.put]); (try simp only [List.setIfInBounds_toArray]); (repeat first | simp only [List.set_cons_succ] | simp only [List.set_cons_zero])
  refine life_allocs (.pointer (some ⟨w.heap.size, 0, none⟩)) _ (fun w2 p hne hcl k2 hp => ?_) 6 (fun _ => false) (fun _ => undef) (fun _ => 0) _ rfl (fun k hk h => by cases h) (fun j k hj hk h => by cases h) hHeld
  have hLB : LB w1 w2 p (fun _ => rLife.cells) := ⟨hcl, hp, hne, fun _ => rfl, k2⟩
  clear hcl hp hne k2 hHeld hI1
  obtain ⟨ie, hie, hz0, hz1, -⟩ := iRows
  simp only [lfF, lfP]
  go_wp2_with (first | (refine wpList_store_lbI rfl rfl _ _ rfl _ _ rfl _ rfl hLB (by decide) (by decide) ?_; clear hLB; intro wn hLB) | (refine wpList_store_lbB rfl rfl _ _ rfl _ _ rfl _ rfl hLB (by decide) (by decide) ?_; clear hLB; intro wn hLB) | (refine wpList_store_lbV rfl rfl _ _ rfl _ _ rfl _ _ _ rfl hLB (by decide) (by decide) ?_; clear hLB; intro wn hLB) | (refine wpList_stop 43 rfl ?_; unfold Hid; refine wpList_load_run rfl 50 _ rfl ⟨p 0, 0, none⟩ rfl _ (hLB.load (k := 0) (by decide) rL0 (by kernel_rfl)) ?_; (try simp only [Act.put, List.setIfInBounds_toArray, List.set_cons_zero, List.set_cons_succ]); refine wpList_load_run rfl 50 _ rfl ⟨p 1, 0, none⟩ rfl _ (hLB.load (k := 1) (by decide) rL1 (by kernel_rfl)) ?_; (try simp only [Act.put, List.setIfInBounds_toArray, List.set_cons_zero, List.set_cons_succ]); refine wpList_load_run rfl 50 _ rfl ⟨p 2, 0, none⟩ rfl _ (hLB.load (k := 2) (by decide) rL2 (by kernel_rfl)) ?_; (try simp only [Act.put, List.setIfInBounds_toArray, List.set_cons_zero, List.set_cons_succ]); refine wpList_load_run rfl 50 _ rfl ⟨p 3, 0, none⟩ rfl _ (hLB.load (k := 3) (by decide) rL3 (by kernel_rfl)) ?_; (try simp only [Act.put, List.setIfInBounds_toArray, List.set_cons_zero, List.set_cons_succ]); refine wpList_load_run rfl 50 _ rfl ⟨p 4, 0, none⟩ rfl _ (hLB.load (k := 4) (by decide) rL4 (by kernel_rfl)) ?_; (try simp only [Act.put, List.setIfInBounds_toArray, List.set_cons_zero, List.set_cons_succ]); refine wpList_load_run rfl 50 _ rfl ⟨p 5, 0, none⟩ rfl _ (hLB.load (k := 5) (by decide) rL5 (by kernel_rfl)) ?_; (try simp only [Act.put, List.setIfInBounds_toArray, List.set_cons_zero, List.set_cons_succ]); refine wpList_buildSlice rfl 23 50 6 _ rfl (rcl lifeL).toArray ie _ uRows hie hz0 (by rw [hz1]; decide) (by rw [hz1]; decide) (by rw [hz1]; kernel_rfl) ?_; (try simp only [Act.put, List.setIfInBounds_toArray, List.set_cons_zero, List.set_cons_succ])))
  go_ret
  exact ⟨lifeL, some ⟨wn.heap.size, 0, none⟩, 6, rfl, ⟨rfl, rfl, rfl⟩, life_rsl wn, (fun e => by cases e), K1.trans (hLB.kp.alloc _)⟩
end Go.Proofs.Ytmnmphkkcabkiaa

namespace Go.Proofs.Ytmnmphkkcabkiaa
open Go.RowKit Go.Deep Go.ChangeShapes Go.WideShapes Go.ChangeAt
theorem open_cap2 {H : Type} {enc : TypeId × Value → H} {P : Program} {W : World} {spare : Nat → Bool} {held : Bool} {t e : TypeId} {fuel : Nat} {a : Option Addr} {len cap : Nat} {x : DataW H × List MemPlace}
    (ht : P.underlying t = some (.slice e)) (h : DataW.trod enc P W 0 spare held fuel t [.slice a len cap] = some x) : len ≤ cap ∧ (a = none → cap = 0) := by
  rcases open_slice ht h with ⟨hcs, _⟩ | ⟨a', len', cap', m, n, D, Pl, hcs, hb, hl, hm, hmm, rfl, hx⟩
  · simp at hcs
    obtain ⟨rfl, rfl, rfl⟩ := hcs
    exact ⟨Nat.le_refl _, fun _ => rfl⟩
  · simp at hcs
    obtain ⟨rfl, rfl, rfl⟩ := hcs
    exact ⟨hl, fun e => by cases e⟩
theorem open_val {H : Type} {enc : TypeId × Value → H} {P : Program} {W : World} {spare : Nat → Bool} {held : Bool} {e : TypeId} {g0 g1 g2 : Field} {fuel : Nat} {v0 v1 v2 : Value} {x : DataW H × List MemPlace}
    (hs : P.underlying e = some (.struct #[g0, g1, g2])) (o0 : g0.offset = 0) (o1 : g1.offset = 1) (o2 : g2.offset = 2) (c0 : P.cellsOf g0.type = 1) (c1 : P.cellsOf g1.type = 1) (c2 : P.cellsOf g2.type = 1) (u0 : P.underlying g0.type = some (.int .i64)) (u1 : P.underlying g1.type = some (.int .i64)) (u2 : P.underlying g2.type = some .bool)
    (h : DataW.trod enc P W 0 spare held fuel e [v0, v1, v2] = some x) : ∃ (n m : Int) (r : Bool), v0 = .int .i64 n ∧ v1 = .int .i64 m ∧ v2 = .bool r := by
  obtain ⟨xs, k, hk, hxy, _, hxl, hf⟩ := DataW.trod_struct hs h
  match xs, hxl with
  | [y0, y1, y2], _ =>
    have G0 := hf 0 g0 rfl
    have G1 := hf 1 g1 rfl
    have G2 := hf 2 g2 rfl
    simp [o0, o1, o2, c0, c1, c2] at G0 G1 G2
    obtain ⟨q0, r0, _, _⟩ := DataW.trod_int u0 G0
    obtain ⟨q1, r1, _, _⟩ := DataW.trod_int u1 G1
    obtain ⟨q2, r2, _⟩ := DataW.trod_bool u2 G2
    simp at r0 r1 r2
    exact ⟨q0, q1, q2, r0, r1, r2⟩
set_option maxHeartbeats 1000000 in
theorem rw_cells_get (q : Rw) (j : Nat) (v : Value) (h : q.cells[j]? = some v) : (j = 0 ∧ v = .int .i64 q.step) ∨ (j = 1 ∧ v = .int .i64 q.thread) ∨ (j = 2 ∧ v = .int .i64 q.job) ∨ (j = 3 ∧ v = .int .i64 q.try_) ∨ (j = 4 ∧ v = .int .i64 q.no) ∨ (j = 5 ∧ v = .int .i64 q.kind) ∨ (j = 6 ∧ v = .int .i64 q.phase) ∨ (j = 7 ∧ v = .int .i64 q.object) ∨ (j = 8 ∧ v = .int .i64 q.entry) ∨ (j = 9 ∧ v = .int .i64 q.enemy) ∨ (j = 10 ∧ v = .int .i64 q.cell) ∨ (j = 11 ∧ v = .int .i64 q.seen) ∨ (j = 12 ∧ v = .int .i64 q.wrote) ∨ (j = 13 ∧ v = .bool q.done) ∨ (j = 14 ∧ v = .bool q.abort) ∨ (j = 15 ∧ v = .bool q.timeout) ∨ (j = 16 ∧ v = .int .i64 q.wait) ∨ (j = 17 ∧ v = .bool q.told) ∨ (j = 18 ∧ v = .int .i64 q.vN) ∨ (j = 19 ∧ v = .int .i64 q.vX) ∨ (j = 20 ∧ v = .bool q.vD) ∨ (j = 21 ∧ v = .bool q.puts) ∨ (j = 22 ∧ v = .int .i64 q.pN) ∨ (j = 23 ∧ v = .int .i64 q.pX) ∨ (j = 24 ∧ v = .bool q.pD) ∨ (j = 25 ∧ v = .int .i64 q.fin) := by
  have hj : j < 26 := (List.getElem?_eq_some_iff.1 h).1
  rcases (by omega : j = 0 ∨ j = 1 ∨ j = 2 ∨ j = 3 ∨ j = 4 ∨ j = 5 ∨ j = 6 ∨ j = 7 ∨ j = 8 ∨ j = 9 ∨ j = 10 ∨ j = 11 ∨ j = 12 ∨ j = 13 ∨ j = 14 ∨ j = 15 ∨ j = 16 ∨ j = 17 ∨ j = 18 ∨ j = 19 ∨ j = 20 ∨ j = 21 ∨ j = 22 ∨ j = 23 ∨ j = 24 ∨ j = 25) with rfl | rfl | rfl | rfl | rfl | rfl | rfl | rfl | rfl | rfl | rfl | rfl | rfl | rfl | rfl | rfl | rfl | rfl | rfl | rfl | rfl | rfl | rfl | rfl | rfl | rfl <;> (simp [Rw.cells] at h; simp [h])
end Go.Proofs.Ytmnmphkkcabkiaa

