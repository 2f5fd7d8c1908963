import Derived.Test.YthmlppepgcjfgaaBdO
import Derived.Test.YthmlppepgcjfgaaBdX
namespace Go.Proofs.Ythmlppepgcjfgaa
open Go.RowKit Go.Shelf Go.Lib Go.Sort Go.WideShapes
instance : Inhabited Ed := ⟨ed0⟩
/-- A list of the call's own, its cells laid anew. -/
theorem row_laid {w : World} {base g cap n size k : Nat} {e : TypeId} {F : Array Value} {xs : List Value} {os : Array Obj} (h : w.ownsRow base e size (.slice (some ⟨g, 0, none⟩) n cap) n xs) (hF : F.size = n * size) :
    (grow (putRow id (Sort.ahead w k) g 0 F) os).ownsRow base e size (.slice (some ⟨g, 0, none⟩) n cap) n F.toList ∧ Keeps (fun b => b = g) w (grow (putRow id (Sort.ahead w k) g 0 F) os) := by
  have hgr : w.grownBy (grow (putRow id (Sort.ahead w k) g 0 F) os) (some g) := by
    refine ⟨rfl, rfl, rfl, by simp, fun i hi hne => ?_⟩
    rw [heap_grow_old _ _ (by simpa using hi)]
    have hgi : g ≠ i := fun e => hne (by rw [e])
    simp [putRow, mapBlock, Sort.ahead, Array.getElem?_modify, hgi]
  refine ⟨⟨by simpa using hF, ?_⟩, (Keeps.refl _ w).grown hgr (fun _ _ e => by cases e; rfl)⟩
  rcases h.2 with ⟨h0, _⟩ | ⟨g', cap', cur, hv, hb, hc, h1, h2, h3, -⟩
  · cases h0
  injection hv with hv1 _ hv2
  injection hv1 with hv1
  injection hv1 with hv1 _ _
  subst hv1 hv2
  refine .inr ⟨g, cap, putCells id 0 F cur, rfl, hb, ?_, h1, h2, by simp [putCells, h3], ?_⟩
  · have hg : g < w.heap.size := (Array.getElem?_eq_some_iff.1 hc).1
    rw [heap_grow_old _ _ (by simpa using hg)]
    simp [putRow, mapBlock, Sort.ahead, Array.getElem?_modify, hc, onCells]
  · have hle : n * size ≤ cap * size := Nat.mul_le_mul_right _ h1
    apply List.ext_getElem?
    intro j
    by_cases hj : j < n * size
    · rw [List.getElem?_take_of_lt hj, Array.getElem?_toList, Array.getElem?_toList]
      simp [putCells, hF, hj, show j < cur.size by omega]
    · rw [List.getElem?_take_eq_none (by omega), List.getElem?_eq_none (by simp; omega)]
theorem flat_ecl (l : List Ed) : (flatK Ed.cells 4 l.toArray).toList = ecl l := by
  apply List.ext_getElem?
  intro t
  by_cases h : t < l.length * 4
  · have hi : t / 4 < l.length := by omega
    have hx : l.getD (t / 4) ed0 = l[t / 4] := by rw [List.getD_eq_getElem?_getD, List.getElem?_eq_getElem hi]; rfl
    have hl4 : (l[t / 4]).cells.length = 4 := rfl
    have hj : t % 4 < (l[t / 4]).cells.length := by omega
    rw [ecl_at h, hx, Array.getElem?_toList, List.getElem?_eq_getElem hj]
    simp [flatK, h, hi, hj]
  · rw [List.getElem?_eq_none (by simp; omega), List.getElem?_eq_none (by rw [ecl_len]; omega)]
theorem cmp_neg (x y : Int) : Lib.compareInt x y < 0 ↔ x < y := by unfold Lib.compareInt; (repeat' split) <;> omega
theorem cmp_zero (x y : Int) : Lib.compareInt x y = 0 ↔ x = y := by unfold Lib.compareInt; (repeat' split) <;> omega
theorem cmE_lt (x y : Ed) : cmE x y < 0 ↔ LtE x y := by
  have a1 := cmp_neg x.f y.f
  have a2 := cmp_zero x.f y.f
  have b1 := cmp_neg x.t y.t
  have b2 := cmp_zero x.t y.t
  have c1 := cmp_neg x.k y.k
  have c2 := cmp_zero x.k y.k
  have d1 := cmp_neg x.o y.o
  have d2 := cmp_zero x.o y.o
  unfold cmE orL orL orL orL orL LtE
  (repeat' split) <;> omega
theorem ltE (x y : Ed) : ltOf cmE x y = decide (LtE x y) := by
  unfold ltOf
  by_cases h : LtE x y
  · rw [decide_eq_true h]
    have := (cmE_lt x y).2 h
    simpa using this
  · rw [decide_eq_false h]
    have := fun q => h ((cmE_lt x y).1 q)
    simpa using this
theorem swoE : SWO (ltOf cmE) where
  irrefl x := by rw [ltE]; exact decide_eq_false (LtE.irr x)
  trans x y z h1 h2 := by rw [ltE] at *; exact decide_eq_true ((of_decide_eq_true h1).trans (of_decide_eq_true h2))
  ntrans x y z h1 h2 := by
    rw [ltE] at *
    refine decide_eq_false (fun q => ?_)
    have n1 := of_decide_eq_false h1
    have n2 := of_decide_eq_false h2
    by_cases c : LtE y x
    · exact n2 (c.trans q)
    · have := LtE.tri n1 c
      subst this
      exact n2 q
theorem cmpLaysE (blk off size : Nat) (w : World) : CmpLays Try.prog 20 #[] Ed.cells 4 cmE blk off size w :=
  fun _ _ _ _ x y => compare_any x y _
set_option maxHeartbeats 1000000 in
/-- Edges sorted. -/
theorem sortE_any {w : World} {base g cap n : Nat} {ls : List Ed} (h : w.ownsRow base 34 4 (.slice (some ⟨g, 0, none⟩) n cap) n (ecl ls)) (hn : ls.length = n) (hsz : n < 4611686018427387904) : Calls Try.prog 19 #[.slice (some ⟨g, 0, none⟩) n cap, .func (.func 20) #[] #[]] w fun e w' => e = .returned (.tuple #[]) ∧ ∃ ms : List Ed, ls.Perm ms ∧ ms.Pairwise (fun x y => ¬ LtE y x) ∧ w'.ownsRow base 34 4 (.slice (some ⟨g, 0, none⟩) n cap) n (ecl ms) ∧ Keeps (fun b => b = g) w w' := by
  have hcl := own_clL h
  have hH : HoldsK Ed.cells 4 w g 0 ls.toArray := fun j hj => by
    have hj4 : j < ls.length * 4 := by simpa using hj
    have e : (flatK Ed.cells 4 ls.toArray).toList[j]? = (ecl ls)[j]? := by rw [flat_ecl]
    rw [Array.getElem?_toList] at e
    rw [Nat.zero_add]
    refine ⟨hcl.c j _ (e ▸ ?_), hcl.z j (by rw [ecl_len]; exact hj4)⟩
    rw [getElem!_pos _ j hj]
    exact Array.getElem?_eq_getElem hj
  have eg : ∀ args w, (callFunc 20 args).run Try.prog w = .ok (.enter 20 args) w := enters_of Try.func20 (by kernel_rfl) rfl
  have hcon := AnyQ.slices_SortFunc Try.sortE 4 (fun _ => by kernel_rfl) (fun _ => by kernel_rfl) Ed.cells (fun _ => rfl) (fun x v hv => by simp [Ed.cells] at hv; rcases hv with rfl | rfl | rfl | rfl <;> rfl) cmE swoE 20 #[] g 0 cap ls.toArray w eg (cmpLaysE g 0 ls.toArray.size w) hH (owns_lt' h g rfl) (by simpa [hn] using hsz)
  have e0 : ls.toArray.size = n := by simpa using hn
  rw [e0] at hcon
  change Calls Try.prog 19 _ _ _ at hcon
  refine hcon.mono ?_
  rintro e w' ⟨rfl, d', k, os, hp, hs, rfl⟩
  have hd : d'.size = n := by rw [hp.1]; exact e0
  have hperm := hp.2.2
  rw [← hd] at hperm
  have e1 : (d'.extract 0 d'.size).toList = d'.toList := by simp
  have e2 : (ls.toArray.extract 0 d'.size).toList = ls := by rw [hd, ← e0]; simp
  rw [e1, e2] at hperm
  obtain ⟨q1, q2⟩ := row_laid (k := k) (os := os) (F := flatK Ed.cells 4 d') h (by simp [hd])
  have e3 : (flatK Ed.cells 4 d').toList = ecl d'.toList := flat_ecl d'.toList
  rw [e3] at q1
  refine ⟨rfl, d'.toList, hperm.symm, ?_, q1, q2⟩
  rw [List.pairwise_iff_getElem]
  intro i j hi hj hij
  have hi' : i < d'.size := by simpa using hi
  have hj' : j < d'.size := by simpa using hj
  have := hs i j (Nat.zero_le _) hij (by omega)
  rw [ltE, getElem!_pos _ i hi', getElem!_pos _ j hj'] at this
  simpa using this
theorem sortNoE (a : Option Addr) (cap : Nat) (f : Value) (w : World) : Calls Try.prog 19 #[.slice a 0 cap, f] w fun e w' => e = .returned (.tuple #[]) ∧ w' = w := AnyF.slices_SortFunc_none Try.sortE a cap f w
theorem sortE_all {w : World} {base n : Nat} {v : Value} {ls : List Ed} (h : w.ownsRow base 34 4 v n (ecl ls)) (hsz : n < 4611686018427387904) : Calls Try.prog 19 #[v, .func (.func 20) #[] #[]] w fun e w' => e = .returned (.tuple #[]) ∧ ∃ ms : List Ed, ls.Perm ms ∧ ms.Pairwise (fun x y => ¬ LtE y x) ∧ w'.ownsRow base 34 4 v n (ecl ms) ∧ Keeps (fun b => v.ownBlock = some b) w w' := by
  have hl := h.1
  rw [ecl_len] at hl
  rcases h.2 with ⟨hv, h0⟩ | ⟨g, cap, cur, rfl, -⟩
  · have hn0 : n = 0 := by first | exact h0 | exact h0.1
    subst hn0
    have hls : ls = [] := List.eq_nil_of_length_eq_zero (by omega)
    subst hls hv
    refine (sortNoE none 0 _ w).mono ?_
    rintro e w' ⟨rfl, rfl⟩
    exact ⟨rfl, [], List.Perm.refl _, List.Pairwise.nil, h, Keeps.refl _ _⟩
  · refine (sortE_any h (by omega) hsz).mono ?_
    rintro e w' ⟨rfl, ms, h1, h2, h3, h4⟩
    exact ⟨rfl, ms, h1, h2, h3, h4.mono (fun i _ e => by have e : i = g := e; rw [e]; rfl)⟩
end Go.Proofs.Ythmlppepgcjfgaa
