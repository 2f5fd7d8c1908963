import Derived.Test.YtgcfckbmmdajhaaLkH
namespace Go.Proofs.Ytgcfckbmmdajhaa
open Go.RowKit
/-- A call more at the end of a list of one's own. -/
theorem append_cl {W : World} {base m : Nat} {v : Value} {l : List Cl} (hO : W.ownsRow base 33 8 v m (ccl l)) (hb : base ≤ W.heap.size) (hm : (m + 1) * 64 ≤ 140737488355328) (c : Cl) :
    ∃ a' c' W', (Builtin.append_ #[28, 28] 28 #[v, .slice (some ⟨W.heap.size, 0, none⟩) 1 1]).run Try.prog (W.alloc (.cells c.cells.toArray 33)) = .ok (.slice a' (m + 1) c') W' ∧ W'.ownsRow base 33 8 (.slice a' (m + 1) c') (m + 1) (ccl (l ++ [c])) ∧ Keeps (fun i => v.ownBlock = some i) W W' ∧ ((Value.slice a' (m + 1) c').ownBlock = v.ownBlock ∨ (Value.slice a' (m + 1) c').ownBlock = some (W.heap.size + 1)) := by
  obtain ⟨v', W', q1, q2, q3, q4⟩ := append_sz uC iC rfl (by decide) hO hb (by decide) hm c.cells rfl (fun u hu => by
    have := cl_one [c] u (by unfold ccl; simpa using hu)
    exact this)
  have e : ccl (l ++ [c]) = ccl l ++ c.cells := by unfold ccl; rw [List.flatMap_append]; simp
  rw [← e] at q2
  obtain ⟨a', c', rfl, -⟩ := own_slice q2
  exact ⟨a', c', W', q1, q2, q3, q4⟩
theorem getD_appC {l : List Cl} {c : Cl} {i : Nat} (hi : i < l.length) : (l ++ [c]).getD i cl0 = l.getD i cl0 := by
  rw [List.getD_eq_getElem?_getD, List.getElem?_append_left hi, ← List.getD_eq_getElem?_getD]
theorem getD_lastC (l : List Cl) (c : Cl) : (l ++ [c]).getD l.length cl0 = c := by
  rw [List.getD_eq_getElem?_getD, List.getElem?_append_right (Nat.le_refl _), Nat.sub_self]
  rfl
theorem OneL.snoc {l : List Cl} (h : OneL l) {c : Cl} (hc : OneC c l.length) : OneL (l ++ [c]) := fun i hi => by
  by_cases e : i = l.length
  · subst e
    rw [getD_lastC]
    exact hc
  · rw [getD_appC (by rw [List.length_append] at hi; simp at hi; omega)]
    exact h i (by rw [List.length_append] at hi; simp at hi; omega)
theorem range_getD {n i : Nat} (h : i < n) : (List.range n).getD i 0 = i := by
  rw [List.getD_eq_getElem?_getD, List.getElem?_range h]
  rfl
/-- The set behind the first k calls, in their order. -/
theorem setK_snoc {l : List Cl} {c : Cl} {n m : Nat} : ∀ k, k ≤ l.length → k ≤ n → k ≤ m → setK (l ++ [c]) (List.range m) k = setK l (List.range n) k
  | 0, _, _, _ => rfl
  | k + 1, h1, h2, h3 => by
    show (doesL (setK (l ++ [c]) _ k) (List.getD _ (List.getD _ k 0) cl0)).2.2 = (doesL (setK l _ k) (List.getD _ (List.getD _ k 0) cl0)).2.2
    rw [setK_snoc (n := n) (m := m) k (by omega) (by omega) (by omega), range_getD (by omega : k < m), range_getD (by omega : k < n), getD_appC (by omega)]
/-- A call with the set's own answer goes on, and so do those ahead of it. -/
theorem go_snoc {l : List Cl} {c : Cl} (hg : ∀ k, k < l.length → goK l (List.range l.length) k = true) (hy : c.yes = (doesL (setK l (List.range l.length) l.length) c).1) (hr : c.result = (doesL (setK l (List.range l.length) l.length) c).2.1) : ∀ k, k < (l ++ [c]).length → goK (l ++ [c]) (List.range (l ++ [c]).length) k = true := fun k hk => by
  have el : (l ++ [c]).length = l.length + 1 := by simp
  rw [el] at hk ⊢
  unfold goK
  rw [range_getD hk, setK_snoc (n := l.length) k (by omega) (by omega) (by omega)]
  by_cases e : k = l.length
  · subst e
    rw [getD_lastC, ← hy, ← hr]
    unfold goesP
    simp
  · have hk' : k < l.length := by omega
    have h1 := hg k hk'
    unfold goK at h1
    rw [range_getD hk'] at h1
    rw [getD_appC hk']
    exact h1
theorem set_snoc {l : List Cl} {c : Cl} : setK (l ++ [c]) (List.range (l ++ [c]).length) (l ++ [c]).length = (doesL (setK l (List.range l.length) l.length) c).2.2 := by
  have el : (l ++ [c]).length = l.length + 1 := by simp
  rw [el]
  show (doesL (setK (l ++ [c]) _ l.length) (List.getD _ (List.getD _ l.length 0) cl0)).2.2 = _
  rw [setK_snoc (n := l.length) l.length (by omega) (by omega) (by omega), range_getD (by omega), getD_lastC]
/-- Keys' answer. -/
theorem OneL.keys {l : List Cl} (h : OneL l) : keyL l = setK l (List.range l.length) l.length := by
  unfold keyL
  rw [h.pts, List.length_range]
/-- ByPoints is content. -/
theorem OneL.content {l : List Cl} (h : OneL l) (hg : ∀ k, k < l.length → goK l (List.range l.length) k = true) : BpP l (byP l l.length) (-1) := by
  rw [h.pts]
  exact .inr ⟨fun j hj => hg j (by simpa using hj), rfl⟩
end Go.Proofs.Ytgcfckbmmdajhaa
