import Derived.Test.YtfbbllokpikbiaaGpA
namespace Go.Proofs.Ytfbbllokpikbiaa
open Go.RowKit Go.Deep
attribute [local go_sem] Oper.semAt_some run_store_nf run_store_f
def zvs (X : List Int) : List Value := X.map (Value.int .i64)
theorem zvs_len (X : List Int) : (zvs X).length = X.length := List.length_map _
theorem zvs_pvs (L : List Nat) : zvs (L.map (fun i : Nat => (i : Int))) = pvs L := by unfold zvs pvs; rw [List.map_map]; rfl
/-- Lists of a list, as they are written to. -/
structure LQ (base : Nat) (W : World) (Q : Nat) (v : Value) (sa : Nat → Option Addr) (sc : Nat → Nat) (X : Nat → List Int) : Prop where
  r : W.ownsRow base 35 1 v Q ((List.range Q).map (fun i => Value.slice (sa i) (X i).length (sc i)))
  e : ∀ i, i < Q → W.ownsRow base 3 1 (.slice (sa i) (X i).length (sc i)) (X i).length (zvs (X i))
  d : ∀ i j, i < Q → j < Q → i ≠ j → ∀ b, (Value.slice (sa i) (X i).length (sc i)).ownBlock = some b → (Value.slice (sa j) (X j).length (sc j)).ownBlock ≠ some b
  b : base ≤ W.heap.size
theorem own_len (a : Option Addr) (n n' c c' : Nat) (h : a ≠ none) : (Value.slice a n c).ownBlock = (Value.slice a n' c').ownBlock := by
  cases a with
  | none => exact absurd rfl h
  | some p => rfl
theorem LQ.of {base : Nat} {W : World} {v : Value} {qs : List Pq} (h : PV base W v qs) (hb : base ≤ W.heap.size) : LQ base W qs.length v (fun i => (qs.getD i default).a) (fun i => (qs.getD i default).c) (fun i => (qs.getD i default).l.map (fun i : Nat => (i : Int))) := by
  have hat : ∀ i, i < qs.length → qs.getD i default ∈ qs := fun i hi => by rw [List.getD_eq_getElem?_getD, List.getElem?_eq_getElem hi]; exact List.getElem_mem hi
  refine ⟨?_, fun i hi => ?_, fun i j hi hj hij b h1 h2 => ?_, hb⟩
  · have e : (List.range qs.length).map (fun i => Value.slice (qs.getD i default).a ((qs.getD i default).l.map (fun i : Nat => (i : Int))).length (qs.getD i default).c) = qs.map Pq.val := by
      apply List.ext_getElem
      · simp
      · intro i h1 h2
        simp at h1
        simp [List.getD_eq_getElem?_getD, h1, Pq.val]
    rw [e]
    exact h.ra
  · have := h.rq _ (hat i hi)
    rw [zvs_pvs, List.length_map]
    exact this
  · rw [List.length_map] at h1 h2
    have hp := List.pairwise_iff_getElem.1 h.dq
    have g : ∀ k (hk : k < qs.length), qs.getD k default = qs[k] := fun k hk => by rw [List.getD_eq_getElem?_getD, List.getElem?_eq_getElem hk]; rfl
    rw [g i hi] at h1
    rw [g j hj] at h2
    rcases Nat.lt_or_gt_of_ne hij with c | c
    · exact hp i j hi hj c b h1 h2
    · exact hp j i hj hi c b h2 h1
section
variable {base Q : Nat} {W : World} {v : Value} {sa : Nat → Option Addr} {sc : Nat → Nat} {X : Nat → List Int}
theorem LQ.keep (h : LQ base W Q v sa sc X) {W' : World} (k : Keeps (fun _ => False) W W') : LQ base W' Q v sa sc X := ⟨k.owns h.r (fun _ _ e => e), fun i hi => k.owns (h.e i hi) (fun _ _ e => e), h.d, Nat.le_trans h.b k.size⟩
/-- A list's own slice, and its block. -/
theorem LQ.at (h : LQ base W Q v sa sc X) {i : Nat} (hi : i < Q) : ∃ ab ac, v = .slice (some ⟨ab, 0, none⟩) Q ac ∧ W.cell? ⟨ab, i, none⟩ = some (.slice (sa i) (X i).length (sc i)) ∧ base ≤ ab := by
  obtain ⟨a', c', rfl, hc, -, ho⟩ := own_slice h.r
  obtain ⟨g, rfl, hcell⟩ := hc i (.slice (sa i) (X i).length (sc i)) (by rw [List.getElem?_map, List.getElem?_range hi]; rfl)
  exact ⟨g, c', rfl, hcell, owns_baseT h.r g rfl⟩
theorem LQ.blk (h : LQ base W Q v sa sc X) {i : Nat} (hi : i < Q) (h0 : 0 < (X i).length) : ∃ g, sa i = some ⟨g, 0, none⟩ ∧ base ≤ g ∧ g < W.heap.size ∧ ∀ j, j < (X i).length → W.cell? ⟨g, j, none⟩ = some (.int .i64 ((X i).getD j 0)) := by
  obtain ⟨pb, pc, e, h1, h2⟩ := row_some (h.e i hi) h0
  injection e with e _ _
  refine ⟨pb, e, h1, h2, fun j hj => ?_⟩
  obtain ⟨a', c', e', hc, -, -⟩ := own_slice (h.e i hi)
  injection e' with e1 _ _
  obtain ⟨g, e2, hcell⟩ := hc j (.int .i64 ((X i).getD j 0)) (by unfold zvs; rw [List.getElem?_map, List.getElem?_eq_getElem hj, List.getD_eq_getElem?_getD, List.getElem?_eq_getElem hj]; rfl)
  rw [← e1, e] at e2
  injection e2 with e2
  injection e2 with e2 _ _
  rw [e2]
  exact hcell
def upX (X : Nat → List Int) (i : Nat) (L : List Int) : Nat → List Int := fun j => if j = i then L else X j
theorem LQ.put (h : LQ base W Q v sa sc X) {i j g : Nat} (hi : i < Q) (hj : j < (X i).length) (hg : sa i = some ⟨g, 0, none⟩) (x : Int) : LQ base (W.setCell ⟨g, j, none⟩ (.int .i64 x)) Q v sa sc (upX X i ((X i).set j x)) := by
  have hob : ∀ k, (Value.slice (sa k) (upX X i ((X i).set j x) k).length (sc k)) = Value.slice (sa k) (X k).length (sc k) := fun k => by
    unfold upX
    split
    · next e => rw [e, List.length_set]
    · rfl
  have hlen : ∀ k, (upX X i ((X i).set j x) k).length = (X k).length := fun k => by
    unfold upX
    split
    · next e => rw [e, List.length_set]
    · rfl
  have k1 : Keeps (fun b => b = g) W (W.setCell ⟨g, j, none⟩ (.int .i64 x)) := (Keeps.refl (fun b => b = g) W).setCell (p := ⟨g, j, none⟩) (fun _ => rfl) _
  have hgi : (Value.slice (sa i) (X i).length (sc i)).ownBlock = some g := by rw [hg]; rfl
  refine ⟨?_, fun k hk => ?_, fun k l hk hl hkl b h1 h2 => ?_, Nat.le_trans h.b k1.size⟩
  · have e : (List.range Q).map (fun i_1 => Value.slice (sa i_1) (upX X i ((X i).set j x) i_1).length (sc i_1)) = (List.range Q).map (fun i => Value.slice (sa i) (X i).length (sc i)) := List.map_congr_left (fun k _ => hob k)
    rw [e]
    exact k1.owns h.r (fun b hb e => by have e : b = g := e; exact own_apart h.r (h.e i hi) (by decide) b hb (by rw [e]; exact hgi))
  · rw [hlen]
    by_cases e : k = i
    · subst e
      have hO := h.e k hk
      rw [hg] at hO ⊢
      have := (hO.stored j (.int .i64 x)).1
      have e2 : zvs (upX X k ((X k).set j x) k) = (zvs (X k)).set j (.int .i64 x) := by unfold upX zvs; rw [if_pos rfl, List.map_set]
      rw [e2]
      exact this
    · have e2 : upX X i ((X i).set j x) k = X k := by unfold upX; rw [if_neg e]
      rw [e2]
      exact k1.owns (h.e k hk) (fun b hb e3 => by have e3 : b = g := e3; exact h.d k i hk hi e b hb (by rw [e3]; exact hgi))
  · rw [hob] at h1 h2
    exact h.d k l hk hl hkl b h1 h2
/-- A list grows by a number, and stands in its place again. -/
theorem LQ.app (h : LQ base W Q v sa sc X) {i : Nat} (hi : i < Q) {ab ac : Nat} (hv : v = .slice (some ⟨ab, 0, none⟩) Q ac) {W1 : World} {a1 : Option Addr} {c1 : Nat} {x : Int} (hr : W1.ownsRow base 3 1 (.slice a1 ((X i).length + 1) c1) ((X i).length + 1) (zvs (X i) ++ [.int .i64 x])) (k1 : Keeps (fun b => (Value.slice (sa i) (X i).length (sc i)).ownBlock = some b) W W1) (ho : (Value.slice a1 ((X i).length + 1) c1).ownBlock = (Value.slice (sa i) (X i).length (sc i)).ownBlock ∨ (Value.slice a1 ((X i).length + 1) c1).ownBlock = some (W.heap.size + 1)) : LQ base (W1.setCell ⟨ab, i, none⟩ (.slice a1 ((X i).length + 1) c1)) Q v (fun j => if j = i then a1 else sa j) (fun j => if j = i then c1 else sc j) (upX X i (X i ++ [x])) := by
  subst hv
  have hr1 : W1.ownsRow base 35 1 (.slice (some ⟨ab, 0, none⟩) Q ac) Q ((List.range Q).map (fun i => Value.slice (sa i) (X i).length (sc i))) := k1.owns h.r (fun b hb e => own_apart h.r (h.e i hi) (by decide) b hb e)
  have k2 : Keeps (fun b => b = ab) W1 (W1.setCell ⟨ab, i, none⟩ (.slice a1 ((X i).length + 1) c1)) := (Keeps.refl (fun b => b = ab) W1).setCell (p := ⟨ab, i, none⟩) (fun _ => rfl) _
  have low : ∀ {u : Value} {m : Nat} {xs : List Value}, W1.ownsRow base 3 1 u m xs → (W1.setCell ⟨ab, i, none⟩ (.slice a1 ((X i).length + 1) c1)).ownsRow base 3 1 u m xs := fun ho => k2.owns ho (fun b hb e => by have e : b = ab := e; exact own_apart ho hr1 (by decide) b hb (by rw [e]; rfl))
  have el : (X i ++ [x]).length = (X i).length + 1 := by rw [List.length_append]; rfl
  have same : ∀ k, k ≠ i → (Value.slice (if k = i then a1 else sa k) (upX X i (X i ++ [x]) k).length (if k = i then c1 else sc k)) = Value.slice (sa k) (X k).length (sc k) := fun k e => by unfold upX; rw [if_neg e, if_neg e, if_neg e]
  have new : (Value.slice (if i = i then a1 else sa i) (upX X i (X i ++ [x]) i).length (if i = i then c1 else sc i)) = Value.slice a1 ((X i).length + 1) c1 := by unfold upX; rw [if_pos rfl, if_pos rfl, if_pos rfl, el]
  refine ⟨?_, fun k hk => ?_, fun k l hk hl hkl b h1 h2 => ?_, by have := k1.size; have := k2.size; have := h.b; omega⟩
  · have hs := (hr1.stored i (.slice a1 ((X i).length + 1) c1)).1
    have e : (List.range Q).map (fun j => Value.slice (if j = i then a1 else sa j) (upX X i (X i ++ [x]) j).length (if j = i then c1 else sc j)) = ((List.range Q).map (fun i => Value.slice (sa i) (X i).length (sc i))).set i (.slice a1 ((X i).length + 1) c1) := by
      apply List.ext_getElem
      · simp
      · intro k h1 h2
        simp at h1
        rw [List.getElem_set]
        by_cases e : i = k
        · subst e
          simp only [List.getElem_map, List.getElem_range, if_true]
          unfold upX
          rw [if_pos rfl, el]
        · rw [if_neg e]
          simp only [List.getElem_map, List.getElem_range]
          exact same k (fun q => e q.symm)
    rw [e]
    exact hs
  · by_cases e : k = i
    · subst e
      have e2 : (upX X k (X k ++ [x]) k) = X k ++ [x] := by unfold upX; rw [if_pos rfl]
      rw [if_pos rfl, if_pos rfl, e2, el]
      have e3 : zvs (X k ++ [x]) = zvs (X k) ++ [.int .i64 x] := by unfold zvs; rw [List.map_append]; rfl
      rw [e3]
      exact low hr
    · have e2 : upX X i (X i ++ [x]) k = X k := by unfold upX; rw [if_neg e]
      rw [if_neg e, if_neg e, e2]
      exact low (k1.owns (h.e k hk) (fun b hb q => h.d k i hk hi e b hb q))
  · have old : ∀ k, k < Q → k ≠ i → ∀ b, (Value.slice (sa k) (X k).length (sc k)).ownBlock = Option.some b → (Value.slice a1 ((X i).length + 1) c1).ownBlock ≠ Option.some b := fun k hk e b q r => by
      rcases ho with s | s
      · rw [s] at r; exact h.d k i hk hi e b q r
      · rw [s] at r
        injection r with r
        have := owns_lt' (h.e k hk) b q
        omega
    by_cases e : k = i
    · subst e
      rw [new] at h1
      have e2 : l ≠ k := fun q => hkl q.symm
      rw [same l e2] at h2
      exact old l hl e2 b h2 h1
    · rw [same k e] at h1
      by_cases e2 : l = i
      · subst e2
        rw [new] at h2
        exact old k hk e b h1 h2
      · rw [same l e2] at h2
        exact h.d k l hk hl hkl b h1 h2
end
theorem append_z {W : World} {base m : Nat} {v : Value} {xs : List Value} (hO : W.ownsRow base 3 1 v m xs) (hb : base ≤ W.heap.size) (hm : (m + 1) * 8 ≤ 140737488355328) (x : Int) :
    ∃ a' c' W', (Builtin.append_ #[35, 35] 35 #[v, .slice (some ⟨W.heap.size, 0, none⟩) 1 1]).run Try.prog (W.alloc (.cells #[.int .i64 x] 3)) = .ok (.slice a' (m + 1) c') W' ∧ W'.ownsRow base 3 1 (.slice a' (m + 1) c') (m + 1) (xs ++ [.int .i64 x]) ∧ Keeps (fun i => v.ownBlock = some i) W W' ∧ ((Value.slice a' (m + 1) c').ownBlock = v.ownBlock ∨ (Value.slice a' (m + 1) c').ownBlock = some (W.heap.size + 1)) := by
  obtain ⟨v', W', q1, q2, q3, q4⟩ := append_sz uI iI rfl (by decide) hO hb (by decide) hm [.int .i64 x] rfl (fun u hu => by simp at hu; subst hu; rfl)
  obtain ⟨a', c', rfl, -⟩ := own_slice q2
  exact ⟨a', c', W', q1, q2, q3, q4⟩
end Go.Proofs.Ytfbbllokpikbiaa
