import Derived.Test.YtanmpioplckgbaaDoorLgH
namespace Go.Proofs.YtanmpioplckgbaaDoor
open Go.RowKit
attribute [local go_sem] Oper.semAt_some run_store_nf run_store_f
theorem ins_len (q : Ins) : q.cells.length = 11 := rfl
theorem icl_get : ∀ (l : List Ins) (i j : Nat) (v : Value), i < l.length → (l.getD i ins0).cells[j]? = some v → (icl l)[i * 11 + j]? = some v
  | [], _, _, _, h, _ => by simp at h
  | q :: l, 0, j, v, _, hv => by
    have hv : q.cells[j]? = some v := hv
    have hj : j < q.cells.length := (List.getElem?_eq_some_iff.1 hv).1
    show (q.cells ++ l.flatMap Ins.cells)[0 * 11 + j]? = some v
    rw [Nat.zero_mul, Nat.zero_add, List.getElem?_append_left hj]; exact hv
  | q :: l, i + 1, j, v, h, hv => by
    have hv : (l.getD i ins0).cells[j]? = some v := hv
    have h' : i < l.length := by simpa using h
    show (q.cells ++ l.flatMap Ins.cells)[(i + 1) * 11 + j]? = some v
    rw [List.getElem?_append_right (by rw [ins_len]; omega), ins_len, show (i + 1) * 11 + j - 11 = i * 11 + j by omega]
    exact icl_get l i j v h' hv
theorem isl_of_owns {W : World} {base n : Nat} {v : Value} {l : List Ins} (h : W.ownsRow base 31 11 v n (icl l)) (hn : l.length = n) : ∃ a cap, v = .slice a n cap ∧ ISL W a l := by
  rcases h.2 with ⟨rfl, h0⟩ | ⟨g, cap, cur, rfl, _⟩
  · have hz : n = 0 := by first | exact h0.1 | omega
    subst hz
    exact ⟨none, 0, rfl, fun i hi => by omega⟩
  · refine ⟨_, cap, rfl, fun i hi => ⟨g, 0, rfl, fun j v hv => ?_⟩⟩
    have e := icl_get l i j v hi hv
    have hc := h.cells (g := g) rfl (i * 11 + j) v e
    rw [add_at] at hc
    rw [Nat.zero_add] at hc ⊢
    exact hc
end Go.Proofs.YtanmpioplckgbaaDoor
