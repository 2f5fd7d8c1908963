import Derived.Test.YteomlhcllmlkpaaGreatDoorLocN
import Derived.Test.YteomlhcllmlkpaaGreatDoorLocM
namespace Go.Proofs.YteomlhcllmlkpaaGreatDoor
open Go.RowKit

theorem nw_lo (vs : List Vl) (c : Nat) {k i : Nat} (hi : i < k) : (nw vs c k).lo i = ⟨0, i, i, true⟩ := by simp [Ws.lo, nw, List.getD_eq_getElem?_getD, hi]
theorem nw_ob (vs : List Vl) (c : Nat) {k i : Nat} (hi : i < k) : (nw vs c k).ob i = c + 2 + i := by simp [Ws.ob, nw, List.getD_eq_getElem?_getD, hi]
theorem nw_att (vs : List Vl) (c k : Nat) : (nw vs c k).att 0 = ⟨-1, -1, -1, c, c + 1⟩ := by simp [Ws.att, nw]
theorem nm_val0 (m : Mm) (k : Nat) : (nm m k).val m.cells.length = 2 := by
  show (ca (m.cells ++ [(2, 2), (0, 0)] ++ _) m.cells.length).2 = 2
  simp [ca, List.getD_eq_getElem?_getD]
theorem nm_val (m : Mm) {k i : Nat} (hi : i < k) : (nm m k).val (m.cells.length + 2 + i) = (i : Int) := by
  show (ca (m.cells ++ [(2, 2), (0, 0)] ++ (List.range k).map fun (i : Nat) => ((i : Int), (i : Int))) (m.cells.length + 2 + i)).2 = (i : Int)
  have e : (m.cells ++ [((2 : Int), (2 : Int)), (0, 0)] ++ (List.range k).map fun (i : Nat) => ((i : Int), (i : Int)))[m.cells.length + 2 + i]? = some ((i : Int), (i : Int)) := by
    rw [List.getElem?_append_right (by simp)]
    simp [hi]
  simp only [ca, List.getD_eq_getElem?_getD, e, Option.getD_some]
theorem inv_nw (vs : List Vl) (m : Mm) (h80 : vs.length ≤ 80) (h1 : 1 ≤ vs.length) : Inv (nw vs m.cells.length vs.length) (nm m vs.length) := by
  have el : (nw vs m.cells.length vs.length).locs.length = vs.length := by simp [nw]
  have eo : (nw vs m.cells.length vs.length).objs.length = vs.length := by simp [nw]
  have ea : (nw vs m.cells.length vs.length).atts.length = 1 := by simp [nw]
  have ev : (nw vs m.cells.length vs.length).vals.length = vs.length := by simp [nw]
  have en := nm_len m vs.length
  have a0 : ∀ i, i < 1 → (nw vs m.cells.length vs.length).att i = ⟨-1, -1, -1, m.cells.length, m.cells.length + 1⟩ := fun i hi => by
    have : i = 0 := by omega
    rw [this]; exact nw_att _ _ _
  refine ⟨by rw [el, ev], fun i hi => ?_, fun i hi => ?_, fun i hi => ?_, fun i hi => ?_, by omega, by omega, by omega, by omega, ⟨fun k => if k = m.cells.length then 0 else if k = m.cells.length + 1 then 1 else 3 * (k - (m.cells.length + 2)) + 2, fun i hi => ?_, fun i hi => ?_⟩, ?_, fun i hi => ?_⟩
  · rw [el] at hi; rw [nw_lo _ _ hi, el, ea]; exact ⟨rfl, hi, Nat.zero_lt_one⟩
  · rw [ea] at hi; rw [a0 i hi, en]; exact ⟨by show m.cells.length < _; omega, by show m.cells.length + 1 < _; omega⟩
  · rw [eo] at hi; rw [nw_ob _ _ hi, en]; omega
  · rw [eo] at hi; rw [nw_ob _ _ hi, el]; exact ⟨i, nm_val m hi, hi, by rw [nw_lo _ _ hi]⟩
  · rw [ea] at hi; rw [a0 i hi]
    have : i = 0 := by omega
    subst this
    have q : ¬ m.cells.length + 1 = m.cells.length := by omega
    simp
  · rw [eo] at hi; rw [nw_ob _ _ hi]
    have q1 : ¬ m.cells.length + 2 + i = m.cells.length := by omega
    have q2 : ¬ m.cells.length + 2 + i = m.cells.length + 1 := by omega
    simp only [if_neg q1, if_neg q2]; omega
  · rw [nw_att]; exact nm_val0 m _
  · rw [el] at hi; rw [nw_lo _ _ hi, nw_lo _ _ hi, nw_att]; exact nm_val0 m _

end Go.Proofs.YteomlhcllmlkpaaGreatDoor
