import Derived.Test.YtkfeccocaokdlabDoorLgU
import Derived.Deep.OwnRows
namespace Go.Proofs.YtkfeccocaokdlabDoor
open Go.RowKit Go.Deep
attribute [local go_sem] Oper.semAt_some run_store_nf run_store_f
/-- A list of marks in memory. -/
structure BL (w : World) (B n : Nat) (f : Nat → Bool) : Prop where
  c : ∀ i, i < n → w.cell? ⟨B, i, none⟩ = some (.bool (f i))
  z : ∀ i, i < n → w.frozen? ⟨B, i, none⟩ = false
theorem BL.lt {w : World} {B n : Nat} {f : Nat → Bool} (h : BL w B n f) (hn : 0 < n) : B < w.heap.size := World.block_lt_of_cell? w ⟨B, 0, none⟩ (h.c 0 hn)
theorem BL.keep {w w' : World} {B n : Nat} {f : Nat → Bool} {S : Nat → Prop} (h : BL w B n f) (hn : 0 < n) (k : Keeps S w w') (hS : ¬ S B) : BL w' B n f :=
  ⟨fun i hi => k.cell (h.c i hi) hS, fun i hi => (k.frozen (p := ⟨B, i, none⟩) (h.lt hn) hS).trans (h.z i hi)⟩
theorem BL.set {w : World} {B n : Nat} {f : Nat → Bool} (h : BL w B n f) {p : Nat} (hp : p < n) (x : Bool) : BL (w.setCell ⟨B, p, none⟩ (.bool x)) B n (fun i => if i = p then x else f i) := by
  refine ⟨fun i hi => ?_, fun i hi => ?_⟩
  · by_cases e : i = p
    · subst e
      rw [if_pos rfl]
      exact World.cell?_setCell_same _ _ _ (h.c i hi)
    · rw [if_neg e, World.cell?_setCell_other _ _ _ _ (by intro e2; injection e2 with _ e3; omega)]
      exact h.c i hi
  · simp only [World.frozen?_setCell]
    exact h.z i hi
theorem BL.made (w : World) (n : Nat) (t : TypeId) : BL (w.alloc (.cells (madeCells #[.bool false] n) t)) w.heap.size n (fun _ => false) := by
  have e : madeCells #[.bool false] n = (List.replicate n (.bool false : Value)).toArray := by
    apply Array.ext'
    simp [madeCells]
    rw [List.eq_replicate_iff]
    refine ⟨by simp, fun b hb => ?_⟩
    obtain ⟨x, _, rfl⟩ := List.mem_map.1 hb
    rw [Nat.mod_one]; rfl
  rw [e]
  have h := CL.made w (List.replicate n (.bool false)) t
  exact ⟨fun i hi => h.c i _ (by rw [List.getElem?_replicate, if_pos hi]), fun i hi => h.z i (by simpa using hi)⟩
theorem bInfo : (Tryd.prog.info? 4).map (fun i => (i.zero, i.size, i.bytes)) = some (some (.bool false), 1, 1) := by kernel_rfl
theorem Wk.snoc {n : Nat} {nx : Nat → List Nat} {k p q : Nat} : Wk n nx (k + 1) p q ↔ ∃ r, r < n ∧ Wk n nx k p r ∧ q ∈ nx r := by
  induction k generalizing p with
  | zero =>
    constructor
    · rintro ⟨hp, r, hr, e⟩
      obtain rfl : r = q := e
      exact ⟨p, hp, rfl, hr⟩
    · rintro ⟨r, hr, e, hq⟩
      obtain rfl : p = r := e
      exact ⟨hr, q, hq, rfl⟩
  | succ k ih =>
    constructor
    · rintro ⟨hp, r, hr, hw⟩
      obtain ⟨s, hs, hw, hq⟩ := ih.1 hw
      exact ⟨s, hs, ⟨hp, r, hr, hw⟩, hq⟩
    · rintro ⟨s, hs, ⟨hp, r, hr, hw⟩, hq⟩
      exact ⟨hp, r, hr, ih.2 ⟨s, hs, hw, hq⟩⟩
def SomeP (N : Nat) (f : Nat → Bool) (w : World) (e : Ending) (w' : World) : Prop := w' = w ∧ ((e = .returned (.bool true) ∧ ∃ i, i < N ∧ f i = true) ∨ (e = .returned (.bool false) ∧ ∀ i, i < N → f i = false))
end Go.Proofs.YtkfeccocaokdlabDoor
