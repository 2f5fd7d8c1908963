import Derived.Test.YtkfeccocaokdlabDoorLgM
import Derived.Test.YtkfeccocaokdlabDoorPhW
namespace Go.Proofs.YtkfeccocaokdlabDoor
open Go.RowKit Go.Deep Go.ChangeShapes Go.WideShapes Go.ChangeAt
/-- A list of truths that was handed in. -/
theorem open_bools {H : Type} {enc : TypeId × Value → H} {P : Program} {W : World} {spare : Nat → Bool} {held : Bool} {t e : TypeId} {fuel : Nat} {a : Option Addr} {len cap : Nat} {x : DataW H × List MemPlace}
    (ht : P.underlying t = some (.slice e)) (he : P.underlying e = some .bool) (ce : P.cellsOf e = 1)
    (h : DataW.trod enc P W 0 spare held fuel t [.slice a len cap] = some x) : BSL W a len := by
  by_cases h0 : len = 0
  · subst h0
    exact fun i hi => by omega
  rcases open_slice ht h with ⟨hcs, _⟩ | ⟨a', len', cap', m, n, D, Pl, hcs, hb, hl, hm, hmm, rfl, hx⟩
  · simp at hcs; omega
  simp at hcs
  obtain ⟨rfl, rfl, rfl⟩ := hcs
  have hlm : len ≤ m := by rw [hmm]; split <;> omega
  have each : ∀ i, i < len → ∃ v, W.cell? (a'.add i) = some (.bool v) := by
    intro i hi
    obtain ⟨cs', h1, h2⟩ := hx i (by omega)
    rw [ce] at h1
    obtain ⟨_, hlen, hcell⟩ := World.cells?_some h1
    obtain ⟨v, rfl, _⟩ := DataW.trod_bool he h2
    have cj := hcell 0 (by omega)
    rw [add_add] at cj
    refine ⟨v, ?_⟩
    simpa using cj
  obtain ⟨b, off, spot⟩ := a'
  obtain ⟨v0, z0⟩ := each 0 (by omega)
  have hspot : spot = none := by simpa [Addr.add] using World.cell?_spot z0
  subst hspot
  intro i hi
  obtain ⟨v, hv⟩ := each i hi
  rw [add_at] at hv
  exact ⟨b, off, v, rfl, hv⟩
end Go.Proofs.YtkfeccocaokdlabDoor
