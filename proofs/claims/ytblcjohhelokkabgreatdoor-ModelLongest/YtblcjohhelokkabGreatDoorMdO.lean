import Derived.Test.YtblcjohhelokkabGreatDoorLgM
import Derived.Test.YtblcjohhelokkabGreatDoorMdJ
namespace Go.Proofs.YtblcjohhelokkabGreatDoor
open Go.RowKit Go.Deep Go.ChangeShapes Go.WideShapes Go.ChangeAt
/-- Numbers that were handed in. -/
theorem open_nums {H : Type} {enc : TypeId × Value → H} {P : Program} {W : World} {spare : Nat → Bool} {held : Bool} {t e : TypeId} {fuel : Nat} {a : Option Addr} {len cap : Nat} {x : DataW H × List MemPlace}
    (ht : P.underlying t = some (.slice e)) (he : P.underlying e = some (.int .i64)) (ce : P.cellsOf e = 1)
    (h : DataW.trod enc P W 0 spare held fuel t [.slice a len cap] = some x) : ∃ l : List Int, l.length = len ∧ NUM W a l := by
  by_cases h0 : len = 0
  · subst h0
    exact ⟨[], rfl, fun i x hi => by simp at hi⟩
  rcases open_slice ht h with ⟨hcs, _⟩ | ⟨a', len', cap', m, n, D, Pl, hcs, hb, hl, hm, hmm, rfl, hx⟩
  · simp at hcs; omega
  simp at hcs
  obtain ⟨rfl, rfl, rfl⟩ := hcs
  have hlm : len ≤ m := by rw [hmm]; split <;> omega
  have each : ∀ i, i < len → ∃ v : Int, W.cell? (a'.add i) = some (.int .i64 v) := by
    intro i hi
    obtain ⟨cs', h1, h2⟩ := hx i (by omega)
    rw [ce] at h1
    obtain ⟨_, hlen, hcell⟩ := World.cells?_some h1
    obtain ⟨v, rfl, _⟩ := DataW.trod_int he h2
    have cj := hcell 0 (by omega)
    rw [add_add] at cj
    refine ⟨v, ?_⟩
    simpa using cj
  obtain ⟨b, off, spot⟩ := a'
  obtain ⟨v0, z0⟩ := each 0 (by omega)
  have hspot : spot = none := by simpa [Addr.add] using World.cell?_spot z0
  subst hspot
  obtain ⟨V, hV⟩ := choose_lt each
  refine ⟨(List.range len).map V, by simp, fun i x hi => ?_⟩
  have hil : i < len := by have := (List.getElem?_eq_some_iff.1 hi).1; simpa using this
  have : x = V i := by simpa [hil] using hi.symm
  subst this
  have hv := hV i hil
  rw [add_at] at hv
  exact ⟨b, off, rfl, hv⟩
/-- Given reads that were handed in. -/
theorem open_givs {H : Type} {enc : TypeId × Value → H} {P : Program} {W : World} {spare : Nat → Bool} {held : Bool} {t e : TypeId} {g0 g1 : Field} {fuel : Nat} {a : Option Addr} {len cap : Nat} {x : DataW H × List MemPlace}
    (ht : P.underlying t = some (.slice e)) (hs : P.underlying e = some (.struct #[g0, g1])) (ce : P.cellsOf e = 2) (o0 : g0.offset = 0) (o1 : g1.offset = 1) (c0 : P.cellsOf g0.type = 1) (c1 : P.cellsOf g1.type = 1) (u0 : P.underlying g0.type = some .bool) (u1 : P.underlying g1.type = some (.int .i64))
    (h : DataW.trod enc P W 0 spare held fuel t [.slice a len cap] = some x) : ∃ l : List (Bool × Int), l.length = len ∧ GVN W a l := by
  by_cases h0 : len = 0
  · subst h0
    exact ⟨[], rfl, fun i x hi => by simp at hi⟩
  rcases open_slice ht h with ⟨hcs, _⟩ | ⟨a', len', cap', m, n, D, Pl, hcs, hb, hl, hm, hmm, rfl, hx⟩
  · simp at hcs; omega
  simp at hcs
  obtain ⟨rfl, rfl, rfl⟩ := hcs
  have hlm : len ≤ m := by rw [hmm]; split <;> omega
  have each : ∀ i, i < len → ∃ q : Bool × Int, W.cell? (a'.add (i * 2)) = some (.bool q.1) ∧ W.cell? (a'.add (i * 2 + 1)) = some (.int .i64 q.2) := by
    intro i hi
    obtain ⟨cs', h1, h2⟩ := hx i (by omega)
    rw [ce] at h1
    obtain ⟨_, hlen, hcell⟩ := World.cells?_some h1
    match cs', hlen with
    | [z0, z1], _ =>
      obtain ⟨b, q, rfl, rfl⟩ := open_opd hs o0 o1 c0 c1 u0 u1 h2
      have cj := hcell 0 (by omega)
      have ck := hcell 1 (by omega)
      rw [add_add] at cj ck
      refine ⟨(b, q), ?_, ?_⟩
      · simpa using cj
      · simpa using ck
  obtain ⟨b, off, spot⟩ := a'
  obtain ⟨q0, z0, _⟩ := each 0 (by omega)
  have hspot : spot = none := by simpa [Addr.add] using World.cell?_spot z0
  subst hspot
  obtain ⟨V, hV⟩ := choose_lt each
  refine ⟨(List.range len).map V, by simp, fun i x hi => ?_⟩
  have hil : i < len := by have := (List.getElem?_eq_some_iff.1 hi).1; simpa using this
  have : x = V i := by simpa [hil] using hi.symm
  subst this
  obtain ⟨hv, hu⟩ := hV i hil
  rw [add_at] at hv hu
  exact ⟨b, off, rfl, hv, by rw [← Nat.add_assoc] at hu; exact hu⟩
end Go.Proofs.YtblcjohhelokkabGreatDoor
