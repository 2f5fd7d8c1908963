import Derived.Test.YthmlppepgcjfgaaGrE
namespace Go.Proofs.Ythmlppepgcjfgaa
open Go.RowKit
attribute [local go_sem] Oper.semAt_some run_store_nf run_store_f
/-- What Reaches answers, the program's and the document's. -/
def ReA (n : Int) (l : List Ed) (fr to_ : Int) (x : Bool) (ec : Int) : Prop := (fltG n l ≠ 0 ∧ ec = fltG n l ∧ x = false) ∨ (fltG n l = 0 ∧ (isN n fr && isN n to_) = false ∧ ec = 201 ∧ x = false) ∨ (fltG n l = 0 ∧ (isN n fr && isN n to_) = true ∧ ec = 0 ∧ ∀ g : List Eg, l = g.map Eg.ed → (x = true ↔ Rch g fr.toNat to_.toNat))
theorem ReA.one {n : Int} {l : List Ed} {fr to_ : Int} {x x' : Bool} {ec ec' : Int} (h : ReA n l fr to_ x ec) (h' : ReA n l fr to_ x' ec') : x = x' ∧ ec = ec' := by
  rcases h with ⟨h1, h2, h3⟩ | ⟨h1, h2, h3, h4⟩ | ⟨h1, h2, h3, h4⟩ <;> rcases h' with ⟨g1, g2, g3⟩ | ⟨g1, g2, g3, g4⟩ | ⟨g1, g2, g3, g4⟩
  · exact ⟨h3.trans g3.symm, h2.trans g2.symm⟩
  · exact absurd g1 h1
  · exact absurd g1 h1
  · exact absurd h1 g1
  · exact ⟨h4.trans g4.symm, h3.trans g3.symm⟩
  · rw [h2] at g2; cases g2
  · exact absurd h1 g1
  · rw [h2] at g2; cases g2
  · obtain ⟨m, g, -, -, e, -⟩ := good_eg h1
    refine ⟨?_, h3.trans g3.symm⟩
    have q1 := h4 g e
    have q2 := g4 g e
    cases x <;> cases x' <;> simp_all
def ReP (n : Int) (l : List Ed) (fr to_ : Int) (w : World) (e : Ending) (w' : World) : Prop := ∃ x ec, e = .returned (.tuple #[.bool x, .int .i64 ec]) ∧ ReA n l fr to_ x ec ∧ Keeps (fun _ => False) w w'
theorem eg_inj : ∀ {g g' : List Eg}, g.map Eg.ed = g'.map Eg.ed → g = g'
  | [], [], _ => rfl
  | [], _ :: _, h => by cases h
  | _ :: _, [], h => by cases h
  | x :: g, y :: g', h => by
    rw [List.map_cons, List.map_cons] at h
    injection h with h1 h2
    obtain rfl := eg_inj h2
    obtain ⟨a, b, c, d⟩ := x
    obtain ⟨a', b', c', d'⟩ := y
    injection h1 with q1 q2 q3 q4
    have q1 : (a : Int) = (a' : Int) := q1
    have q2 : (b : Int) = (b' : Int) := q2
    have q3 : c = c' := q3
    have q4 : d = d' := q4
    obtain rfl : a = a' := by omega
    obtain rfl : b = b' := by omega
    obtain rfl : c = c' := q3
    obtain rfl : d = d' := q4
    rfl
end Go.Proofs.Ythmlppepgcjfgaa
