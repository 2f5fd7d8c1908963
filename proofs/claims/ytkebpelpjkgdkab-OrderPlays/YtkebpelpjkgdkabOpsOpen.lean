import Derived.Test.YtkebpelpjkgdkabQueE
import Derived.Deep.Slices
import Derived.ChangeArms
import Derived.DataReads
namespace Go.Proofs.Ytkebpelpjkgdkab
open Go.RowKit Go.Deep Go.ChangeShapes

/-- A script in memory: element i holds four numbers. -/
def IsOps (w : World) (a : Option Addr) (len : Nat) : Prop :=
  len = 0 ∨
  ∃ b off, a = some ⟨b, off, none⟩ ∧ b < w.heap.size ∧ len ≤ 9223372036854775807 ∧
    ∀ i, i < len → ∃ k q x y : Int, I64 x ∧ I64 y ∧ w.cell? ⟨b, off + i * 4, none⟩ = some (.int .i64 k) ∧ w.cell? ⟨b, off + i * 4 + 1, none⟩ = some (.int .i64 q) ∧ w.cell? ⟨b, off + i * 4 + 2, none⟩ = some (.int .i64 x) ∧ w.cell? ⟨b, off + i * 4 + 3, none⟩ = some (.int .i64 y)

theorem add_none4 (b off n : Nat) : (⟨b, off, none⟩ : Addr).add n = ⟨b, off + n, none⟩ := by
  unfold Addr.add; split <;> simp_all

theorem open_ops {H : Type} {enc : TypeId × Value → H} {P : Program} {W : World} {spare : Nat → Bool} {held : Bool} {t e : TypeId} {f0 f1 f2 f3 : Field} {fuel : Nat} {a : Option Addr} {len cap : Nat} {x : DataW H × List MemPlace}
    (ht : P.underlying t = some (.slice e)) (hs : P.underlying e = some (.struct #[f0, f1, f2, f3])) (ce : P.cellsOf e = 4) (o0 : f0.offset = 0) (o1 : f1.offset = 1) (o2 : f2.offset = 2) (o3 : f3.offset = 3)
    (c0 : P.cellsOf f0.type = 1) (c1 : P.cellsOf f1.type = 1) (c2 : P.cellsOf f2.type = 1) (c3 : P.cellsOf f3.type = 1) (u0 : P.underlying f0.type = some (.int .i64)) (u1 : P.underlying f1.type = some (.int .i64)) (u2 : P.underlying f2.type = some (.int .i64)) (u3 : P.underlying f3.type = some (.int .i64))
    (h : DataW.trod enc P W 0 spare held fuel t [.slice a len cap] = some x) : IsOps W a len := by
  by_cases h0 : len = 0
  · exact .inl h0
  rcases open_slice ht h with ⟨hcs, _⟩ | ⟨a', len', cap', m, n, D, Pl, hcs, hb, hl, hm, hmm, rfl, hx⟩
  · simp at hcs; omega
  simp at hcs
  obtain ⟨rfl, rfl, rfl⟩ := hcs
  have hlm : len ≤ m := by rw [hmm]; split <;> omega
  have each : ∀ i, i < len → ∃ k q x y : Int, I64 x ∧ I64 y ∧ W.cell? (a'.add (i * 4)) = some (.int .i64 k) ∧ W.cell? (a'.add (i * 4 + 1)) = some (.int .i64 q) ∧ W.cell? (a'.add (i * 4 + 2)) = some (.int .i64 x) ∧ W.cell? (a'.add (i * 4 + 3)) = some (.int .i64 y) := by
    intro i hi
    obtain ⟨cs', h1, h2⟩ := hx i (by omega)
    rw [ce] at h1
    obtain ⟨_, hlen, hcell⟩ := World.cells?_some h1
    obtain ⟨xs, k, hk, hxy, _, hxl, hf⟩ := DataW.trod_struct hs h2
    match xs, hxl, cs', hlen with
    | [y0, y1, y2, y3], _, [v0, v1, v2, v3], _ =>
      have g0 := hf 0 f0 rfl
      have g1 := hf 1 f1 rfl
      have g2 := hf 2 f2 rfl
      have g3 := hf 3 f3 rfl
      simp [o0, o1, o2, o3, c0, c1, c2, c3] at g0 g1 g2 g3
      have e0 := hcell 0 (by omega)
      have e1 := hcell 1 (by omega)
      have e2 := hcell 2 (by omega)
      have e3 := hcell 3 (by omega)
      rw [add_add] at e0 e1 e2 e3
      obtain ⟨q0, r0, _, w0⟩ := DataW.trod_int u0 g0
      obtain ⟨q1, r1, _, w1⟩ := DataW.trod_int u1 g1
      obtain ⟨q2, r2, _, w2⟩ := DataW.trod_int u2 g2
      obtain ⟨q3, r3, _, w3⟩ := DataW.trod_int u3 g3
      simp at r0 r1 r2 r3
      subst r0 r1 r2 r3
      exact ⟨q0, q1, q2, q3, i64_of_wf w2, i64_of_wf w3, by simpa using e0, by simpa using e1, by simpa using e2, by simpa using e3⟩
  obtain ⟨b, off, spot⟩ := a'
  obtain ⟨_, _, _, _, _, _, z0, _⟩ := each 0 (by omega)
  have hspot : spot = none := by simpa [Addr.add] using World.cell?_spot z0
  subst hspot
  rw [add_none4] at z0
  refine .inr ⟨b, off, rfl, World.block_lt_of_cell? _ _ z0, ?_, ?_⟩
  · unfold maxLen at hm; omega
  · intro i hi
    obtain ⟨k, q, x, y, i1, i2, z0, z1, z2, z3⟩ := each i hi
    exact ⟨k, q, x, y, i1, i2, by simpa [add_none4] using z0, by simpa [add_none4, Nat.add_assoc] using z1, by simpa [add_none4, Nat.add_assoc] using z2, by simpa [add_none4, Nat.add_assoc] using z3⟩
end Go.Proofs.Ytkebpelpjkgdkab
