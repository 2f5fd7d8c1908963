import Derived.Test.YtkebpelpjkgdkabLists
import Derived.Deep.SlicePairs
import Derived.ChangeArms
import Derived.DataReads
namespace Go.Proofs.Ytkebpelpjkgdkab
open Go.RowKit Go.Deep Go.ChangeShapes

theorem add_none' (b off n : Nat) : (⟨b, off, none⟩ : Addr).add n = ⟨b, off + n, none⟩ := by
  unfold Addr.add; split <;> simp_all

/-- Items that were handed in. -/
theorem open_items {H : Type} {enc : TypeId × Value → H} {P : Program} {W : World} {t e : TypeId} {f0 f1 : Field} {fuel : Nat} {a : Option Addr} {len cap : Nat} {x : DataW H × List MemPlace}
    (ht : P.underlying t = some (.slice e)) (he : P.underlying e = some (.struct #[f0, f1])) (ce : P.cellsOf e = 2) (o0 : f0.offset = 0) (o1 : f1.offset = 1) (c0 : P.cellsOf f0.type = 1) (c1 : P.cellsOf f1.type = 1)
    (u0 : P.underlying f0.type = some (.int .i64)) (u1 : P.underlying f1.type = some (.int .i64))
    (h : DataW.trod enc P W 0 (fun _ => true) true fuel t [.slice a len cap] = some x) :
    ∃ xs : List It, xs.length = len ∧ IL W a xs ∧ (∀ y ∈ xs, I64 y.1 ∧ I64 y.2) ∧ (len = 0 ∨ ∃ es ss, x.1 = .slice es ss ∧ len ≤ es.length + ss.length) := by
  rcases open_slice_pairs ht he ce o0 o1 c0 c1 h with ⟨hcs, _⟩ | ⟨a', l, c, m, n, V0, V1, D0, D1, P0, P1, hcs, hb, hl, hm, hmm, rfl, hx⟩
  · simp at hcs
    obtain ⟨rfl, rfl, rfl⟩ := hcs
    exact ⟨[], rfl, .inl rfl, (fun y hy => by cases hy), .inl rfl⟩
  · simp at hcs
    obtain ⟨rfl, rfl, rfl⟩ := hcs
    have hlm : len ≤ m := by rw [hmm]; split <;> omega
    have hV : ∀ i, i < len → ∃ q : It, (I64 q.1 ∧ I64 q.2) ∧ W.cell? (a'.add (i * 2)) = some (.int .i64 q.1) ∧ W.cell? (a'.add (i * 2 + 1)) = some (.int .i64 q.2) := fun i hi => by
      obtain ⟨h1, h2, h3, h4⟩ := hx i (by omega)
      obtain ⟨q0, r0, _, w0⟩ := DataW.trod_int u0 h3
      obtain ⟨q1, r1, _, w1⟩ := DataW.trod_int u1 h4
      simp at r0 r1
      exact ⟨(q0, q1), ⟨i64_of_wf w0, i64_of_wf w1⟩, by rw [h1, r0], by rw [h2, r1]⟩
    obtain ⟨V, hVs⟩ := choose_lt (α := It) (p := fun i q => (I64 q.1 ∧ I64 q.2) ∧ W.cell? (a'.add (i * 2)) = some (.int .i64 q.1) ∧ W.cell? (a'.add (i * 2 + 1)) = some (.int .i64 q.2)) hV
    have hia : ∀ i, i < len → ia ((List.range len).map V) i = V i := fun i hi => by simp [ia, List.getD_eq_getElem?_getD, hi]
    refine ⟨(List.range len).map V, by simp, ?_, fun y hy => ?_, .inr ⟨_, _, rfl, by simp⟩⟩
    · by_cases h0 : len = 0
      · exact .inl (by simp [h0])
      · obtain ⟨b, off, spot⟩ := a'
        have hc0 := (hVs 0 (by omega)).2.1
        have hspot : spot = none := by simpa [Addr.add] using World.cell?_spot hc0
        subst hspot
        rw [add_none'] at hc0
        refine .inr ⟨b, off, rfl, World.block_lt_of_cell? _ _ hc0, fun i hi => ?_⟩
        simp at hi
        obtain ⟨_, g1, g2⟩ := hVs i hi
        rw [add_none'] at g1 g2
        rw [hia i hi]
        exact ⟨g1, by rw [Nat.add_assoc]; exact g2⟩
    · simp at hy
      obtain ⟨i, hi, rfl⟩ := hy
      exact (hVs i hi).1
end Go.Proofs.Ytkebpelpjkgdkab
