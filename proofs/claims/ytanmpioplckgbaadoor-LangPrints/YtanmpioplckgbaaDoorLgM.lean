import Derived.Test.YtanmpioplckgbaaDoorLgL
namespace Go.Proofs.YtanmpioplckgbaaDoor
open Go.RowKit Go.Deep Go.ChangeShapes Go.WideShapes Go.ChangeAt
/-- An operand's two cells. -/
theorem open_opd {H : Type} {enc : TypeId × Value → H} {P : Program} {W : World} {spare : Nat → Bool} {held : Bool} {e : TypeId} {g0 g1 : Field} {fuel : Nat} {v0 v1 : Value} {x : DataW H × List MemPlace}
    (hs : P.underlying e = some (.struct #[g0, g1])) (o0 : g0.offset = 0) (o1 : g1.offset = 1) (c0 : P.cellsOf g0.type = 1) (c1 : P.cellsOf g1.type = 1) (u0 : P.underlying g0.type = some .bool) (u1 : P.underlying g1.type = some (.int .i64))
    (h : DataW.trod enc P W 0 spare held fuel e [v0, v1] = some x) : ∃ (r : Bool) (n : Int), v0 = .bool r ∧ v1 = .int .i64 n := by
  obtain ⟨y0, y1, k, _, _, G0, G1⟩ := trod_struct2 hs h
  simp [o0, o1, c0, c1] at G0 G1
  obtain ⟨b, r0, _⟩ := DataW.trod_bool u0 G0
  obtain ⟨q, r1, _, _⟩ := DataW.trod_int u1 G1
  simp at r0 r1
  exact ⟨b, q, r0, r1⟩
theorem ins_cells_get (q : Ins) (j : Nat) (v : Value) (h : q.cells[j]? = some v) : (j = 0 ∧ v = .int .i64 q.code) ∨ (j = 1 ∧ v = .int .i64 q.dst) ∨ (j = 2 ∧ v = .bool q.oR) ∨ (j = 3 ∧ v = .int .i64 q.oN) ∨ (j = 4 ∧ v = .bool q.xR) ∨ (j = 5 ∧ v = .int .i64 q.xN) ∨ (j = 6 ∧ v = .bool q.yR) ∨ (j = 7 ∧ v = .int .i64 q.yN) ∨ (j = 8 ∧ v = .int .i64 q.op) ∨ (j = 9 ∧ v = .int .i64 q.rel) ∨ (j = 10 ∧ v = .int .i64 q.to) := by
  have hj : j < 11 := (List.getElem?_eq_some_iff.1 h).1
  rcases (by omega : j = 0 ∨ j = 1 ∨ j = 2 ∨ j = 3 ∨ j = 4 ∨ j = 5 ∨ j = 6 ∨ j = 7 ∨ j = 8 ∨ j = 9 ∨ j = 10) with rfl | rfl | rfl | rfl | rfl | rfl | rfl | rfl | rfl | rfl | rfl <;> (simp [Ins.cells] at h; simp [h])
/-- Instructions that were handed in. -/
theorem open_ins {H : Type} {enc : TypeId × Value → H} {P : Program} {W : World} {spare : Nat → Bool} {held : Bool} {t e eo : TypeId} {f0 f1 f2 f3 f4 f5 f6 f7 g0 g1 : Field} {fuel : Nat} {a : Option Addr} {len cap : Nat} {x : DataW H × List MemPlace}
    (ht : P.underlying t = some (.slice e)) (hs : P.underlying e = some (.struct #[f0, f1, f2, f3, f4, f5, f6, f7])) (ho : P.underlying eo = some (.struct #[g0, g1])) (ce : P.cellsOf e = 11)
    (o0 : f0.offset = 0) (o1 : f1.offset = 1) (o2 : f2.offset = 2) (o3 : f3.offset = 4) (o4 : f4.offset = 6) (o5 : f5.offset = 8) (o6 : f6.offset = 9) (o7 : f7.offset = 10) (c0 : P.cellsOf f0.type = 1) (c1 : P.cellsOf f1.type = 1) (c2 : P.cellsOf f2.type = 2) (c3 : P.cellsOf f3.type = 2) (c4 : P.cellsOf f4.type = 2) (c5 : P.cellsOf f5.type = 1) (c6 : P.cellsOf f6.type = 1) (c7 : P.cellsOf f7.type = 1) (t2 : f2.type = eo) (t3 : f3.type = eo) (t4 : f4.type = eo) (u0 : P.underlying f0.type = some (.int .i64)) (u1 : P.underlying f1.type = some (.int .i64)) (u5 : P.underlying f5.type = some (.int .i64)) (u6 : P.underlying f6.type = some (.int .i64)) (u7 : P.underlying f7.type = some (.int .i64))
    (p0 : g0.offset = 0) (p1 : g1.offset = 1) (d0 : P.cellsOf g0.type = 1) (d1 : P.cellsOf g1.type = 1) (v0 : P.underlying g0.type = some .bool) (v1 : P.underlying g1.type = some (.int .i64))
    (h : DataW.trod enc P W 0 spare held fuel t [.slice a len cap] = some x) : ∃ l : List Ins, l.length = len ∧ ISL W a l ∧ (len = 0 ∨ ∃ es ss, x.1 = .slice es ss ∧ len ≤ es.length + ss.length) := by
  by_cases h0 : len = 0
  · subst h0
    exact ⟨[], rfl, fun i hi => by simp at hi, .inl rfl⟩
  rcases open_slice ht h with ⟨hcs, _⟩ | ⟨a', len', cap', m, n, D, Pl, hcs, hb, hl, hm, hmm, rfl, hx⟩
  · simp at hcs; omega
  simp at hcs
  obtain ⟨rfl, rfl, rfl⟩ := hcs
  have hlm : len ≤ m := by rw [hmm]; split <;> omega
  have each : ∀ i, i < len → ∃ q : Ins, ∀ j v, q.cells[j]? = some v → W.cell? (a'.add (i * 11 + j)) = some v := by
    intro i hi
    obtain ⟨cs', h1, h2⟩ := hx i (by omega)
    rw [ce] at h1
    obtain ⟨_, hlen, hcell⟩ := World.cells?_some h1
    obtain ⟨xs, k, hk, hxy, _, hxl, hf⟩ := DataW.trod_struct hs h2
    match xs, hxl, cs', hlen with
    | [y0, y1, y2, y3, y4, y5, y6, y7], _, [z0, z1, z2, z3, z4, z5, z6, z7, z8, z9, z10], _ =>
      have G0 := hf 0 f0 rfl
      have G1 := hf 1 f1 rfl
      have G2 := hf 2 f2 rfl
      have G3 := hf 3 f3 rfl
      have G4 := hf 4 f4 rfl
      have G5 := hf 5 f5 rfl
      have G6 := hf 6 f6 rfl
      have G7 := hf 7 f7 rfl
      simp [o0, o1, o2, o3, o4, o5, o6, o7, c0, c1, c2, c3, c4, c5, c6, c7] at G0 G1 G2 G3 G4 G5 G6 G7
      rw [t2] at G2
      rw [t3] at G3
      rw [t4] at G4
      obtain ⟨q0, r0, _, _⟩ := DataW.trod_int u0 G0
      obtain ⟨q1, r1, _, _⟩ := DataW.trod_int u1 G1
      obtain ⟨b2, q2, r2, r3⟩ := open_opd ho p0 p1 d0 d1 v0 v1 G2
      obtain ⟨b4, q4, r4, r5⟩ := open_opd ho p0 p1 d0 d1 v0 v1 G3
      obtain ⟨b6, q6, r6, r7⟩ := open_opd ho p0 p1 d0 d1 v0 v1 G4
      obtain ⟨q8, r8, _, _⟩ := DataW.trod_int u5 G5
      obtain ⟨q9, r9, _, _⟩ := DataW.trod_int u6 G6
      obtain ⟨q10, r10, _, _⟩ := DataW.trod_int u7 G7
      simp at r0 r1 r8 r9 r10
      refine ⟨⟨q0, q1, b2, q2, b4, q4, b6, q6, q8, q9, q10⟩, fun j v hv => ?_⟩
      have hj : j < 11 := (List.getElem?_eq_some_iff.1 hv).1
      have cj := hcell j (by omega)
      rw [add_add] at cj
      rw [cj]
      have g := ins_cells_get _ j v hv
      simp only at g
      rcases g with ⟨rfl, rfl⟩ | ⟨rfl, rfl⟩ | ⟨rfl, rfl⟩ | ⟨rfl, rfl⟩ | ⟨rfl, rfl⟩ | ⟨rfl, rfl⟩ | ⟨rfl, rfl⟩ | ⟨rfl, rfl⟩ | ⟨rfl, rfl⟩ | ⟨rfl, rfl⟩ | ⟨rfl, rfl⟩ <;> simp [r0, r1, r2, r3, r4, r5, r6, r7, r8, r9, r10]
  obtain ⟨b, off, spot⟩ := a'
  obtain ⟨q00, z00⟩ := each 0 (by omega)
  have z0 := z00 1 _ rfl
  have z0' := z00 0 _ rfl
  have hspot : spot = none := by simpa [Addr.add] using World.cell?_spot z0'
  subst hspot
  obtain ⟨V, hV⟩ := choose_lt each
  have ha : ∀ i, i < len → ((List.range len).map V).getD i ins0 = V i := fun i hi => by simp [List.getD_eq_getElem?_getD, hi]
  refine ⟨(List.range len).map V, by simp, fun i hi => ⟨b, off, rfl, fun j v hv => ?_⟩, .inr ⟨_, _, rfl, by simp⟩⟩
  simp at hi
  rw [ha i hi] at hv
  have := hV i hi j v hv
  rw [add_at] at this
  rw [Nat.add_assoc]
  exact this
end Go.Proofs.YtanmpioplckgbaaDoor
