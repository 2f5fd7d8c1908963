import Derived.Test.YtgfjhogogajbjaaSchWin
namespace Go.Proofs.Ytgfjhogogajbjaa
open Go.RowKit Go.Deep Go.ChangeShapes Go.WideShapes Go.ChangeAt

/-- A window that was handed in. -/
theorem open_window {H : Type} {enc : TypeId × Value → H} {P : Program} {W : World} {t e : TypeId} {f0 f1 f2 f3 f4 : Field} {fuel : Nat} {cs : List Value} {x : DataW H × List MemPlace}
    (hs : P.underlying t = some (.struct #[f0, f1, f2, f3, f4])) (hcs : cs.length = 5) (o0 : f0.offset = 0) (o1 : f1.offset = 1) (o2 : f2.offset = 2) (o3 : f3.offset = 3) (o4 : f4.offset = 4)
    (c0 : P.cellsOf f0.type = 1) (c1 : P.cellsOf f1.type = 1) (c2 : P.cellsOf f2.type = 1) (c3 : P.cellsOf f3.type = 1) (c4 : P.cellsOf f4.type = 1)
    (u0 : P.underlying f0.type = some (.int .i64)) (u1 : P.underlying f1.type = some (.slice e)) (u2 : P.underlying f2.type = some (.int .i64)) (u3 : P.underlying f3.type = some (.int .i64)) (u4 : P.underlying f4.type = some (.int .i64)) (he : P.underlying e = some (.int .i64)) (ce : P.cellsOf e = 1)
    (h : DataW.trod enc P W 0 (fun _ => true) true fuel t cs = some x) :
    ∃ th a len cap fr k tt, cs = [.int .i64 th, .slice a len cap, .int .i64 fr, .int .i64 k, .int .i64 tt] ∧ (∃ z, NL W a len z) ∧ len ≤ 9223372036854775807 ∧ I64 fr ∧ I64 k ∧ I64 tt := by
  obtain ⟨xs, k, hk, hxy, _, hxl, hf⟩ := DataW.trod_struct hs h
  match xs, hxl, cs, hcs with
  | [y0, y1, y2, y3, y4], _, [v0, v1, v2, v3, v4], _ =>
    have g0 := hf 0 f0 rfl
    have g1 := hf 1 f1 rfl
    have g2 := hf 2 f2 rfl
    have g3 := hf 3 f3 rfl
    have g4 := hf 4 f4 rfl
    simp [o0, o1, o2, o3, o4, c0, c1, c2, c3, c4] at g0 g1 g2 g3 g4
    obtain ⟨q0, r0, _, w0⟩ := DataW.trod_int u0 g0
    obtain ⟨q2, r2, _, w2⟩ := DataW.trod_int u2 g2
    obtain ⟨q3, r3, _, w3⟩ := DataW.trod_int u3 g3
    obtain ⟨q4, r4, _, w4⟩ := DataW.trod_int u4 g4
    simp at r0 r2 r3 r4
    subst r0 r2 r3 r4
    obtain ⟨a, len, cap, rfl⟩ : ∃ a len cap, v1 = .slice a len cap := by
      rcases open_slice u1 g1 with ⟨hc, _⟩ | ⟨a', len', cap', m, n, D, Pl, hc, _⟩
      · simp at hc; exact ⟨_, _, _, hc⟩
      · simp at hc; exact ⟨_, _, _, hc⟩
    obtain ⟨z, hz, _, _⟩ := open_nums u1 he ce g1
    exact ⟨q0, a, len, cap, q2, q3, q4, rfl, ⟨z, hz⟩, open_len u1 g1, i64_of_wf w2, i64_of_wf w3, i64_of_wf w4⟩
end Go.Proofs.Ytgfjhogogajbjaa
