import Derived.Test.YtkkldbellngalaaRefCelY
import Derived.Test.YtkkldbellngalaaCelOpen
namespace Go.Proofs.Ytkkldbellngalaa
open Go.RowKit Go.Deep Go.ChangeShapes Go.WideShapes Go.ChangeAt

def Oq.ok (q : Oq) : Prop := I64 q.kind ∧ I64 q.c ∧ I64 q.n ∧ I64 q.x ∧ I64 q.y

/-- A script that was handed in. -/
theorem open_ops3 {H : Type} {enc : TypeId × Value → H} {P : Program} {W : World} {spare : Nat → Bool} {held : Bool} {t e : TypeId} {f0 f1 f2 f3 f4 f5 : Field} {fuel : Nat} {a : Option Addr} {len cap : Nat} {x : DataW H × List MemPlace}
    (ht : P.underlying t = some (.slice e)) (hs : P.underlying e = some (.struct #[f0, f1, f2, f3, f4, f5])) (ce : P.cellsOf e = 6) (o0 : f0.offset = 0) (o1 : f1.offset = 1) (o2 : f2.offset = 2) (o3 : f3.offset = 3) (o4 : f4.offset = 4) (o5 : f5.offset = 5)
    (c0 : P.cellsOf f0.type = 1) (c1 : P.cellsOf f1.type = 1) (c2 : P.cellsOf f2.type = 1) (c3 : P.cellsOf f3.type = 1) (c4 : P.cellsOf f4.type = 1) (c5 : P.cellsOf f5.type = 1) (u0 : P.underlying f0.type = some (.int .i64)) (u1 : P.underlying f1.type = some (.int .i64)) (u2 : P.underlying f2.type = some (.int .i64)) (u3 : P.underlying f3.type = some (.int .i64)) (u4 : P.underlying f4.type = some (.int .i64)) (u5 : P.underlying f5.type = some .bool)
    (h : DataW.trod enc P W 0 spare held fuel t [.slice a len cap] = some x) : ∃ l : List Oc, l.length = len ∧ OL W a l ∧ (∀ q ∈ l, q.ok) ∧ (len = 0 ∨ ∃ es ss, x.1 = .slice es ss ∧ len ≤ es.length + ss.length) := by
  by_cases h0 : len = 0
  · subst h0
    exact ⟨[], rfl, .inl rfl, (fun q hq => by cases hq), .inl rfl⟩
  rcases open_slice ht h with ⟨hcs, _⟩ | ⟨a', len', cap', m, n, D, Pl, hcs, hb, hl, hm, hmm, rfl, hx⟩
  · simp at hcs; omega
  simp at hcs
  obtain ⟨rfl, rfl, rfl⟩ := hcs
  have hlm : len ≤ m := by rw [hmm]; split <;> omega
  have each : ∀ i, i < len → ∃ q : Oq, q.ok ∧ W.cell? (a'.add (i * 6)) = some (.int .i64 q.kind) ∧ W.cell? (a'.add (i * 6 + 1)) = some (.int .i64 q.c) ∧ W.cell? (a'.add (i * 6 + 2)) = some (.int .i64 q.n) ∧ W.cell? (a'.add (i * 6 + 3)) = some (.int .i64 q.x) ∧ W.cell? (a'.add (i * 6 + 4)) = some (.int .i64 q.y) ∧ W.cell? (a'.add (i * 6 + 5)) = some (.bool q.other) := by
    intro i hi
    obtain ⟨cs', h1, h2⟩ := hx i (by omega)
    rw [ce] at h1
    obtain ⟨_, hlen, hcell⟩ := World.cells?_some h1
    obtain ⟨xs, k, hk, hxy, _, hxl, hf⟩ := DataW.trod_struct hs h2
    match xs, hxl, cs', hlen with
    | [y0, y1, y2, y3, y4, y5], _, [v0, v1, v2, v3, v4, v5], _ =>
      have g0 := hf 0 f0 rfl
      have g1 := hf 1 f1 rfl
      have g2 := hf 2 f2 rfl
      have g3 := hf 3 f3 rfl
      have g4 := hf 4 f4 rfl
      have g5 := hf 5 f5 rfl
      simp [o0, o1, o2, o3, o4, o5, c0, c1, c2, c3, c4, c5] at g0 g1 g2 g3 g4 g5
      have e0 := hcell 0 (by omega)
      have e1 := hcell 1 (by omega)
      have e2 := hcell 2 (by omega)
      have e3 := hcell 3 (by omega)
      have e4 := hcell 4 (by omega)
      have e5 := hcell 5 (by omega)
      rw [add_add] at e0 e1 e2 e3 e4 e5
      obtain ⟨q0, r0, _, w0⟩ := DataW.trod_int u0 g0
      obtain ⟨q1, r1, _, w1⟩ := DataW.trod_int u1 g1
      obtain ⟨q2, r2, _, w2⟩ := DataW.trod_int u2 g2
      obtain ⟨q3, r3, _, w3⟩ := DataW.trod_int u3 g3
      obtain ⟨q4, r4, _, w4⟩ := DataW.trod_int u4 g4
      obtain ⟨q5, r5, _⟩ := DataW.trod_bool u5 g5
      simp at r0 r1 r2 r3 r4 r5
      subst r0 r1 r2 r3 r4 r5
      exact ⟨⟨q0, q1, q2, q3, q4, q5⟩, ⟨i64_of_wf w0, i64_of_wf w1, i64_of_wf w2, i64_of_wf w3, i64_of_wf w4⟩, by simpa using e0, by simpa using e1, by simpa using e2, by simpa using e3, by simpa using e4, by simpa using e5⟩
  obtain ⟨b, off, spot⟩ := a'
  obtain ⟨_, _, z0, _⟩ := each 0 (by omega)
  have hspot : spot = none := by simpa [Addr.add] using World.cell?_spot z0
  subst hspot
  rw [add_none] at z0
  obtain ⟨V, hV⟩ := choose_lt each
  have ha : ∀ i, i < len → oa ((List.range len).map V) i = V i := fun i hi => by simp [oa, List.getD_eq_getElem?_getD, hi]
  refine ⟨(List.range len).map V, by simp, .inr ⟨b, off, rfl, World.block_lt_of_cell? _ _ z0, fun i hi => ?_⟩, fun q hq => ?_, .inr ⟨_, _, rfl, by simp⟩⟩
  · simp at hi
    obtain ⟨_, z0, z1, z2, z3, z4, z5⟩ := hV i hi
    rw [ha i hi]
    exact ⟨by simpa [add_none] using z0, by simpa [add_none, Nat.add_assoc] using z1, by simpa [add_none, Nat.add_assoc] using z2, by simpa [add_none, Nat.add_assoc] using z3, by simpa [add_none, Nat.add_assoc] using z4, by simpa [add_none, Nat.add_assoc] using z5⟩
  · simp at hq
    obtain ⟨i, hi, rfl⟩ := hq
    exact (hV i hi).1

set_option maxHeartbeats 1600000 in
set_option maxRecDepth 1000000 in
theorem cellAll_walk {w : World} {a : Option Addr} {l : List Oc} (h : OL w a l) (_ : ∀ q ∈ l, q.ok) (hl : l.length ≤ 1048576) (cap : Nat) :
    Calls Try.prog 3 #[.slice a l.length cap] w fun e w' => e = .returned (.bool true) ∧ Below w.heap.size w w' := by
  have m1 := alike_any h hl cap
  clear h
  go_enter Try.func3, Try.ntmps3
  go_wp2_with ((go_at_call 9; refine (m1 _ _).mono ?_; rintro e w1 ⟨rfl, b1⟩))
  go_ret
  exact ⟨rfl, b1⟩

set_option maxHeartbeats 1600000 in
set_option maxRecDepth 1000000 in
theorem cellMakes_walk {w : World} {a : Option Addr} {l : List Oc} (h : OL w a l) (_ : ∀ q ∈ l, q.ok) (hl : l.length ≤ 1048576) (cap : Nat) :
    Calls Try.prog 4 #[.slice a l.length cap] w fun e w' => e = .returned (.bool true) ∧ Below w.heap.size w w' := by
  have m1 := alike_any h hl cap
  clear h
  go_enter Try.func4, Try.ntmps4
  go_wp2_with ((go_at_call 9; refine (m1 _ _).mono ?_; rintro e w1 ⟨rfl, b1⟩))
  go_ret
  exact ⟨rfl, b1⟩

set_option maxHeartbeats 1600000 in
set_option maxRecDepth 1000000 in
theorem cellSteps_walk {w : World} {a : Option Addr} {l : List Oc} (h : OL w a l) (_ : ∀ q ∈ l, q.ok) (hl : l.length ≤ 1048576) (cap : Nat) :
    Calls Try.prog 5 #[.slice a l.length cap] w fun e w' => e = .returned (.bool true) ∧ Below w.heap.size w w' := by
  have m1 := alike_any h hl cap
  clear h
  go_enter Try.func5, Try.ntmps5
  go_wp2_with ((go_at_call 9; refine (m1 _ _).mono ?_; rintro e w1 ⟨rfl, b1⟩))
  go_ret
  exact ⟨rfl, b1⟩

set_option maxHeartbeats 1600000 in
set_option maxRecDepth 1000000 in
theorem cellTakes_walk {w : World} {a : Option Addr} {l : List Oc} (h : OL w a l) (_ : ∀ q ∈ l, q.ok) (hl : l.length ≤ 1048576) (cap : Nat) :
    Calls Try.prog 6 #[.slice a l.length cap] w fun e w' => e = .returned (.bool true) ∧ Below w.heap.size w w' := by
  have m1 := alike_any h hl cap
  clear h
  go_enter Try.func6, Try.ntmps6
  go_wp2_with ((go_at_call 9; refine (m1 _ _).mono ?_; rintro e w1 ⟨rfl, b1⟩))
  go_ret
  exact ⟨rfl, b1⟩

set_option maxHeartbeats 1600000 in
set_option maxRecDepth 1000000 in
theorem cellSees_walk {w : World} {a : Option Addr} {l : List Oc} (h : OL w a l) (_ : ∀ q ∈ l, q.ok) (hl : l.length ≤ 1048576) (cap : Nat) :
    Calls Try.prog 7 #[.slice a l.length cap] w fun e w' => e = .returned (.bool true) ∧ Below w.heap.size w w' := by
  have m1 := alike_any h hl cap
  clear h
  go_enter Try.func7, Try.ntmps7
  go_wp2_with ((go_at_call 9; refine (m1 _ _).mono ?_; rintro e w1 ⟨rfl, b1⟩))
  go_ret
  exact ⟨rfl, b1⟩

set_option maxHeartbeats 1600000 in
set_option maxRecDepth 1000000 in
theorem cellLogs_walk {w : World} {a : Option Addr} {l : List Oc} (h : OL w a l) (_ : ∀ q ∈ l, q.ok) (hl : l.length ≤ 1048576) (cap : Nat) :
    Calls Try.prog 8 #[.slice a l.length cap] w fun e w' => e = .returned (.bool true) ∧ Below w.heap.size w w' := by
  have m1 := alike_any h hl cap
  clear h
  go_enter Try.func8, Try.ntmps8
  go_wp2_with ((go_at_call 9; refine (m1 _ _).mono ?_; rintro e w1 ⟨rfl, b1⟩))
  go_ret
  exact ⟨rfl, b1⟩
end Go.Proofs.Ytkkldbellngalaa
