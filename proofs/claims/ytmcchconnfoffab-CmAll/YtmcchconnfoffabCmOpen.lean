import Derived.Test.YtmcchconnfoffabCmSt
import Derived.Test.YtmcchconnfoffabKeepSt
import Derived.Deep.Slices
import Derived.ChangeArms
import Derived.ChangeSlices
import Derived.DataReads
import Derived.OpenShut
namespace Go.Proofs.Ytmcchconnfoffab
open Go.RowKit Go.Deep Go.ChangeShapes Go.WideShapes Go.ChangeAt

theorem add_none (b off n : Nat) : (⟨b, off, none⟩ : Addr).add n = ⟨b, off + n, none⟩ := by
  unfold Addr.add; split <;> simp_all
def cf0 : Cf := ⟨0, 0, 0, 0, false, 0, 0, 0⟩
instance : Inhabited Cf := ⟨cf0⟩
/-- What is asked for: a kind, a patience. -/
structure Mk where
  kind : Int
  pat : Int
def mk0 : Mk := ⟨0, 0⟩
instance : Inhabited Mk := ⟨mk0⟩
def Mk.ok (q : Mk) : Prop := In64 q.kind ∧ In64 q.pat
/-- A question: whom, and what is shown. -/
structure Ak where
  man : Int
  c : Cf
def ak0 : Ak := ⟨0, cf0⟩
instance : Inhabited Ak := ⟨ak0⟩
def Ak.ok (q : Ak) : Prop := In64 q.man ∧ q.c.ok
def CL (w : World) (a : Option Addr) (l : List Cf) : Prop :=
  l.length = 0 ∨ ∃ b off, a = some ⟨b, off, none⟩ ∧ b < w.heap.size ∧ ∀ i, i < l.length → w.cell? ⟨b, off + i * 8, none⟩ = some (.int .i64 (l.getD i cf0).mine) ∧ w.cell? ⟨b, off + i * 8 + 1, none⟩ = some (.int .i64 (l.getD i cf0).theirs) ∧ w.cell? ⟨b, off + i * 8 + 2, none⟩ = some (.int .i64 (l.getD i cf0).born) ∧ w.cell? ⟨b, off + i * 8 + 3, none⟩ = some (.int .i64 (l.getD i cf0).enemy) ∧ w.cell? ⟨b, off + i * 8 + 4, none⟩ = some (.bool (l.getD i cf0).flag) ∧ w.cell? ⟨b, off + i * 8 + 5, none⟩ = some (.int .i64 (l.getD i cf0).tries) ∧ w.cell? ⟨b, off + i * 8 + 6, none⟩ = some (.int .i64 (l.getD i cf0).waited) ∧ w.cell? ⟨b, off + i * 8 + 7, none⟩ = some (.int .i64 (l.getD i cf0).draw)
theorem CL.keep {w w' : World} {a : Option Addr} {l : List Cf} (h : CL w a l) (k : Keeps (fun _ => False) w w') : CL w' a l := by
  rcases h with h | ⟨b, off, rfl, hb, h⟩
  · exact .inl h
  · exact .inr ⟨b, off, rfl, Nat.lt_of_lt_of_le hb k.size, fun i hi => ⟨k.cell (h i hi).1 id, k.cell (h i hi).2.1 id, k.cell (h i hi).2.2.1 id, k.cell (h i hi).2.2.2.1 id, k.cell (h i hi).2.2.2.2.1 id, k.cell (h i hi).2.2.2.2.2.1 id, k.cell (h i hi).2.2.2.2.2.2.1 id, k.cell (h i hi).2.2.2.2.2.2.2 id⟩⟩
theorem CL.some {w : World} {a : Option Addr} {l : List Cf} (h : CL w a l) (hl : 0 < l.length) : ∃ b off, a = Option.some ⟨b, off, none⟩ ∧ b < w.heap.size ∧ ∀ i, i < l.length → w.cell? ⟨b, off + i * 8, none⟩ = Option.some (.int .i64 (l.getD i cf0).mine) ∧ w.cell? ⟨b, off + i * 8 + 1, none⟩ = Option.some (.int .i64 (l.getD i cf0).theirs) ∧ w.cell? ⟨b, off + i * 8 + 2, none⟩ = Option.some (.int .i64 (l.getD i cf0).born) ∧ w.cell? ⟨b, off + i * 8 + 3, none⟩ = Option.some (.int .i64 (l.getD i cf0).enemy) ∧ w.cell? ⟨b, off + i * 8 + 4, none⟩ = Option.some (.bool (l.getD i cf0).flag) ∧ w.cell? ⟨b, off + i * 8 + 5, none⟩ = Option.some (.int .i64 (l.getD i cf0).tries) ∧ w.cell? ⟨b, off + i * 8 + 6, none⟩ = Option.some (.int .i64 (l.getD i cf0).waited) ∧ w.cell? ⟨b, off + i * 8 + 7, none⟩ = Option.some (.int .i64 (l.getD i cf0).draw) := h.resolve_left (by omega)
theorem open_cfs {H : Type} {enc : TypeId × Value → H} {P : Program} {W : World} {spare : Nat → Bool} {held : Bool} {t e : TypeId} {f0 f1 f2 f3 f4 f5 f6 f7  : Field} {fuel : Nat} {a : Option Addr} {len cap : Nat} {x : DataW H × List MemPlace}
    (ht : P.underlying t = some (.slice e)) (hs : P.underlying e = some (.struct #[f0, f1, f2, f3, f4, f5, f6, f7])) (ce : P.cellsOf e = 8) (o0 : f0.offset = 0) (o1 : f1.offset = 1) (o2 : f2.offset = 2) (o3 : f3.offset = 3) (o4 : f4.offset = 4) (o5 : f5.offset = 5) (o6 : f6.offset = 6) (o7 : f7.offset = 7) (c0 : P.cellsOf f0.type = 1) (c1 : P.cellsOf f1.type = 1) (c2 : P.cellsOf f2.type = 1) (c3 : P.cellsOf f3.type = 1) (c4 : P.cellsOf f4.type = 1) (c5 : P.cellsOf f5.type = 1) (c6 : P.cellsOf f6.type = 1) (c7 : P.cellsOf f7.type = 1) (u0 : P.underlying f0.type = some (.int .i64)) (u1 : P.underlying f1.type = some (.int .i64)) (u2 : P.underlying f2.type = some (.int .i64)) (u3 : P.underlying f3.type = some (.int .i64)) (u4 : P.underlying f4.type = some .bool) (u5 : P.underlying f5.type = some (.int .i64)) (u6 : P.underlying f6.type = some (.int .i64)) (u7 : P.underlying f7.type = some (.int .i64))
    (h : DataW.trod enc P W 0 spare held fuel t [.slice a len cap] = some x) : ∃ l : List Cf, l.length = len ∧ CL W a l ∧ (∀ q ∈ l, q.ok) ∧ (len = 0 ∨ ∃ es ss, x.1 = .slice es ss ∧ len ≤ es.length + ss.length) := by
  by_cases h0 : len = 0
  · subst h0
    exact ⟨[], rfl, .inl rfl, (fun q hq => by cases hq), .inl rfl⟩
  rcases open_slice ht h with ⟨hcs, _⟩ | ⟨a', len', cap', m, n, D, Pl, hcs, hb, hl, hm, hmm, rfl, hx⟩
  · simp at hcs; omega
  simp at hcs
  obtain ⟨rfl, rfl, rfl⟩ := hcs
  have hlm : len ≤ m := by rw [hmm]; split <;> omega
  have each : ∀ i, i < len → ∃ q : Cf, q.ok ∧ W.cell? (a'.add (i * 8)) = some (.int .i64 q.mine) ∧ W.cell? (a'.add (i * 8 + 1)) = some (.int .i64 q.theirs) ∧ W.cell? (a'.add (i * 8 + 2)) = some (.int .i64 q.born) ∧ W.cell? (a'.add (i * 8 + 3)) = some (.int .i64 q.enemy) ∧ W.cell? (a'.add (i * 8 + 4)) = some (.bool q.flag) ∧ W.cell? (a'.add (i * 8 + 5)) = some (.int .i64 q.tries) ∧ W.cell? (a'.add (i * 8 + 6)) = some (.int .i64 q.waited) ∧ W.cell? (a'.add (i * 8 + 7)) = some (.int .i64 q.draw) := by
    intro i hi
    obtain ⟨cs', h1, h2⟩ := hx i (by omega)
    rw [ce] at h1
    obtain ⟨_, hlen, hcell⟩ := World.cells?_some h1
    obtain ⟨xs, k, hk, hxy, _, hxl, hf⟩ := DataW.trod_struct hs h2
    match xs, hxl, cs', hlen with
    | [y0, y1, y2, y3, y4, y5, y6, y7], _, [v0, v1, v2, v3, v4, v5, v6, v7], _ =>
      have G0 := hf 0 f0 rfl
      have G1 := hf 1 f1 rfl
      have G2 := hf 2 f2 rfl
      have G3 := hf 3 f3 rfl
      have G4 := hf 4 f4 rfl
      have G5 := hf 5 f5 rfl
      have G6 := hf 6 f6 rfl
      have G7 := hf 7 f7 rfl
      simp [o0, o1, o2, o3, o4, o5, o6, o7, c0, c1, c2, c3, c4, c5, c6, c7] at G0 G1 G2 G3 G4 G5 G6 G7
      have e0 := hcell 0 (by omega)
      have e1 := hcell 1 (by omega)
      have e2 := hcell 2 (by omega)
      have e3 := hcell 3 (by omega)
      have e4 := hcell 4 (by omega)
      have e5 := hcell 5 (by omega)
      have e6 := hcell 6 (by omega)
      have e7 := hcell 7 (by omega)
      rw [add_add] at e0 e1 e2 e3 e4 e5 e6 e7
      obtain ⟨q0, r0, _, w0⟩ := DataW.trod_int u0 G0
      obtain ⟨q1, r1, _, w1⟩ := DataW.trod_int u1 G1
      obtain ⟨q2, r2, _, w2⟩ := DataW.trod_int u2 G2
      obtain ⟨q3, r3, _, w3⟩ := DataW.trod_int u3 G3
      obtain ⟨q4, r4, _⟩ := DataW.trod_bool u4 G4
      obtain ⟨q5, r5, _, w5⟩ := DataW.trod_int u5 G5
      obtain ⟨q6, r6, _, w6⟩ := DataW.trod_int u6 G6
      obtain ⟨q7, r7, _, w7⟩ := DataW.trod_int u7 G7
      simp at r0 r1 r2 r3 r4 r5 r6 r7
      subst r0 r1 r2 r3 r4 r5 r6 r7
      exact ⟨⟨q0, q1, q2, q3, q4, q5, q6, q7⟩, ⟨in64_of_wf w0, in64_of_wf w1, in64_of_wf w2, in64_of_wf w3, in64_of_wf w5, in64_of_wf w6, in64_of_wf w7⟩, by simpa using e0, by simpa using e1, by simpa using e2, by simpa using e3, by simpa using e4, by simpa using e5, by simpa using e6, by simpa using e7⟩
  obtain ⟨b, off, spot⟩ := a'
  obtain ⟨_, _, z0, _⟩ := each 0 (by omega)
  have hspot : spot = none := by simpa [Addr.add] using World.cell?_spot z0
  subst hspot
  rw [add_none] at z0
  obtain ⟨V, hV⟩ := choose_lt each
  have ha : ∀ i, i < len → ((List.range len).map V).getD i cf0 = V i := fun i hi => by simp [List.getD_eq_getElem?_getD, hi]
  refine ⟨(List.range len).map V, by simp, .inr ⟨b, off, rfl, World.block_lt_of_cell? _ _ z0, fun i hi => ?_⟩, fun q hq => ?_, .inr ⟨_, _, rfl, by simp⟩⟩
  · simp at hi
    obtain ⟨_, z0, z1, z2, z3, z4, z5, z6, z7⟩ := hV i hi
    rw [ha i hi]
    exact ⟨by simpa [add_none] using z0, by simpa [add_none, Nat.add_assoc] using z1, by simpa [add_none, Nat.add_assoc] using z2, by simpa [add_none, Nat.add_assoc] using z3, by simpa [add_none, Nat.add_assoc] using z4, by simpa [add_none, Nat.add_assoc] using z5, by simpa [add_none, Nat.add_assoc] using z6, by simpa [add_none, Nat.add_assoc] using z7⟩
  · simp at hq
    obtain ⟨i, hi, rfl⟩ := hq
    exact (hV i hi).1
def ML (w : World) (a : Option Addr) (l : List Mk) : Prop :=
  l.length = 0 ∨ ∃ b off, a = some ⟨b, off, none⟩ ∧ b < w.heap.size ∧ ∀ i, i < l.length → w.cell? ⟨b, off + i * 2, none⟩ = some (.int .i64 (l.getD i mk0).kind) ∧ w.cell? ⟨b, off + i * 2 + 1, none⟩ = some (.int .i64 (l.getD i mk0).pat)
theorem ML.keep {w w' : World} {a : Option Addr} {l : List Mk} (h : ML w a l) (k : Keeps (fun _ => False) w w') : ML w' a l := by
  rcases h with h | ⟨b, off, rfl, hb, h⟩
  · exact .inl h
  · exact .inr ⟨b, off, rfl, Nat.lt_of_lt_of_le hb k.size, fun i hi => ⟨k.cell (h i hi).1 id, k.cell (h i hi).2 id⟩⟩
theorem ML.some {w : World} {a : Option Addr} {l : List Mk} (h : ML w a l) (hl : 0 < l.length) : ∃ b off, a = Option.some ⟨b, off, none⟩ ∧ b < w.heap.size ∧ ∀ i, i < l.length → w.cell? ⟨b, off + i * 2, none⟩ = Option.some (.int .i64 (l.getD i mk0).kind) ∧ w.cell? ⟨b, off + i * 2 + 1, none⟩ = Option.some (.int .i64 (l.getD i mk0).pat) := h.resolve_left (by omega)
theorem open_mks {H : Type} {enc : TypeId × Value → H} {P : Program} {W : World} {spare : Nat → Bool} {held : Bool} {t e : TypeId} {f0 f1  : Field} {fuel : Nat} {a : Option Addr} {len cap : Nat} {x : DataW H × List MemPlace}
    (ht : P.underlying t = some (.slice e)) (hs : P.underlying e = some (.struct #[f0, f1])) (ce : P.cellsOf e = 2) (o0 : f0.offset = 0) (o1 : f1.offset = 1) (c0 : P.cellsOf f0.type = 1) (c1 : P.cellsOf f1.type = 1) (u0 : P.underlying f0.type = some (.int .i64)) (u1 : P.underlying f1.type = some (.int .i64))
    (h : DataW.trod enc P W 0 spare held fuel t [.slice a len cap] = some x) : ∃ l : List Mk, l.length = len ∧ ML W a l ∧ (∀ q ∈ l, q.ok) ∧ (len = 0 ∨ ∃ es ss, x.1 = .slice es ss ∧ len ≤ es.length + ss.length) := by
  by_cases h0 : len = 0
  · subst h0
    exact ⟨[], rfl, .inl rfl, (fun q hq => by cases hq), .inl rfl⟩
  rcases open_slice ht h with ⟨hcs, _⟩ | ⟨a', len', cap', m, n, D, Pl, hcs, hb, hl, hm, hmm, rfl, hx⟩
  · simp at hcs; omega
  simp at hcs
  obtain ⟨rfl, rfl, rfl⟩ := hcs
  have hlm : len ≤ m := by rw [hmm]; split <;> omega
  have each : ∀ i, i < len → ∃ q : Mk, q.ok ∧ W.cell? (a'.add (i * 2)) = some (.int .i64 q.kind) ∧ W.cell? (a'.add (i * 2 + 1)) = some (.int .i64 q.pat) := by
    intro i hi
    obtain ⟨cs', h1, h2⟩ := hx i (by omega)
    rw [ce] at h1
    obtain ⟨_, hlen, hcell⟩ := World.cells?_some h1
    obtain ⟨xs, k, hk, hxy, _, hxl, hf⟩ := DataW.trod_struct hs h2
    match xs, hxl, cs', hlen with
    | [y0, y1], _, [v0, v1], _ =>
      have G0 := hf 0 f0 rfl
      have G1 := hf 1 f1 rfl
      simp [o0, o1, c0, c1] at G0 G1
      have e0 := hcell 0 (by omega)
      have e1 := hcell 1 (by omega)
      rw [add_add] at e0 e1
      obtain ⟨q0, r0, _, w0⟩ := DataW.trod_int u0 G0
      obtain ⟨q1, r1, _, w1⟩ := DataW.trod_int u1 G1
      simp at r0 r1
      subst r0 r1
      exact ⟨⟨q0, q1⟩, ⟨in64_of_wf w0, in64_of_wf w1⟩, by simpa using e0, by simpa using e1⟩
  obtain ⟨b, off, spot⟩ := a'
  obtain ⟨_, _, z0, _⟩ := each 0 (by omega)
  have hspot : spot = none := by simpa [Addr.add] using World.cell?_spot z0
  subst hspot
  rw [add_none] at z0
  obtain ⟨V, hV⟩ := choose_lt each
  have ha : ∀ i, i < len → ((List.range len).map V).getD i mk0 = V i := fun i hi => by simp [List.getD_eq_getElem?_getD, hi]
  refine ⟨(List.range len).map V, by simp, .inr ⟨b, off, rfl, World.block_lt_of_cell? _ _ z0, fun i hi => ?_⟩, fun q hq => ?_, .inr ⟨_, _, rfl, by simp⟩⟩
  · simp at hi
    obtain ⟨_, z0, z1⟩ := hV i hi
    rw [ha i hi]
    exact ⟨by simpa [add_none] using z0, by simpa [add_none, Nat.add_assoc] using z1⟩
  · simp at hq
    obtain ⟨i, hi, rfl⟩ := hq
    exact (hV i hi).1
def QL (w : World) (a : Option Addr) (l : List Ak) : Prop :=
  l.length = 0 ∨ ∃ b off, a = some ⟨b, off, none⟩ ∧ b < w.heap.size ∧ ∀ i, i < l.length → w.cell? ⟨b, off + i * 9, none⟩ = some (.int .i64 (l.getD i ak0).man) ∧ w.cell? ⟨b, off + i * 9 + 1, none⟩ = some (.int .i64 (l.getD i ak0).c.mine) ∧ w.cell? ⟨b, off + i * 9 + 2, none⟩ = some (.int .i64 (l.getD i ak0).c.theirs) ∧ w.cell? ⟨b, off + i * 9 + 3, none⟩ = some (.int .i64 (l.getD i ak0).c.born) ∧ w.cell? ⟨b, off + i * 9 + 4, none⟩ = some (.int .i64 (l.getD i ak0).c.enemy) ∧ w.cell? ⟨b, off + i * 9 + 5, none⟩ = some (.bool (l.getD i ak0).c.flag) ∧ w.cell? ⟨b, off + i * 9 + 6, none⟩ = some (.int .i64 (l.getD i ak0).c.tries) ∧ w.cell? ⟨b, off + i * 9 + 7, none⟩ = some (.int .i64 (l.getD i ak0).c.waited) ∧ w.cell? ⟨b, off + i * 9 + 8, none⟩ = some (.int .i64 (l.getD i ak0).c.draw)
theorem QL.keep {w w' : World} {a : Option Addr} {l : List Ak} (h : QL w a l) (k : Keeps (fun _ => False) w w') : QL w' a l := by
  rcases h with h | ⟨b, off, rfl, hb, h⟩
  · exact .inl h
  · exact .inr ⟨b, off, rfl, Nat.lt_of_lt_of_le hb k.size, fun i hi => ⟨k.cell (h i hi).1 id, k.cell (h i hi).2.1 id, k.cell (h i hi).2.2.1 id, k.cell (h i hi).2.2.2.1 id, k.cell (h i hi).2.2.2.2.1 id, k.cell (h i hi).2.2.2.2.2.1 id, k.cell (h i hi).2.2.2.2.2.2.1 id, k.cell (h i hi).2.2.2.2.2.2.2.1 id, k.cell (h i hi).2.2.2.2.2.2.2.2 id⟩⟩
theorem QL.some {w : World} {a : Option Addr} {l : List Ak} (h : QL w a l) (hl : 0 < l.length) : ∃ b off, a = Option.some ⟨b, off, none⟩ ∧ b < w.heap.size ∧ ∀ i, i < l.length → w.cell? ⟨b, off + i * 9, none⟩ = Option.some (.int .i64 (l.getD i ak0).man) ∧ w.cell? ⟨b, off + i * 9 + 1, none⟩ = Option.some (.int .i64 (l.getD i ak0).c.mine) ∧ w.cell? ⟨b, off + i * 9 + 2, none⟩ = Option.some (.int .i64 (l.getD i ak0).c.theirs) ∧ w.cell? ⟨b, off + i * 9 + 3, none⟩ = Option.some (.int .i64 (l.getD i ak0).c.born) ∧ w.cell? ⟨b, off + i * 9 + 4, none⟩ = Option.some (.int .i64 (l.getD i ak0).c.enemy) ∧ w.cell? ⟨b, off + i * 9 + 5, none⟩ = Option.some (.bool (l.getD i ak0).c.flag) ∧ w.cell? ⟨b, off + i * 9 + 6, none⟩ = Option.some (.int .i64 (l.getD i ak0).c.tries) ∧ w.cell? ⟨b, off + i * 9 + 7, none⟩ = Option.some (.int .i64 (l.getD i ak0).c.waited) ∧ w.cell? ⟨b, off + i * 9 + 8, none⟩ = Option.some (.int .i64 (l.getD i ak0).c.draw) := h.resolve_left (by omega)
theorem open_aks {H : Type} {enc : TypeId × Value → H} {P : Program} {W : World} {spare : Nat → Bool} {held : Bool} {t e : TypeId} {f0 f1 g0 g1 g2 g3 g4 g5 g6 g7 : Field} {fuel : Nat} {a : Option Addr} {len cap : Nat} {x : DataW H × List MemPlace}
    (ht : P.underlying t = some (.slice e)) (hs : P.underlying e = some (.struct #[f0, f1])) (ce : P.cellsOf e = 9) (hv : P.underlying f1.type = some (.struct #[g0, g1, g2, g3, g4, g5, g6, g7])) (o0 : f0.offset = 0) (o1 : f1.offset = 1) (p0 : g0.offset = 0) (p1 : g1.offset = 1) (p2 : g2.offset = 2) (p3 : g3.offset = 3) (p4 : g4.offset = 4) (p5 : g5.offset = 5) (p6 : g6.offset = 6) (p7 : g7.offset = 7) (c0 : P.cellsOf f0.type = 1) (c1 : P.cellsOf f1.type = 8) (d0 : P.cellsOf g0.type = 1) (d1 : P.cellsOf g1.type = 1) (d2 : P.cellsOf g2.type = 1) (d3 : P.cellsOf g3.type = 1) (d4 : P.cellsOf g4.type = 1) (d5 : P.cellsOf g5.type = 1) (d6 : P.cellsOf g6.type = 1) (d7 : P.cellsOf g7.type = 1) (u0 : P.underlying f0.type = some (.int .i64)) (s0 : P.underlying g0.type = some (.int .i64)) (s1 : P.underlying g1.type = some (.int .i64)) (s2 : P.underlying g2.type = some (.int .i64)) (s3 : P.underlying g3.type = some (.int .i64)) (s4 : P.underlying g4.type = some .bool) (s5 : P.underlying g5.type = some (.int .i64)) (s6 : P.underlying g6.type = some (.int .i64)) (s7 : P.underlying g7.type = some (.int .i64))
    (h : DataW.trod enc P W 0 spare held fuel t [.slice a len cap] = some x) : ∃ l : List Ak, l.length = len ∧ QL W a l ∧ (∀ q ∈ l, q.ok) ∧ (len = 0 ∨ ∃ es ss, x.1 = .slice es ss ∧ len ≤ es.length + ss.length) := by
  by_cases h0 : len = 0
  · subst h0
    exact ⟨[], rfl, .inl rfl, (fun q hq => by cases hq), .inl rfl⟩
  rcases open_slice ht h with ⟨hcs, _⟩ | ⟨a', len', cap', m, n, D, Pl, hcs, hb, hl, hm, hmm, rfl, hx⟩
  · simp at hcs; omega
  simp at hcs
  obtain ⟨rfl, rfl, rfl⟩ := hcs
  have hlm : len ≤ m := by rw [hmm]; split <;> omega
  have each : ∀ i, i < len → ∃ q : Ak, q.ok ∧ W.cell? (a'.add (i * 9)) = some (.int .i64 q.man) ∧ W.cell? (a'.add (i * 9 + 1)) = some (.int .i64 q.c.mine) ∧ W.cell? (a'.add (i * 9 + 2)) = some (.int .i64 q.c.theirs) ∧ W.cell? (a'.add (i * 9 + 3)) = some (.int .i64 q.c.born) ∧ W.cell? (a'.add (i * 9 + 4)) = some (.int .i64 q.c.enemy) ∧ W.cell? (a'.add (i * 9 + 5)) = some (.bool q.c.flag) ∧ W.cell? (a'.add (i * 9 + 6)) = some (.int .i64 q.c.tries) ∧ W.cell? (a'.add (i * 9 + 7)) = some (.int .i64 q.c.waited) ∧ W.cell? (a'.add (i * 9 + 8)) = some (.int .i64 q.c.draw) := by
    intro i hi
    obtain ⟨cs', h1, h2⟩ := hx i (by omega)
    rw [ce] at h1
    obtain ⟨_, hlen, hcell⟩ := World.cells?_some h1
    obtain ⟨xs, k, hk, hxy, _, hxl, hf⟩ := DataW.trod_struct hs h2
    match xs, hxl, cs', hlen with
    | [y0, y1], _, [v0, v1, v2, v3, v4, v5, v6, v7, v8], _ =>
      have G0 := hf 0 f0 rfl
      have G1 := hf 1 f1 rfl
      simp [o0, o1, c0, c1] at G0 G1
      obtain ⟨xs2, k2, _, _, _, hxl2, hf2⟩ := DataW.trod_struct hv G1
      match xs2, hxl2 with
      | [t0, t1, t2, t3, t4, t5, t6, t7], _ =>
        have J0 := hf2 0 g0 rfl
        have J1 := hf2 1 g1 rfl
        have J2 := hf2 2 g2 rfl
        have J3 := hf2 3 g3 rfl
        have J4 := hf2 4 g4 rfl
        have J5 := hf2 5 g5 rfl
        have J6 := hf2 6 g6 rfl
        have J7 := hf2 7 g7 rfl
        simp [p0, p1, p2, p3, p4, p5, p6, p7, d0, d1, d2, d3, d4, d5, d6, d7] at J0 J1 J2 J3 J4 J5 J6 J7
        have e0 := hcell 0 (by omega)
        have e1 := hcell 1 (by omega)
        have e2 := hcell 2 (by omega)
        have e3 := hcell 3 (by omega)
        have e4 := hcell 4 (by omega)
        have e5 := hcell 5 (by omega)
        have e6 := hcell 6 (by omega)
        have e7 := hcell 7 (by omega)
        have e8 := hcell 8 (by omega)
        rw [add_add] at e0 e1 e2 e3 e4 e5 e6 e7 e8
        obtain ⟨q0, r0, _, w0⟩ := DataW.trod_int u0 G0
        obtain ⟨q1, r1, _, w1⟩ := DataW.trod_int s0 J0
        obtain ⟨q2, r2, _, w2⟩ := DataW.trod_int s1 J1
        obtain ⟨q3, r3, _, w3⟩ := DataW.trod_int s2 J2
        obtain ⟨q4, r4, _, w4⟩ := DataW.trod_int s3 J3
        obtain ⟨q5, r5, _⟩ := DataW.trod_bool s4 J4
        obtain ⟨q6, r6, _, w6⟩ := DataW.trod_int s5 J5
        obtain ⟨q7, r7, _, w7⟩ := DataW.trod_int s6 J6
        obtain ⟨q8, r8, _, w8⟩ := DataW.trod_int s7 J7
        simp at r0 r1 r2 r3 r4 r5 r6 r7 r8
        subst r0 r1 r2 r3 r4 r5 r6 r7 r8
        exact ⟨⟨q0, ⟨q1, q2, q3, q4, q5, q6, q7, q8⟩⟩, ⟨in64_of_wf w0, ⟨in64_of_wf w1, in64_of_wf w2, in64_of_wf w3, in64_of_wf w4, in64_of_wf w6, in64_of_wf w7, in64_of_wf w8⟩⟩, by simpa using e0, by simpa using e1, by simpa using e2, by simpa using e3, by simpa using e4, by simpa using e5, by simpa using e6, by simpa using e7, by simpa using e8⟩
  obtain ⟨b, off, spot⟩ := a'
  obtain ⟨_, _, z0, _⟩ := each 0 (by omega)
  have hspot : spot = none := by simpa [Addr.add] using World.cell?_spot z0
  subst hspot
  rw [add_none] at z0
  obtain ⟨V, hV⟩ := choose_lt each
  have ha : ∀ i, i < len → ((List.range len).map V).getD i ak0 = V i := fun i hi => by simp [List.getD_eq_getElem?_getD, hi]
  refine ⟨(List.range len).map V, by simp, .inr ⟨b, off, rfl, World.block_lt_of_cell? _ _ z0, fun i hi => ?_⟩, fun q hq => ?_, .inr ⟨_, _, rfl, by simp⟩⟩
  · simp at hi
    obtain ⟨_, z0, z1, z2, z3, z4, z5, z6, z7, z8⟩ := hV i hi
    rw [ha i hi]
    exact ⟨by simpa [add_none] using z0, by simpa [add_none, Nat.add_assoc] using z1, by simpa [add_none, Nat.add_assoc] using z2, by simpa [add_none, Nat.add_assoc] using z3, by simpa [add_none, Nat.add_assoc] using z4, by simpa [add_none, Nat.add_assoc] using z5, by simpa [add_none, Nat.add_assoc] using z6, by simpa [add_none, Nat.add_assoc] using z7, by simpa [add_none, Nat.add_assoc] using z8⟩
  · simp at hq
    obtain ⟨i, hi, rfl⟩ := hq
    exact (hV i hi).1
theorem open_cf {H : Type} {enc : TypeId × Value → H} {P : Program} {W : World} {base : Nat} {spare : Nat → Bool} {held : Bool} {r : Reach} {b0 : Nat} {e : TypeId} {f0 f1 f2 f3 f4 f5 f6 f7 : Field} {v : Value} {d : DataW H} {ps : List MemPlace}
    (hs : P.underlying e = some (.struct #[f0, f1, f2, f3, f4, f5, f6, f7])) (ce : P.cellsOf e = 8) (o0 : f0.offset = 0) (o1 : f1.offset = 1) (o2 : f2.offset = 2) (o3 : f3.offset = 3) (o4 : f4.offset = 4) (o5 : f5.offset = 5) (o6 : f6.offset = 6) (o7 : f7.offset = 7) (c0 : P.cellsOf f0.type = 1) (c1 : P.cellsOf f1.type = 1) (c2 : P.cellsOf f2.type = 1) (c3 : P.cellsOf f3.type = 1) (c4 : P.cellsOf f4.type = 1) (c5 : P.cellsOf f5.type = 1) (c6 : P.cellsOf f6.type = 1) (c7 : P.cellsOf f7.type = 1) (u0 : P.underlying f0.type = some (.int .i64)) (u1 : P.underlying f1.type = some (.int .i64)) (u2 : P.underlying f2.type = some (.int .i64)) (u3 : P.underlying f3.type = some (.int .i64)) (u4 : P.underlying f4.type = some .bool) (u5 : P.underlying f5.type = some (.int .i64)) (u6 : P.underlying f6.type = some (.int .i64)) (u7 : P.underlying f7.type = some (.int .i64))
    (hval : Value.okWide P W r b0 e v) (hd : DataW.Trod enc P W base spare held e v d ps) : ∃ q : Cf, v = cfv q ∧ q.ok := by
  obtain ⟨cs, rfl, hsz⟩ := okWide_struct hs hval
  rw [ce] at hsz
  obtain ⟨fuel, h2⟩ := hd
  obtain ⟨xs, k, hk, hxy, _, hxl, hf⟩ := DataW.trod_struct hs h2
  obtain ⟨cl⟩ := cs
  simp only [List.size_toArray] at hsz
  match xs, hxl, cl, hsz with
  | [y0, y1, y2, y3, y4, y5, y6, y7], _, [v0, v1, v2, v3, v4, v5, v6, v7], _ =>
    have G0 := hf 0 f0 rfl
    have G1 := hf 1 f1 rfl
    have G2 := hf 2 f2 rfl
    have G3 := hf 3 f3 rfl
    have G4 := hf 4 f4 rfl
    have G5 := hf 5 f5 rfl
    have G6 := hf 6 f6 rfl
    have G7 := hf 7 f7 rfl
    simp [Value.cells, o0, o1, o2, o3, o4, o5, o6, o7, c0, c1, c2, c3, c4, c5, c6, c7] at G0 G1 G2 G3 G4 G5 G6 G7
    obtain ⟨q0, r0, _, w0⟩ := DataW.trod_int u0 G0
    obtain ⟨q1, r1, _, w1⟩ := DataW.trod_int u1 G1
    obtain ⟨q2, r2, _, w2⟩ := DataW.trod_int u2 G2
    obtain ⟨q3, r3, _, w3⟩ := DataW.trod_int u3 G3
    obtain ⟨q4, r4, _⟩ := DataW.trod_bool u4 G4
    obtain ⟨q5, r5, _, w5⟩ := DataW.trod_int u5 G5
    obtain ⟨q6, r6, _, w6⟩ := DataW.trod_int u6 G6
    obtain ⟨q7, r7, _, w7⟩ := DataW.trod_int u7 G7
    simp at r0 r1 r2 r3 r4 r5 r6 r7
    subst r0 r1 r2 r3 r4 r5 r6 r7
    exact ⟨⟨q0, q1, q2, q3, q4, q5, q6, q7⟩, rfl, ⟨in64_of_wf w0, in64_of_wf w1, in64_of_wf w2, in64_of_wf w3, in64_of_wf w5, in64_of_wf w6, in64_of_wf w7⟩⟩
/-! ### the bound of the second form -/
theorem bulk_one {H : Type} (d : DataW H) : 1 ≤ Rows.uptoBulk d := by
  cases d with
  | lit l => cases l <;> simp [Rows.uptoBulk]
  | nil => simp [Rows.uptoBulk]
  | ptr d => simp [Rows.uptoBulk]
  | slice elems spare => simp [Rows.uptoBulk]
  | agg parts => simp [Rows.uptoBulk]
  | iface t d => simp [Rows.uptoBulk]
  | map entries => simp [Rows.uptoBulk]
  | held h => simp [Rows.uptoBulk]
theorem bulk_part {H : Type} {d : DataW H} {l : List (DataW H)} (h : d ∈ l) : Rows.uptoBulk d ≤ Rows.uptoBulkAll l := by
  induction l with
  | nil => cases h
  | cons x r ih =>
    simp only [Rows.uptoBulkAll]
    cases List.mem_cons.1 h with
    | inl e => subst e; omega
    | inr e => have := ih e; omega
theorem bulk_length {H : Type} (l : List (DataW H)) : l.length ≤ Rows.uptoBulkAll l := by
  induction l with
  | nil => simp [Rows.uptoBulkAll]
  | cons x r ih => have := bulk_one x; simp only [Rows.uptoBulkAll, List.length_cons]; omega
theorem bulk_slice {H : Type} (elems spare : List (DataW H)) : elems.length + spare.length + 1 ≤ Rows.uptoBulk (.slice elems spare) := by
  have h1 := bulk_length elems
  have h2 := bulk_length spare
  simp only [Rows.uptoBulk]
  omega
/-- How long a list may be. -/
theorem bulk_bound {H : Type} {l : List (DataW H)} (hk : Rows.uptoSmall H l = true) {d : DataW H} (hd : d ∈ l) {len : Nat} (h : len = 0 ∨ ∃ es ss, d = .slice es ss ∧ len ≤ es.length + ss.length) : len ≤ 1048576 := by
  have hb : Rows.uptoBulkAll l ≤ 1048576 := of_decide_eq_true hk
  rcases h with h | ⟨es, ss, rfl, hle⟩
  · omega
  · have h1 := bulk_part hd
    have h2 := bulk_slice es ss
    omega
/-- How long a list that was handed in may be. -/
theorem open_len {H : Type} {enc : TypeId × Value → H} {P : Program} {W : World} {spare : Nat → Bool} {held : Bool} {t e : TypeId} {fuel : Nat} {a : Option Addr} {len cap : Nat} {x : DataW H × List MemPlace}
    (ht : P.underlying t = some (.slice e)) (h : DataW.trod enc P W 0 spare held fuel t [.slice a len cap] = some x) : len ≤ 9223372036854775807 := by
  rcases open_slice ht h with ⟨hcs, _⟩ | ⟨a', len', cap', m, n, D, Pl, hcs, hb, hl, hm, hmm, rfl, hx⟩
  · simp at hcs; omega
  · simp at hcs
    obtain ⟨rfl, rfl, rfl⟩ := hcs
    unfold maxLen at hm; omega
end Go.Proofs.Ytmcchconnfoffab
