import Derived.Test.YtdeiochjkbogpaaLocOpen
namespace Go.Proofs.Ytdeiochjkbogpaa
open Go.RowKit Go.Deep Go.ChangeShapes Go.WideShapes Go.ChangeAt
/-- One look of the script. -/
structure Lk where
  cl : Int
  act : Int
  ob : Int
def lk0 : Lk := ⟨0, 0, 0⟩
instance : Inhabited Lk := ⟨lk0⟩
def la (l : List Lk) (i : Nat) : Lk := l.getD i lk0
def Lk.ok (q : Lk) : Prop := I64 q.cl ∧ I64 q.act ∧ I64 q.ob
/-- Looks in memory. -/
def LL (w : World) (a : Option Addr) (l : List Lk) : Prop :=
  l.length = 0 ∨ ∃ b off, a = some ⟨b, off, none⟩ ∧ b < w.heap.size ∧ ∀ i, i < l.length →
    w.cell? ⟨b, off + i * 3, none⟩ = some (.int .i64 (la l i).cl) ∧ w.cell? ⟨b, off + i * 3 + 1, none⟩ = some (.int .i64 (la l i).act) ∧ w.cell? ⟨b, off + i * 3 + 2, none⟩ = some (.int .i64 (la l i).ob)
theorem LL.some {w : World} {a : Option Addr} {l : List Lk} (h : LL w a l) (hl : 0 < l.length) : ∃ b off, a = Option.some ⟨b, off, none⟩ ∧ b < w.heap.size ∧ ∀ i, i < l.length →
    w.cell? ⟨b, off + i * 3, none⟩ = Option.some (.int .i64 (la l i).cl) ∧ w.cell? ⟨b, off + i * 3 + 1, none⟩ = Option.some (.int .i64 (la l i).act) ∧ w.cell? ⟨b, off + i * 3 + 2, none⟩ = Option.some (.int .i64 (la l i).ob) := h.resolve_left (by omega)
/-- Looks that were handed in. -/
theorem open_looks {H : Type} {enc : TypeId × Value → H} {P : Program} {W : World} {spare : Nat → Bool} {held : Bool} {t e : TypeId} {f0 f1 f2 : Field} {fuel : Nat} {a : Option Addr} {len cap : Nat} {x : DataW H × List MemPlace}
    (ht : P.underlying t = some (.slice e)) (hs : P.underlying e = some (.struct #[f0, f1, f2])) (ce : P.cellsOf e = 3) (o0 : f0.offset = 0) (o1 : f1.offset = 1) (o2 : f2.offset = 2)
    (c0 : P.cellsOf f0.type = 1) (c1 : P.cellsOf f1.type = 1) (c2 : P.cellsOf f2.type = 1) (u0 : P.underlying f0.type = some (.int .i64)) (u1 : P.underlying f1.type = some (.int .i64)) (u2 : P.underlying f2.type = some (.int .i64))
    (h : DataW.trod enc P W 0 spare held fuel t [.slice a len cap] = some x) : ∃ l : List Lk, l.length = len ∧ LL W a l ∧ (∀ q ∈ l, q.ok) ∧ (len = 0 ∨ ∃ es ss, x.1 = .slice es ss ∧ len ≤ es.length + ss.length) := by
  by_cases h0 : len = 0
  · subst h0
    exact ⟨[], rfl, .inl rfl, (fun q hq => by cases hq), .inl rfl⟩
  rcases open_slice ht h with ⟨hcs, _⟩ | ⟨a', len', cap', m, n, D, Pl, hcs, hb, hl, hm, hmm, rfl, hx⟩
  · simp at hcs; omega
  simp at hcs
  obtain ⟨rfl, rfl, rfl⟩ := hcs
  have hlm : len ≤ m := by rw [hmm]; split <;> omega
  have each : ∀ i, i < len → ∃ q : Lk, q.ok ∧ W.cell? (a'.add (i * 3)) = some (.int .i64 q.cl) ∧ W.cell? (a'.add (i * 3 + 1)) = some (.int .i64 q.act) ∧ W.cell? (a'.add (i * 3 + 2)) = some (.int .i64 q.ob) := by
    intro i hi
    obtain ⟨cs', h1, h2⟩ := hx i (by omega)
    rw [ce] at h1
    obtain ⟨_, hlen, hcell⟩ := World.cells?_some h1
    obtain ⟨xs, k, hk, hxy, _, hxl, hf⟩ := DataW.trod_struct hs h2
    match xs, hxl, cs', hlen with
    | [y0, y1, y2], _, [v0, v1, v2], _ =>
      have g0 := hf 0 f0 rfl
      have g1 := hf 1 f1 rfl
      have g2 := hf 2 f2 rfl
      simp [o0, o1, o2, c0, c1, c2] at g0 g1 g2
      have e0 := hcell 0 (by omega)
      have e1 := hcell 1 (by omega)
      have e2 := hcell 2 (by omega)
      rw [add_add] at e0 e1 e2
      obtain ⟨q0, r0, _, w0⟩ := DataW.trod_int u0 g0
      obtain ⟨q1, r1, _, w1⟩ := DataW.trod_int u1 g1
      obtain ⟨q2, r2, _, w2⟩ := DataW.trod_int u2 g2
      simp at r0 r1 r2
      subst r0 r1 r2
      exact ⟨⟨q0, q1, q2⟩, ⟨i64_of_wf w0, i64_of_wf w1, i64_of_wf w2⟩, by simpa using e0, by simpa using e1, by simpa using e2⟩
  obtain ⟨b, off, spot⟩ := a'
  obtain ⟨_, _, z0, _⟩ := each 0 (by omega)
  have hspot : spot = none := by simpa [Addr.add] using World.cell?_spot z0
  subst hspot
  rw [add_none] at z0
  obtain ⟨V, hV⟩ := choose_lt each
  have ha : ∀ i, i < len → la ((List.range len).map V) i = V i := fun i hi => by simp [la, List.getD_eq_getElem?_getD, hi]
  refine ⟨(List.range len).map V, by simp, .inr ⟨b, off, rfl, World.block_lt_of_cell? _ _ z0, fun i hi => ?_⟩, fun q hq => ?_, .inr ⟨_, _, rfl, by simp⟩⟩
  · simp at hi
    obtain ⟨_, z0, z1, z2⟩ := hV i hi
    rw [ha i hi]
    exact ⟨by simpa [add_none] using z0, by simpa [add_none, Nat.add_assoc] using z1, by simpa [add_none, Nat.add_assoc] using z2⟩
  · simp at hq
    obtain ⟨i, hi, rfl⟩ := hq
    exact (hV i hi).1
theorem open_len {H : Type} {enc : TypeId × Value → H} {P : Program} {W : World} {spare : Nat → Bool} {held : Bool} {t e : TypeId} {fuel : Nat} {a : Option Addr} {len cap : Nat} {x : DataW H × List MemPlace}
    (ht : P.underlying t = some (.slice e)) (h : DataW.trod enc P W 0 spare held fuel t [.slice a len cap] = some x) : len ≤ 9223372036854775807 := by
  rcases open_slice ht h with ⟨hcs, _⟩ | ⟨a', len', cap', m, n, D, Pl, hcs, hb, hl, hm, hmm, rfl, hx⟩
  · simp at hcs; omega
  · simp at hcs
    obtain ⟨rfl, rfl, rfl⟩ := hcs
    unfold maxLen at hm; omega
end Go.Proofs.Ytdeiochjkbogpaa
