import Derived.Test.YtaikngpgmcpecaaGreatLocQ
import Derived.Deep.Slices
import Derived.ChangeArms
import Derived.ChangeSlices
import Derived.DataReads
import Derived.OpenShut
namespace Go.Proofs.YtaikngpgmcpecaaGreat
open Go.RowKit Go.Deep Go.ChangeShapes Go.WideShapes Go.ChangeAt

theorem add_none (b off n : Nat) : (⟨b, off, none⟩ : Addr).add n = ⟨b, off + n, none⟩ := by
  unfold Addr.add; split <;> simp_all

def oq0 : Oq := ⟨0, 0, 0, 0, ⟨0, 0, false⟩, false⟩
instance : Inhabited Oq := ⟨oq0⟩
def oa (l : List Oq) (i : Nat) : Oq := l.getD i oq0
def Oq.ok (q : Oq) : Prop := I64 q.kind ∧ I64 q.a ∧ I64 q.b ∧ I64 q.c ∧ I64 q.v.num ∧ I64 q.v.next
/-- A step's cells. -/
structure OpAt (w : World) (b o : Nat) (q : Oq) : Prop where
  r0 : w.cell? ⟨b, o, none⟩ = some (.int .i64 q.kind)
  r1 : w.cell? ⟨b, o + 1, none⟩ = some (.int .i64 q.a)
  r2 : w.cell? ⟨b, o + 2, none⟩ = some (.int .i64 q.b)
  r3 : w.cell? ⟨b, o + 3, none⟩ = some (.int .i64 q.c)
  r4 : w.cell? ⟨b, o + 4, none⟩ = some (.int .i64 q.v.num)
  r5 : w.cell? ⟨b, o + 5, none⟩ = some (.int .i64 q.v.next)
  r6 : w.cell? ⟨b, o + 6, none⟩ = some (.bool q.v.dead)
  r7 : w.cell? ⟨b, o + 7, none⟩ = some (.bool q.shut)
/-- A script in memory. -/
def OL (w : World) (a : Option Addr) (l : List Oq) : Prop := l.length = 0 ∨ ∃ b off, a = some ⟨b, off, none⟩ ∧ b < w.heap.size ∧ ∀ i, i < l.length → OpAt w b (off + i * 8) (oa l i)
theorem OpAt.keep {S : Nat → Prop} {w w' : World} {b o : Nat} {q : Oq} (h : OpAt w b o q) (k : Keeps S w w') (hb : ¬ S b) : OpAt w' b o q :=
  ⟨k.cell h.r0 hb, k.cell h.r1 hb, k.cell h.r2 hb, k.cell h.r3 hb, k.cell h.r4 hb, k.cell h.r5 hb, k.cell h.r6 hb, k.cell h.r7 hb⟩
theorem OL.some {w : World} {a : Option Addr} {l : List Oq} (h : OL w a l) (hl : 0 < l.length) : ∃ b off, a = Option.some ⟨b, off, none⟩ ∧ b < w.heap.size ∧ ∀ i, i < l.length → OpAt w b (off + i * 8) (oa l i) := h.resolve_left (by omega)
theorem OL.new {w w' : World} {a : Option Addr} {l : List Oq} (h : OL w a l) (k : Keeps (fun _ => False) w w') : OL w' a l := by
  rcases h with h | ⟨b, off, rfl, hb, h⟩
  · exact .inl h
  · exact .inr ⟨b, off, rfl, Nat.lt_of_lt_of_le hb k.size, fun i hi => (h i hi).keep k (fun e => e)⟩
/-- A script that was handed in. -/
theorem open_ops5 {H : Type} {enc : TypeId × Value → H} {P : Program} {W : World} {spare : Nat → Bool} {held : Bool} {t e : TypeId} {f0 f1 f2 f3 f4 f5 g0 g1 g2 : Field} {fuel : Nat} {a : Option Addr} {len cap : Nat} {x : DataW H × List MemPlace}
    (ht : P.underlying t = some (.slice e)) (hs : P.underlying e = some (.struct #[f0, f1, f2, f3, f4, f5])) (ce : P.cellsOf e = 8) (hv : P.underlying f4.type = some (.struct #[g0, g1, g2]))
    (o0 : f0.offset = 0) (o1 : f1.offset = 1) (o2 : f2.offset = 2) (o3 : f3.offset = 3) (o4 : f4.offset = 4) (o5 : f5.offset = 7) (p0 : g0.offset = 0) (p1 : g1.offset = 1) (p2 : g2.offset = 2)
    (c0 : P.cellsOf f0.type = 1) (c1 : P.cellsOf f1.type = 1) (c2 : P.cellsOf f2.type = 1) (c3 : P.cellsOf f3.type = 1) (c4 : P.cellsOf f4.type = 3) (c5 : P.cellsOf f5.type = 1) (d0 : P.cellsOf g0.type = 1) (d1 : P.cellsOf g1.type = 1) (d2 : P.cellsOf g2.type = 1)
    (u0 : P.underlying f0.type = some (.int .i64)) (u1 : P.underlying f1.type = some (.int .i64)) (u2 : P.underlying f2.type = some (.int .i64)) (u3 : P.underlying f3.type = some (.int .i64)) (u5 : P.underlying f5.type = some .bool) (y0 : P.underlying g0.type = some (.int .i64)) (y1 : P.underlying g1.type = some (.int .i64)) (y2 : P.underlying g2.type = some .bool)
    (h : DataW.trod enc P W 0 spare held fuel t [.slice a len cap] = some x) : ∃ l : List Oq, l.length = len ∧ OL W a l ∧ (∀ q ∈ l, q.ok) ∧ (len = 0 ∨ ∃ es ss, x.1 = .slice es ss ∧ len ≤ es.length + ss.length) := by
  by_cases h0 : len = 0
  · subst h0
    exact ⟨[], rfl, .inl rfl, (fun q hq => by cases hq), .inl rfl⟩
  rcases open_slice ht h with ⟨hcs, _⟩ | ⟨a', len', cap', m, n, D, Pl, hcs, hb, hl, hm, hmm, rfl, hx⟩
  · simp at hcs; omega
  simp at hcs
  obtain ⟨rfl, rfl, rfl⟩ := hcs
  have hlm : len ≤ m := by rw [hmm]; split <;> omega
  have each : ∀ i, i < len → ∃ q : Oq, q.ok ∧ W.cell? (a'.add (i * 8)) = some (.int .i64 q.kind) ∧ W.cell? (a'.add (i * 8 + 1)) = some (.int .i64 q.a) ∧ W.cell? (a'.add (i * 8 + 2)) = some (.int .i64 q.b) ∧ W.cell? (a'.add (i * 8 + 3)) = some (.int .i64 q.c) ∧ W.cell? (a'.add (i * 8 + 4)) = some (.int .i64 q.v.num) ∧ W.cell? (a'.add (i * 8 + 5)) = some (.int .i64 q.v.next) ∧ W.cell? (a'.add (i * 8 + 6)) = some (.bool q.v.dead) ∧ W.cell? (a'.add (i * 8 + 7)) = some (.bool q.shut) := by
    intro i hi
    obtain ⟨cs', h1, h2⟩ := hx i (by omega)
    rw [ce] at h1
    obtain ⟨_, hlen, hcell⟩ := World.cells?_some h1
    obtain ⟨xs, k, hk, hxy, _, hxl, hf⟩ := DataW.trod_struct hs h2
    match xs, hxl, cs', hlen with
    | [z0, z1, z2, z3, z4, z5], _, [v0, v1, v2, v3, v4, v5, v6, v7], _ =>
      have g0' := hf 0 f0 rfl
      have g1' := hf 1 f1 rfl
      have g2' := hf 2 f2 rfl
      have g3' := hf 3 f3 rfl
      have g4' := hf 4 f4 rfl
      have g5' := hf 5 f5 rfl
      simp [o0, o1, o2, o3, o4, o5, c0, c1, c2, c3, c4, c5] at g0' g1' g2' g3' g4' g5'
      obtain ⟨xs2, k2, _, _, _, hxl2, hf2⟩ := DataW.trod_struct hv g4'
      match xs2, hxl2 with
      | [t0, t1, t2], _ =>
        have j0 := hf2 0 g0 rfl
        have j1 := hf2 1 g1 rfl
        have j2 := hf2 2 g2 rfl
        simp [p0, p1, p2, d0, d1, d2] at j0 j1 j2
        have e0 := hcell 0 (by omega)
        have e1 := hcell 1 (by omega)
        have e2 := hcell 2 (by omega)
        have e3 := hcell 3 (by omega)
        have e4 := hcell 4 (by omega)
        have e5 := hcell 5 (by omega)
        have e6 := hcell 6 (by omega)
        have e7 := hcell 7 (by omega)
        rw [add_add] at e0 e1 e2 e3 e4 e5 e6 e7
        obtain ⟨q0, r0, _, w0⟩ := DataW.trod_int u0 g0'
        obtain ⟨q1, r1, _, w1⟩ := DataW.trod_int u1 g1'
        obtain ⟨q2, r2, _, w2⟩ := DataW.trod_int u2 g2'
        obtain ⟨q3, r3, _, w3⟩ := DataW.trod_int u3 g3'
        obtain ⟨q4, r4, _, w4⟩ := DataW.trod_int y0 j0
        obtain ⟨q5, r5, _, w5⟩ := DataW.trod_int y1 j1
        obtain ⟨q6, r6, _⟩ := DataW.trod_bool y2 j2
        obtain ⟨q7, r7, _⟩ := DataW.trod_bool u5 g5'
        simp at r0 r1 r2 r3 r4 r5 r6 r7
        subst r0 r1 r2 r3 r4 r5 r6 r7
        exact ⟨⟨q0, q1, q2, q3, ⟨q4, q5, q6⟩, q7⟩, ⟨i64_of_wf w0, i64_of_wf w1, i64_of_wf w2, i64_of_wf w3, i64_of_wf w4, i64_of_wf w5⟩, by simpa using e0, by simpa using e1, by simpa using e2, by simpa using e3, by simpa using e4, by simpa using e5, by simpa using e6, by simpa using e7⟩
  obtain ⟨b, off, spot⟩ := a'
  obtain ⟨_, _, z0, _⟩ := each 0 (by omega)
  have hspot : spot = none := by simpa [Addr.add] using World.cell?_spot z0
  subst hspot
  rw [add_none] at z0
  obtain ⟨V, hV⟩ := choose_lt each
  have ha : ∀ i, i < len → oa ((List.range len).map V) i = V i := fun i hi => by simp [oa, List.getD_eq_getElem?_getD, hi]
  refine ⟨(List.range len).map V, by simp, .inr ⟨b, off, rfl, World.block_lt_of_cell? _ _ z0, fun i hi => ?_⟩, fun q hq => ?_, .inr ⟨_, _, rfl, by simp⟩⟩
  · simp at hi
    obtain ⟨_, z0, z1, z2, z3, z4, z5, z6, z7⟩ := hV i hi
    rw [ha i hi]
    exact ⟨by simpa [add_none] using z0, by simpa [add_none, Nat.add_assoc] using z1, by simpa [add_none, Nat.add_assoc] using z2, by simpa [add_none, Nat.add_assoc] using z3, by simpa [add_none, Nat.add_assoc] using z4, by simpa [add_none, Nat.add_assoc] using z5, by simpa [add_none, Nat.add_assoc] using z6, by simpa [add_none, Nat.add_assoc] using z7⟩
  · simp at hq
    obtain ⟨i, hi, rfl⟩ := hq
    exact (hV i hi).1

/-! ### the bound of the second form -/
theorem bulk_one {H : Type} (d : DataW H) : 1 ≤ Rows.uptoBulk d := by
  cases d with
  | lit l => cases l <;> simp [Rows.uptoBulk]
  | nil => simp [Rows.uptoBulk]
  | ptr d => simp [Rows.uptoBulk]
  | slice elems spare => simp [Rows.uptoBulk]
  | agg parts => simp [Rows.uptoBulk]
  | iface t d => simp [Rows.uptoBulk]
  | map entries => simp [Rows.uptoBulk]
  | held h => simp [Rows.uptoBulk]
theorem bulk_part {H : Type} {d : DataW H} {l : List (DataW H)} (h : d ∈ l) : Rows.uptoBulk d ≤ Rows.uptoBulkAll l := by
  induction l with
  | nil => cases h
  | cons x r ih =>
    simp only [Rows.uptoBulkAll]
    cases List.mem_cons.1 h with
    | inl e => subst e; omega
    | inr e => have := ih e; omega
theorem bulk_length {H : Type} (l : List (DataW H)) : l.length ≤ Rows.uptoBulkAll l := by
  induction l with
  | nil => simp [Rows.uptoBulkAll]
  | cons x r ih => have := bulk_one x; simp only [Rows.uptoBulkAll, List.length_cons]; omega
theorem bulk_slice {H : Type} (elems spare : List (DataW H)) : elems.length + spare.length + 1 ≤ Rows.uptoBulk (.slice elems spare) := by
  have h1 := bulk_length elems
  have h2 := bulk_length spare
  simp only [Rows.uptoBulk]
  omega
/-- How long a list may be. -/
theorem bulk_bound {H : Type} {l : List (DataW H)} (hk : Rows.uptoSmall H l = true) {d : DataW H} (hd : d ∈ l) {len : Nat} (h : len = 0 ∨ ∃ es ss, d = .slice es ss ∧ len ≤ es.length + ss.length) : len ≤ 1048576 := by
  have hb : Rows.uptoBulkAll l ≤ 1048576 := of_decide_eq_true hk
  rcases h with h | ⟨es, ss, rfl, hle⟩
  · omega
  · have h1 := bulk_part hd
    have h2 := bulk_slice es ss
    omega
end Go.Proofs.YtaikngpgmcpecaaGreat
