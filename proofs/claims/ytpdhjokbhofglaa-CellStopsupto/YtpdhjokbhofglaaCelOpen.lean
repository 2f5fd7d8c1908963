import Derived.Test.YtpdhjokbhofglaaCelN
import Derived.Deep.Slices
import Derived.ChangeArms
import Derived.ChangeSlices
import Derived.DataReads
import Derived.OpenShut
namespace Go.Proofs.Ytpdhjokbhofglaa
open Go.RowKit Go.Deep Go.ChangeShapes Go.WideShapes Go.ChangeAt

theorem add_none (b off n : Nat) : (⟨b, off, none⟩ : Addr).add n = ⟨b, off + n, none⟩ := by
  unfold Addr.add; split <;> simp_all

/-- Numbers that were handed in. -/
theorem open_nums {H : Type} {enc : TypeId × Value → H} {P : Program} {W : World} {t e : TypeId} {fuel : Nat} {a : Option Addr} {len cap : Nat} {x : DataW H × List MemPlace} (ht : P.underlying t = some (.slice e)) (he : P.underlying e = some (.int .i64)) (hc : P.cellsOf e = 1)
    (h : DataW.trod enc P W 0 (fun _ => true) true fuel t [.slice a len cap] = some x) :
    ∃ z : Nat → Int, NL W a len z ∧ (∀ i, i < len → I64 (z i)) ∧ (len = 0 ∨ ∃ es ss, x.1 = .slice es ss ∧ len ≤ es.length + ss.length) := by
  rcases open_ints ht he hc h with ⟨hcs, _⟩ | ⟨a', l, c, zs, hcs, _, hl, hm, hz, hx, hcell, hwz⟩
  · simp at hcs
    obtain ⟨rfl, rfl, rfl⟩ := hcs
    exact ⟨fun _ => 0, .inl rfl, fun i hi => absurd hi (by omega), .inl rfl⟩
  · simp at hcs hz
    obtain ⟨rfl, rfl, rfl⟩ := hcs
    refine ⟨fun i => zs.getD i 0, ?_, ?_, ?_⟩
    · by_cases h0 : len = 0
      · exact .inl h0
      · obtain ⟨b, off, spot⟩ := a'
        have hc0 := hcell 0 (by omega)
        have hspot : spot = none := by simpa [Addr.add] using World.cell?_spot hc0
        subst hspot
        rw [add_none] at hc0
        exact .inr ⟨b, off, rfl, World.block_lt_of_cell? _ _ hc0, fun i hi => by have g := hcell i (by omega); rwa [add_none] at g⟩
    · intro i hi
      refine i64_of_wf (hwz _ ?_)
      show zs.getD i 0 ∈ zs
      rw [List.getD_eq_getElem?_getD, List.getElem?_eq_getElem (by omega)]
      exact List.getElem_mem _
    · by_cases h0 : len = 0
      · exact .inl h0
      · exact .inr ⟨_, _, by rw [hx], by simp [lits]; omega⟩

/-- An act: its kind, its place, two numbers. -/
structure Ac where
  kind : Int
  c : Int
  x : Int
  y : Int
def ac0 : Ac := ⟨0, 0, 0, 0⟩
instance : Inhabited Ac := ⟨ac0⟩
def aa (l : List Ac) (i : Nat) : Ac := l.getD i ac0
/-- Acts in memory. -/
def AL (w : World) (a : Option Addr) (l : List Ac) : Prop :=
  l.length = 0 ∨ ∃ b off, a = some ⟨b, off, none⟩ ∧ b < w.heap.size ∧ ∀ i, i < l.length →
    w.cell? ⟨b, off + i * 4, none⟩ = some (.int .i64 (aa l i).kind) ∧ w.cell? ⟨b, off + i * 4 + 1, none⟩ = some (.int .i64 (aa l i).c) ∧ w.cell? ⟨b, off + i * 4 + 2, none⟩ = some (.int .i64 (aa l i).x) ∧ w.cell? ⟨b, off + i * 4 + 3, none⟩ = some (.int .i64 (aa l i).y)
theorem AL.keep {w w' : World} {a : Option Addr} {l : List Ac} (h : AL w a l) {S : Nat → Prop} (k : Keeps S w w') (hS : ∀ b, b < w.heap.size → ¬ S b) : AL w' a l := by
  rcases h with h | ⟨b, off, rfl, hb, h⟩
  · exact .inl h
  · exact .inr ⟨b, off, rfl, Nat.lt_of_lt_of_le hb k.size, fun i hi => ⟨k.cell (h i hi).1 (hS b hb), k.cell (h i hi).2.1 (hS b hb), k.cell (h i hi).2.2.1 (hS b hb), k.cell (h i hi).2.2.2 (hS b hb)⟩⟩
theorem AL.some {w : World} {a : Option Addr} {l : List Ac} (h : AL w a l) (hl : 0 < l.length) : ∃ b off, a = Option.some ⟨b, off, none⟩ ∧ b < w.heap.size ∧ ∀ i, i < l.length →
    w.cell? ⟨b, off + i * 4, none⟩ = Option.some (.int .i64 (aa l i).kind) ∧ w.cell? ⟨b, off + i * 4 + 1, none⟩ = Option.some (.int .i64 (aa l i).c) ∧ w.cell? ⟨b, off + i * 4 + 2, none⟩ = Option.some (.int .i64 (aa l i).x) ∧ w.cell? ⟨b, off + i * 4 + 3, none⟩ = Option.some (.int .i64 (aa l i).y) := h.resolve_left (by omega)
def Ac.ok (q : Ac) : Prop := I64 q.kind ∧ I64 q.c ∧ I64 q.x ∧ I64 q.y

/-- Acts that were handed in. -/
theorem open_acts {H : Type} {enc : TypeId × Value → H} {P : Program} {W : World} {spare : Nat → Bool} {held : Bool} {t e : TypeId} {f0 f1 f2 f3 : Field} {fuel : Nat} {a : Option Addr} {len cap : Nat} {x : DataW H × List MemPlace}
    (ht : P.underlying t = some (.slice e)) (hs : P.underlying e = some (.struct #[f0, f1, f2, f3])) (ce : P.cellsOf e = 4) (o0 : f0.offset = 0) (o1 : f1.offset = 1) (o2 : f2.offset = 2) (o3 : f3.offset = 3)
    (c0 : P.cellsOf f0.type = 1) (c1 : P.cellsOf f1.type = 1) (c2 : P.cellsOf f2.type = 1) (c3 : P.cellsOf f3.type = 1) (u0 : P.underlying f0.type = some (.int .i64)) (u1 : P.underlying f1.type = some (.int .i64)) (u2 : P.underlying f2.type = some (.int .i64)) (u3 : P.underlying f3.type = some (.int .i64))
    (h : DataW.trod enc P W 0 spare held fuel t [.slice a len cap] = some x) : ∃ l : List Ac, l.length = len ∧ AL W a l ∧ (∀ q ∈ l, q.ok) ∧ (len = 0 ∨ ∃ es ss, x.1 = .slice es ss ∧ len ≤ es.length + ss.length) := by
  by_cases h0 : len = 0
  · subst h0
    exact ⟨[], rfl, .inl rfl, (fun q hq => by cases hq), .inl rfl⟩
  rcases open_slice ht h with ⟨hcs, _⟩ | ⟨a', len', cap', m, n, D, Pl, hcs, hb, hl, hm, hmm, rfl, hx⟩
  · simp at hcs; omega
  simp at hcs
  obtain ⟨rfl, rfl, rfl⟩ := hcs
  have hlm : len ≤ m := by rw [hmm]; split <;> omega
  have each : ∀ i, i < len → ∃ q : Ac, q.ok ∧ W.cell? (a'.add (i * 4)) = some (.int .i64 q.kind) ∧ W.cell? (a'.add (i * 4 + 1)) = some (.int .i64 q.c) ∧ W.cell? (a'.add (i * 4 + 2)) = some (.int .i64 q.x) ∧ W.cell? (a'.add (i * 4 + 3)) = some (.int .i64 q.y) := by
    intro i hi
    obtain ⟨cs', h1, h2⟩ := hx i (by omega)
    rw [ce] at h1
    obtain ⟨_, hlen, hcell⟩ := World.cells?_some h1
    obtain ⟨xs, k, hk, hxy, _, hxl, hf⟩ := DataW.trod_struct hs h2
    match xs, hxl, cs', hlen with
    | [y0, y1, y2, y3], _, [v0, v1, v2, v3], _ =>
      have g0 := hf 0 f0 rfl
      have g1 := hf 1 f1 rfl
      have g2 := hf 2 f2 rfl
      have g3 := hf 3 f3 rfl
      simp [o0, o1, o2, o3, c0, c1, c2, c3] at g0 g1 g2 g3
      have e0 := hcell 0 (by omega)
      have e1 := hcell 1 (by omega)
      have e2 := hcell 2 (by omega)
      have e3 := hcell 3 (by omega)
      rw [add_add] at e0 e1 e2 e3
      obtain ⟨q0, r0, _, w0⟩ := DataW.trod_int u0 g0
      obtain ⟨q1, r1, _, w1⟩ := DataW.trod_int u1 g1
      obtain ⟨q2, r2, _, w2⟩ := DataW.trod_int u2 g2
      obtain ⟨q3, r3, _, w3⟩ := DataW.trod_int u3 g3
      simp at r0 r1 r2 r3
      subst r0 r1 r2 r3
      exact ⟨⟨q0, q1, q2, q3⟩, ⟨i64_of_wf w0, i64_of_wf w1, i64_of_wf w2, i64_of_wf w3⟩, by simpa using e0, by simpa using e1, by simpa using e2, by simpa using e3⟩
  obtain ⟨b, off, spot⟩ := a'
  obtain ⟨_, _, z0, _⟩ := each 0 (by omega)
  have hspot : spot = none := by simpa [Addr.add] using World.cell?_spot z0
  subst hspot
  rw [add_none] at z0
  obtain ⟨V, hV⟩ := choose_lt each
  have ha : ∀ i, i < len → aa ((List.range len).map V) i = V i := fun i hi => by simp [aa, List.getD_eq_getElem?_getD, hi]
  refine ⟨(List.range len).map V, by simp, .inr ⟨b, off, rfl, World.block_lt_of_cell? _ _ z0, fun i hi => ?_⟩, fun q hq => ?_, .inr ⟨_, _, rfl, by simp⟩⟩
  · simp at hi
    obtain ⟨_, z0, z1, z2, z3⟩ := hV i hi
    rw [ha i hi]
    exact ⟨by simpa [add_none] using z0, by simpa [add_none, Nat.add_assoc] using z1, by simpa [add_none, Nat.add_assoc] using z2, by simpa [add_none, Nat.add_assoc] using z3⟩
  · simp at hq
    obtain ⟨i, hi, rfl⟩ := hq
    exact (hV i hi).1

/-! ### the bound of the second form -/
theorem bulk_one {H : Type} (d : DataW H) : 1 ≤ Rows.uptoBulk d := by
  cases d with
  | lit l => cases l <;> simp [Rows.uptoBulk]
  | nil => simp [Rows.uptoBulk]
  | ptr d => simp [Rows.uptoBulk]
  | slice elems spare => simp [Rows.uptoBulk]
  | agg parts => simp [Rows.uptoBulk]
  | iface t d => simp [Rows.uptoBulk]
  | map entries => simp [Rows.uptoBulk]
  | held h => simp [Rows.uptoBulk]
theorem bulk_part {H : Type} {d : DataW H} {l : List (DataW H)} (h : d ∈ l) : Rows.uptoBulk d ≤ Rows.uptoBulkAll l := by
  induction l with
  | nil => cases h
  | cons x r ih =>
    simp only [Rows.uptoBulkAll]
    cases List.mem_cons.1 h with
    | inl e => subst e; omega
    | inr e => have := ih e; omega
theorem bulk_length {H : Type} (l : List (DataW H)) : l.length ≤ Rows.uptoBulkAll l := by
  induction l with
  | nil => simp [Rows.uptoBulkAll]
  | cons x r ih => have := bulk_one x; simp only [Rows.uptoBulkAll, List.length_cons]; omega
theorem bulk_slice {H : Type} (elems spare : List (DataW H)) : elems.length + spare.length + 1 ≤ Rows.uptoBulk (.slice elems spare) := by
  have h1 := bulk_length elems
  have h2 := bulk_length spare
  simp only [Rows.uptoBulk]
  omega
/-- How long a list may be. -/
theorem bulk_bound {H : Type} {l : List (DataW H)} (hk : Rows.uptoSmall H l = true) {d : DataW H} (hd : d ∈ l) {len : Nat} (h : len = 0 ∨ ∃ es ss, d = .slice es ss ∧ len ≤ es.length + ss.length) : len ≤ 1048576 := by
  have hb : Rows.uptoBulkAll l ≤ 1048576 := of_decide_eq_true hk
  rcases h with h | ⟨es, ss, rfl, hle⟩
  · omega
  · have h1 := bulk_part hd
    have h2 := bulk_slice es ss
    omega
end Go.Proofs.Ytpdhjokbhofglaa
