import Derived.Test.YtgcfckbmmdajhaaLiV
import Derived.Deep.Slices
import Derived.ChangeArms
import Derived.ChangeSlices
import Derived.DataReads
import Derived.OpenShut
namespace Go.Proofs.Ytgcfckbmmdajhaa
open Go.RowKit Go.Deep Go.ChangeShapes Go.WideShapes Go.ChangeAt
theorem open_capL {H : Type} {enc : TypeId × Value → H} {P : Program} {W : World} {spare : Nat → Bool} {held : Bool} {t e : TypeId} {fuel : Nat} {a : Option Addr} {len cap : Nat} {x : DataW H × List MemPlace}
    (ht : P.underlying t = some (.slice e)) (h : DataW.trod enc P W 0 spare held fuel t [.slice a len cap] = some x) : len ≤ cap := by
  rcases open_slice ht h with ⟨hcs, _⟩ | ⟨a', len', cap', m, n, D, Pl, hcs, hb, hl, hm, hmm, rfl, hx⟩
  · simp at hcs
    obtain ⟨rfl, rfl, rfl⟩ := hcs
    exact Nat.le_refl _
  · simp at hcs
    obtain ⟨rfl, rfl, rfl⟩ := hcs
    exact hl
/-- What a set is asked for. -/
structure Ak where
  kind : Int
  key : Int
  other : Int
def Ak.cells (q : Ak) : List Value := [.int .i64 q.kind, .int .i64 q.key, .int .i64 q.other]
def ak0 : Ak := ⟨0, 0, 0⟩
instance : Inhabited Ak := ⟨ak0⟩
structure A64 (q : Ak) : Prop where
  k : I64 q.key
  o : I64 q.other
def ASL (w : World) (a : Option Addr) (l : List Ak) : Prop := ∀ i, i < l.length → ∃ b off, a = some ⟨b, off, none⟩ ∧ ∀ j v, (l.getD i ak0).cells[j]? = some v → w.cell? ⟨b, off + i * 3 + j, none⟩ = some v
set_option maxHeartbeats 4000000 in
set_option maxRecDepth 100000 in
theorem open_calls {H : Type} {enc : TypeId × Value → H} {P : Program} {W : World} {spare : Nat → Bool} {held : Bool} {t e : TypeId} {f0 f1 f2 f3 f4 f5 f6 f7 : Field} {fuel : Nat} {a : Option Addr} {len cap : Nat} {x : DataW H × List MemPlace}
    (ht : P.underlying t = some (.slice e)) (hs : P.underlying e = some (.struct #[f0, f1, f2, f3, f4, f5, f6, f7])) (ce : P.cellsOf e = 8)
    (o0 : f0.offset = 0) (o1 : f1.offset = 1) (o2 : f2.offset = 2) (o3 : f3.offset = 3) (o4 : f4.offset = 4) (o5 : f5.offset = 5) (o6 : f6.offset = 6) (o7 : f7.offset = 7) (c0 : P.cellsOf f0.type = 1) (c1 : P.cellsOf f1.type = 1) (c2 : P.cellsOf f2.type = 1) (c3 : P.cellsOf f3.type = 1) (c4 : P.cellsOf f4.type = 1) (c5 : P.cellsOf f5.type = 1) (c6 : P.cellsOf f6.type = 1) (c7 : P.cellsOf f7.type = 1) (u0 : P.underlying f0.type = some (.int .i64)) (u1 : P.underlying f1.type = some (.int .i64)) (u2 : P.underlying f2.type = some (.int .i64)) (u3 : P.underlying f3.type = some .bool) (u4 : P.underlying f4.type = some (.int .i64)) (u5 : P.underlying f5.type = some (.int .i64)) (u6 : P.underlying f6.type = some (.int .i64)) (u7 : P.underlying f7.type = some (.int .i64))
    (h : DataW.trod enc P W 0 spare held fuel t [.slice a len cap] = some x) : ∃ l : List Cl, l.length = len ∧ CSL W a l ∧ (∀ q ∈ l, C64 q) ∧ (len = 0 ∨ ∃ es ss, x.1 = .slice es ss ∧ len ≤ es.length + ss.length) := by
  by_cases h0 : len = 0
  · subst h0
    exact ⟨[], rfl, fun i hi => (by simp at hi), fun q hq => absurd hq (by simp), .inl rfl⟩
  rcases open_slice ht h with ⟨hcs, _⟩ | ⟨a', len', cap', m, n, D, Pl, hcs, hb, hl, hm, hmm, rfl, hx⟩
  · simp at hcs; omega
  simp at hcs
  obtain ⟨rfl, rfl, rfl⟩ := hcs
  have hlm : len ≤ m := by rw [hmm]; split <;> omega
  have each : ∀ i, i < len → ∃ q : Cl, C64 q ∧ ∀ j v, q.cells[j]? = some v → W.cell? (a'.add (i * 8 + j)) = some v := by
    intro i hi
    obtain ⟨cs', h1, h2⟩ := hx i (by omega)
    rw [ce] at h1
    obtain ⟨_, hlen, hcell⟩ := World.cells?_some h1
    obtain ⟨xs, k, hk, hxy, _, hxl, hf⟩ := DataW.trod_struct hs h2
    match xs, hxl, cs', hlen with
    | [y0, y1, y2, y3, y4, y5, y6, y7], _, [z0, z1, z2, z3, z4, z5, z6, z7], _ =>
      have G := hf 0 f0 rfl
      simp [o0, c0] at G
      obtain ⟨q0, r0, _, _⟩ := DataW.trod_int u0 G
      simp at r0
      clear G
      have G := hf 1 f1 rfl
      simp [o1, c1] at G
      obtain ⟨q1, r1, _, w1⟩ := DataW.trod_int u1 G
      simp at r1
      clear G
      have G := hf 2 f2 rfl
      simp [o2, c2] at G
      obtain ⟨q2, r2, _, w2⟩ := DataW.trod_int u2 G
      simp at r2
      clear G
      have G := hf 3 f3 rfl
      simp [o3, c3] at G
      obtain ⟨q3, r3, _⟩ := DataW.trod_bool u3 G
      simp at r3
      clear G
      have G := hf 4 f4 rfl
      simp [o4, c4] at G
      obtain ⟨q4, r4, _, _⟩ := DataW.trod_int u4 G
      simp at r4
      clear G
      have G := hf 5 f5 rfl
      simp [o5, c5] at G
      obtain ⟨q5, r5, _, _⟩ := DataW.trod_int u5 G
      simp at r5
      clear G
      have G := hf 6 f6 rfl
      simp [o6, c6] at G
      obtain ⟨q6, r6, _, _⟩ := DataW.trod_int u6 G
      simp at r6
      clear G
      have G := hf 7 f7 rfl
      simp [o7, c7] at G
      obtain ⟨q7, r7, _, _⟩ := DataW.trod_int u7 G
      simp at r7
      clear G
      refine ⟨⟨q0, q1, q2, q3, q4, q5, q6, q7⟩, ⟨i64_of_wf w1, i64_of_wf w2⟩, fun j v hv => ?_⟩
      have hj : j < 8 := (List.getElem?_eq_some_iff.1 hv).1
      have cj := hcell j (by omega)
      rw [add_add] at cj
      rw [cj]
      clear hf hcell cj h2 h1 hx hxl
      have hjj : j = 0 ∨ j = 1 ∨ j = 2 ∨ j = 3 ∨ j = 4 ∨ j = 5 ∨ j = 6 ∨ j = 7 := by omega
      rcases hjj with rfl | rfl | rfl | rfl | rfl | rfl | rfl | rfl <;> (simp [Cl.cells] at hv; subst hv; first | (rw [r0]; rfl) | (rw [r1]; rfl) | (rw [r2]; rfl) | (rw [r3]; rfl) | (rw [r4]; rfl) | (rw [r5]; rfl) | (rw [r6]; rfl) | (rw [r7]; rfl))
  obtain ⟨b, off, spot⟩ := a'
  obtain ⟨q00, -, z00⟩ := each 0 (by omega)
  have z0' := z00 0 _ rfl
  have hspot : spot = none := by simpa [Addr.add] using World.cell?_spot z0'
  subst hspot
  obtain ⟨V, hV⟩ := choose_lt each
  have ha : ∀ i, i < len → ((List.range len).map V).getD i cl0 = V i := fun i hi => by simp [List.getD_eq_getElem?_getD, hi]
  refine ⟨(List.range len).map V, by simp, fun i hi => ⟨b, off, rfl, fun j v hv => ?_⟩, fun q hq => ?_, .inr ⟨_, _, rfl, by simp⟩⟩
  rotate_left
  · simp at hq
    obtain ⟨i, hi, rfl⟩ := hq
    exact (hV i hi).1
  simp at hi
  rw [ha i hi] at hv
  have := (hV i hi).2 j v hv
  rw [add_atT] at this
  rw [Nat.add_assoc]
  exact this
set_option maxHeartbeats 4000000 in
set_option maxRecDepth 100000 in
theorem open_asks {H : Type} {enc : TypeId × Value → H} {P : Program} {W : World} {spare : Nat → Bool} {held : Bool} {t e : TypeId} {f0 f1 f2 : Field} {fuel : Nat} {a : Option Addr} {len cap : Nat} {x : DataW H × List MemPlace}
    (ht : P.underlying t = some (.slice e)) (hs : P.underlying e = some (.struct #[f0, f1, f2])) (ce : P.cellsOf e = 3)
    (o0 : f0.offset = 0) (o1 : f1.offset = 1) (o2 : f2.offset = 2) (c0 : P.cellsOf f0.type = 1) (c1 : P.cellsOf f1.type = 1) (c2 : P.cellsOf f2.type = 1) (u0 : P.underlying f0.type = some (.int .i64)) (u1 : P.underlying f1.type = some (.int .i64)) (u2 : P.underlying f2.type = some (.int .i64))
    (h : DataW.trod enc P W 0 spare held fuel t [.slice a len cap] = some x) : ∃ l : List Ak, l.length = len ∧ ASL W a l ∧ (∀ q ∈ l, A64 q) ∧ (len = 0 ∨ ∃ es ss, x.1 = .slice es ss ∧ len ≤ es.length + ss.length) := by
  by_cases h0 : len = 0
  · subst h0
    exact ⟨[], rfl, fun i hi => (by simp at hi), fun q hq => absurd hq (by simp), .inl rfl⟩
  rcases open_slice ht h with ⟨hcs, _⟩ | ⟨a', len', cap', m, n, D, Pl, hcs, hb, hl, hm, hmm, rfl, hx⟩
  · simp at hcs; omega
  simp at hcs
  obtain ⟨rfl, rfl, rfl⟩ := hcs
  have hlm : len ≤ m := by rw [hmm]; split <;> omega
  have each : ∀ i, i < len → ∃ q : Ak, A64 q ∧ ∀ j v, q.cells[j]? = some v → W.cell? (a'.add (i * 3 + j)) = some v := by
    intro i hi
    obtain ⟨cs', h1, h2⟩ := hx i (by omega)
    rw [ce] at h1
    obtain ⟨_, hlen, hcell⟩ := World.cells?_some h1
    obtain ⟨xs, k, hk, hxy, _, hxl, hf⟩ := DataW.trod_struct hs h2
    match xs, hxl, cs', hlen with
    | [y0, y1, y2], _, [z0, z1, z2], _ =>
      have G := hf 0 f0 rfl
      simp [o0, c0] at G
      obtain ⟨q0, r0, _, _⟩ := DataW.trod_int u0 G
      simp at r0
      clear G
      have G := hf 1 f1 rfl
      simp [o1, c1] at G
      obtain ⟨q1, r1, _, w1⟩ := DataW.trod_int u1 G
      simp at r1
      clear G
      have G := hf 2 f2 rfl
      simp [o2, c2] at G
      obtain ⟨q2, r2, _, w2⟩ := DataW.trod_int u2 G
      simp at r2
      clear G
      refine ⟨⟨q0, q1, q2⟩, ⟨i64_of_wf w1, i64_of_wf w2⟩, fun j v hv => ?_⟩
      have hj : j < 3 := (List.getElem?_eq_some_iff.1 hv).1
      have cj := hcell j (by omega)
      rw [add_add] at cj
      rw [cj]
      clear hf hcell cj h2 h1 hx hxl
      have hjj : j = 0 ∨ j = 1 ∨ j = 2 := by omega
      rcases hjj with rfl | rfl | rfl <;> (simp [Ak.cells] at hv; subst hv; first | (rw [r0]; rfl) | (rw [r1]; rfl) | (rw [r2]; rfl))
  obtain ⟨b, off, spot⟩ := a'
  obtain ⟨q00, -, z00⟩ := each 0 (by omega)
  have z0' := z00 0 _ rfl
  have hspot : spot = none := by simpa [Addr.add] using World.cell?_spot z0'
  subst hspot
  obtain ⟨V, hV⟩ := choose_lt each
  have ha : ∀ i, i < len → ((List.range len).map V).getD i ak0 = V i := fun i hi => by simp [List.getD_eq_getElem?_getD, hi]
  refine ⟨(List.range len).map V, by simp, fun i hi => ⟨b, off, rfl, fun j v hv => ?_⟩, fun q hq => ?_, .inr ⟨_, _, rfl, by simp⟩⟩
  rotate_left
  · simp at hq
    obtain ⟨i, hi, rfl⟩ := hq
    exact (hV i hi).1
  simp at hi
  rw [ha i hi] at hv
  have := (hV i hi).2 j v hv
  rw [add_atT] at this
  rw [Nat.add_assoc]
  exact this
end Go.Proofs.Ytgcfckbmmdajhaa
