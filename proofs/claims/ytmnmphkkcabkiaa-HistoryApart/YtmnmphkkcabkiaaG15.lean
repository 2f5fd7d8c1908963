import Derived.Test.YtmnmphkkcabkiaaG14
import Derived.Test.YtmnmphkkcabkiaaG11
import Derived.Shelf.SlSortCmp.NoneTotal
namespace Go.Proofs.Ytmnmphkkcabkiaa
open Go.RowKit Go.Deep Go.ChangeShapes Go.WideShapes Go.ChangeAt
structure R64 (q : Rw) : Prop where
  o : I64 q.object
  e : I64 q.entry
  s : I64 q.seen
  t : I64 q.thread
theorem life64 : ∀ q ∈ lifeL, R64 q := by
  intro q hq
  simp only [lifeL, List.mem_cons, List.not_mem_nil, or_false] at hq
  rcases hq with rfl | rfl | rfl | rfl | rfl | rfl <;> exact ⟨by constructor <;> decide, by constructor <;> decide, by constructor <;> decide, by constructor <;> decide⟩
set_option maxHeartbeats 4000000 in
set_option maxRecDepth 100000 in
theorem open_rows64 {H : Type} {enc : TypeId × Value → H} {P : Program} {W : World} {spare : Nat → Bool} {held : Bool} {t e eo : TypeId} {f0 f1 f2 f3 f4 f5 f6 f7 f8 f9 f10 f11 f12 f13 f14 f15 f16 f17 f18 f19 f20 f21 g0 g1 g2 : Field} {fuel : Nat} {a : Option Addr} {len cap : Nat} {x : DataW H × List MemPlace}
    (ht : P.underlying t = some (.slice e)) (hs : P.underlying e = some (.struct #[f0, f1, f2, f3, f4, f5, f6, f7, f8, f9, f10, f11, f12, f13, f14, f15, f16, f17, f18, f19, f20, f21])) (ho : P.underlying eo = some (.struct #[g0, g1, g2])) (ce : P.cellsOf e = 26)
    (o0 : f0.offset = 0) (o1 : f1.offset = 1) (o2 : f2.offset = 2) (o3 : f3.offset = 3) (o4 : f4.offset = 4) (o5 : f5.offset = 5) (o6 : f6.offset = 6) (o7 : f7.offset = 7) (o8 : f8.offset = 8) (o9 : f9.offset = 9) (o10 : f10.offset = 10) (o11 : f11.offset = 11) (o12 : f12.offset = 12) (o13 : f13.offset = 13) (o14 : f14.offset = 14) (o15 : f15.offset = 15) (o16 : f16.offset = 16) (o17 : f17.offset = 17) (o18 : f18.offset = 18) (o19 : f19.offset = 21) (o20 : f20.offset = 22) (o21 : f21.offset = 25) (c0 : P.cellsOf f0.type = 1) (c1 : P.cellsOf f1.type = 1) (c2 : P.cellsOf f2.type = 1) (c3 : P.cellsOf f3.type = 1) (c4 : P.cellsOf f4.type = 1) (c5 : P.cellsOf f5.type = 1) (c6 : P.cellsOf f6.type = 1) (c7 : P.cellsOf f7.type = 1) (c8 : P.cellsOf f8.type = 1) (c9 : P.cellsOf f9.type = 1) (c10 : P.cellsOf f10.type = 1) (c11 : P.cellsOf f11.type = 1) (c12 : P.cellsOf f12.type = 1) (c13 : P.cellsOf f13.type = 1) (c14 : P.cellsOf f14.type = 1) (c15 : P.cellsOf f15.type = 1) (c16 : P.cellsOf f16.type = 1) (c17 : P.cellsOf f17.type = 1) (c18 : P.cellsOf f18.type = 3) (c19 : P.cellsOf f19.type = 1) (c20 : P.cellsOf f20.type = 3) (c21 : P.cellsOf f21.type = 1) (u0 : P.underlying f0.type = some (.int .i64)) (u1 : P.underlying f1.type = some (.int .i64)) (u2 : P.underlying f2.type = some (.int .i64)) (u3 : P.underlying f3.type = some (.int .i64)) (u4 : P.underlying f4.type = some (.int .i64)) (u5 : P.underlying f5.type = some (.int .i64)) (u6 : P.underlying f6.type = some (.int .i64)) (u7 : P.underlying f7.type = some (.int .i64)) (u8 : P.underlying f8.type = some (.int .i64)) (u9 : P.underlying f9.type = some (.int .i64)) (u10 : P.underlying f10.type = some (.int .i64)) (u11 : P.underlying f11.type = some (.int .i64)) (u12 : P.underlying f12.type = some (.int .i64)) (u13 : P.underlying f13.type = some .bool) (u14 : P.underlying f14.type = some .bool) (u15 : P.underlying f15.type = some .bool) (u16 : P.underlying f16.type = some (.int .i64)) (u17 : P.underlying f17.type = some .bool) (t18 : f18.type = eo) (u19 : P.underlying f19.type = some .bool) (t20 : f20.type = eo) (u21 : P.underlying f21.type = some (.int .i64))
    (p0 : g0.offset = 0) (p1 : g1.offset = 1) (p2 : g2.offset = 2) (d0 : P.cellsOf g0.type = 1) (d1 : P.cellsOf g1.type = 1) (d2 : P.cellsOf g2.type = 1) (v0 : P.underlying g0.type = some (.int .i64)) (v1 : P.underlying g1.type = some (.int .i64)) (v2 : P.underlying g2.type = some .bool)
    (h : DataW.trod enc P W 0 spare held fuel t [.slice a len cap] = some x) : ∃ l : List Rw, l.length = len ∧ RSL W a l ∧ (∀ q ∈ l, R64 q) ∧ (len = 0 ∨ ∃ es ss, x.1 = .slice es ss ∧ len ≤ es.length + ss.length) := by
  by_cases h0 : len = 0
  · subst h0
    exact ⟨[], rfl, fun i hi => (by simp at hi), fun q hq => absurd hq (by simp), .inl rfl⟩
  rcases open_slice ht h with ⟨hcs, _⟩ | ⟨a', len', cap', m, n, D, Pl, hcs, hb, hl, hm, hmm, rfl, hx⟩
  · simp at hcs; omega
  simp at hcs
  obtain ⟨rfl, rfl, rfl⟩ := hcs
  have hlm : len ≤ m := by rw [hmm]; split <;> omega
  have each : ∀ i, i < len → ∃ q : Rw, R64 q ∧ ∀ j v, q.cells[j]? = some v → W.cell? (a'.add (i * 26 + j)) = some v := by
    intro i hi
    obtain ⟨cs', h1, h2⟩ := hx i (by omega)
    rw [ce] at h1
    obtain ⟨_, hlen, hcell⟩ := World.cells?_some h1
    obtain ⟨xs, k, hk, hxy, _, hxl, hf⟩ := DataW.trod_struct hs h2
    match xs, hxl, cs', hlen with
    | [y0, y1, y2, y3, y4, y5, y6, y7, y8, y9, y10, y11, y12, y13, y14, y15, y16, y17, y18, y19, y20, y21], _, [z0, z1, z2, z3, z4, z5, z6, z7, z8, z9, z10, z11, z12, z13, z14, z15, z16, z17, z18, z19, z20, z21, z22, z23, z24, z25], _ =>
      have G := hf 0 f0 rfl
      simp [o0, c0] at G
      obtain ⟨q0, r0, _, _⟩ := DataW.trod_int u0 G
      simp at r0
      clear G
      have G := hf 1 f1 rfl
      simp [o1, c1] at G
      obtain ⟨q1, r1, _, w1⟩ := DataW.trod_int u1 G
      simp at r1
      clear G
      have G := hf 2 f2 rfl
      simp [o2, c2] at G
      obtain ⟨q2, r2, _, _⟩ := DataW.trod_int u2 G
      simp at r2
      clear G
      have G := hf 3 f3 rfl
      simp [o3, c3] at G
      obtain ⟨q3, r3, _, _⟩ := DataW.trod_int u3 G
      simp at r3
      clear G
      have G := hf 4 f4 rfl
      simp [o4, c4] at G
      obtain ⟨q4, r4, _, _⟩ := DataW.trod_int u4 G
      simp at r4
      clear G
      have G := hf 5 f5 rfl
      simp [o5, c5] at G
      obtain ⟨q5, r5, _, _⟩ := DataW.trod_int u5 G
      simp at r5
      clear G
      have G := hf 6 f6 rfl
      simp [o6, c6] at G
      obtain ⟨q6, r6, _, _⟩ := DataW.trod_int u6 G
      simp at r6
      clear G
      have G := hf 7 f7 rfl
      simp [o7, c7] at G
      obtain ⟨q7, r7, _, w7⟩ := DataW.trod_int u7 G
      simp at r7
      clear G
      have G := hf 8 f8 rfl
      simp [o8, c8] at G
      obtain ⟨q8, r8, _, w8⟩ := DataW.trod_int u8 G
      simp at r8
      clear G
      have G := hf 9 f9 rfl
      simp [o9, c9] at G
      obtain ⟨q9, r9, _, _⟩ := DataW.trod_int u9 G
      simp at r9
      clear G
      have G := hf 10 f10 rfl
      simp [o10, c10] at G
      obtain ⟨q10, r10, _, _⟩ := DataW.trod_int u10 G
      simp at r10
      clear G
      have G := hf 11 f11 rfl
      simp [o11, c11] at G
      obtain ⟨q11, r11, _, w11⟩ := DataW.trod_int u11 G
      simp at r11
      clear G
      have G := hf 12 f12 rfl
      simp [o12, c12] at G
      obtain ⟨q12, r12, _, _⟩ := DataW.trod_int u12 G
      simp at r12
      clear G
      have G := hf 13 f13 rfl
      simp [o13, c13] at G
      obtain ⟨q13, r13, _⟩ := DataW.trod_bool u13 G
      simp at r13
      clear G
      have G := hf 14 f14 rfl
      simp [o14, c14] at G
      obtain ⟨q14, r14, _⟩ := DataW.trod_bool u14 G
      simp at r14
      clear G
      have G := hf 15 f15 rfl
      simp [o15, c15] at G
      obtain ⟨q15, r15, _⟩ := DataW.trod_bool u15 G
      simp at r15
      clear G
      have G := hf 16 f16 rfl
      simp [o16, c16] at G
      obtain ⟨q16, r16, _, _⟩ := DataW.trod_int u16 G
      simp at r16
      clear G
      have G := hf 17 f17 rfl
      simp [o17, c17] at G
      obtain ⟨q17, r17, _⟩ := DataW.trod_bool u17 G
      simp at r17
      clear G
      have G := hf 18 f18 rfl
      simp [o18, c18] at G
      rw [t18] at G
      obtain ⟨q18, q19, q20, r18, r19, r20⟩ := open_val ho p0 p1 p2 d0 d1 d2 v0 v1 v2 G
      clear G
      have G := hf 19 f19 rfl
      simp [o19, c19] at G
      obtain ⟨q21, r21, _⟩ := DataW.trod_bool u19 G
      simp at r21
      clear G
      have G := hf 20 f20 rfl
      simp [o20, c20] at G
      rw [t20] at G
      obtain ⟨q22, q23, q24, r22, r23, r24⟩ := open_val ho p0 p1 p2 d0 d1 d2 v0 v1 v2 G
      clear G
      have G := hf 21 f21 rfl
      simp [o21, c21] at G
      obtain ⟨q25, r25, _, _⟩ := DataW.trod_int u21 G
      simp at r25
      clear G
      refine ⟨⟨q0, q1, q2, q3, q4, q5, q6, q7, q8, q9, q10, q11, q12, q13, q14, q15, q16, q17, q18, q19, q20, q21, q22, q23, q24, q25⟩, ⟨i64_of_wf w7, i64_of_wf w8, i64_of_wf w11, i64_of_wf w1⟩, fun j v hv => ?_⟩
      have hj : j < 26 := (List.getElem?_eq_some_iff.1 hv).1
      have cj := hcell j (by omega)
      rw [add_add] at cj
      rw [cj]
      clear hf hcell cj h2 h1 hx hxl
      have g := rw_cells_get _ j v hv
      simp only at g
      rcases g with ⟨rfl, rfl⟩ | ⟨rfl, rfl⟩ | ⟨rfl, rfl⟩ | ⟨rfl, rfl⟩ | ⟨rfl, rfl⟩ | ⟨rfl, rfl⟩ | ⟨rfl, rfl⟩ | ⟨rfl, rfl⟩ | ⟨rfl, rfl⟩ | ⟨rfl, rfl⟩ | ⟨rfl, rfl⟩ | ⟨rfl, rfl⟩ | ⟨rfl, rfl⟩ | ⟨rfl, rfl⟩ | ⟨rfl, rfl⟩ | ⟨rfl, rfl⟩ | ⟨rfl, rfl⟩ | ⟨rfl, rfl⟩ | ⟨rfl, rfl⟩ | ⟨rfl, rfl⟩ | ⟨rfl, rfl⟩ | ⟨rfl, rfl⟩ | ⟨rfl, rfl⟩ | ⟨rfl, rfl⟩ | ⟨rfl, rfl⟩ | ⟨rfl, rfl⟩
      · rw [r0]; rfl
      · rw [r1]; rfl
      · rw [r2]; rfl
      · rw [r3]; rfl
      · rw [r4]; rfl
      · rw [r5]; rfl
      · rw [r6]; rfl
      · rw [r7]; rfl
      · rw [r8]; rfl
      · rw [r9]; rfl
      · rw [r10]; rfl
      · rw [r11]; rfl
      · rw [r12]; rfl
      · rw [r13]; rfl
      · rw [r14]; rfl
      · rw [r15]; rfl
      · rw [r16]; rfl
      · rw [r17]; rfl
      · rw [r18]; rfl
      · rw [r19]; rfl
      · rw [r20]; rfl
      · rw [r21]; rfl
      · rw [r22]; rfl
      · rw [r23]; rfl
      · rw [r24]; rfl
      · rw [r25]; rfl
  obtain ⟨b, off, spot⟩ := a'
  obtain ⟨q00, -, z00⟩ := each 0 (by omega)
  have z0' := z00 0 _ rfl
  have hspot : spot = none := by simpa [Addr.add] using World.cell?_spot z0'
  subst hspot
  obtain ⟨V, hV⟩ := choose_lt each
  have ha : ∀ i, i < len → ((List.range len).map V).getD i rw0 = V i := fun i hi => by simp [List.getD_eq_getElem?_getD, hi]
  refine ⟨(List.range len).map V, by simp, fun i hi => ⟨b, off, rfl, fun j v hv => ?_⟩, fun q hq => ?_, .inr ⟨_, _, rfl, by simp⟩⟩
  rotate_left
  · simp at hq
    obtain ⟨i, hi, rfl⟩ := hq
    exact (hV i hi).1
  simp at hi
  rw [ha i hi] at hv
  have := (hV i hi).2 j v hv
  rw [add_at] at this
  rw [Nat.add_assoc]
  exact this
end Go.Proofs.Ytmnmphkkcabkiaa

namespace Go.Proofs.Ytmnmphkkcabkiaa
open Go.RowKit Go.Deep Go.ChangeShapes Go.WideShapes Go.ChangeAt
instance : Inhabited V3 := ⟨v30⟩
theorem open_vs {H : Type} {enc : TypeId × Value → H} {P : Program} {W : World} {spare : Nat → Bool} {held : Bool} {t e : TypeId} {f0 f1 f2 : Field} {fuel : Nat} {a : Option Addr} {len cap : Nat} {x : DataW H × List MemPlace}
    (ht : P.underlying t = some (.slice e)) (hs : P.underlying e = some (.struct #[f0, f1, f2])) (ce : P.cellsOf e = 3) (o0 : f0.offset = 0) (o1 : f1.offset = 1) (o2 : f2.offset = 2)
    (c0 : P.cellsOf f0.type = 1) (c1 : P.cellsOf f1.type = 1) (c2 : P.cellsOf f2.type = 1) (u0 : P.underlying f0.type = some (.int .i64)) (u1 : P.underlying f1.type = some (.int .i64)) (u2 : P.underlying f2.type = some .bool)
    (h : DataW.trod enc P W 0 spare held fuel t [.slice a len cap] = some x) : ∃ F : Nat → V3, VS W a len F ∧ (len = 0 ∨ ∃ es ss, x.1 = .slice es ss ∧ len ≤ es.length + ss.length) := by
  by_cases h0 : len = 0
  · subst h0
    exact ⟨fun _ => v30, fun i hi => absurd hi (Nat.not_lt_zero _), .inl rfl⟩
  rcases open_slice ht h with ⟨hcs, _⟩ | ⟨a', len', cap', m, n, D, Pl, hcs, hb, hl, hm, hmm, rfl, hx⟩
  · simp at hcs; omega
  simp at hcs
  obtain ⟨rfl, rfl, rfl⟩ := hcs
  have hlm : len ≤ m := by rw [hmm]; split <;> omega
  have each : ∀ i, i < len → ∃ q : V3, W.cell? (a'.add (i * 3)) = some (.int .i64 q.num) ∧ W.cell? (a'.add (i * 3 + 1)) = some (.int .i64 q.next) ∧ W.cell? (a'.add (i * 3 + 2)) = some (.bool q.dead) := by
    intro i hi
    obtain ⟨cs', h1, h2⟩ := hx i (by omega)
    rw [ce] at h1
    obtain ⟨_, hlen, hcell⟩ := World.cells?_some h1
    obtain ⟨xs, k, hk, hxy, _, hxl, hf⟩ := DataW.trod_struct hs h2
    match xs, hxl, cs', hlen with
    | [y0, y1, y2], _, [v0, v1, v2], _ =>
      have g0 := hf 0 f0 rfl
      have g1 := hf 1 f1 rfl
      have g2 := hf 2 f2 rfl
      simp [o0, o1, o2, c0, c1, c2] at g0 g1 g2
      have e0 := hcell 0 (by omega)
      have e1 := hcell 1 (by omega)
      have e2 := hcell 2 (by omega)
      rw [add_add] at e0 e1 e2
      obtain ⟨q0, r0, _, w0⟩ := DataW.trod_int u0 g0
      obtain ⟨q1, r1, _, w1⟩ := DataW.trod_int u1 g1
      obtain ⟨q2, r2, _⟩ := DataW.trod_bool u2 g2
      simp at r0 r1 r2
      subst r0 r1 r2
      exact ⟨⟨q0, q1, q2⟩, by simpa using e0, by simpa using e1, by simpa using e2⟩
  obtain ⟨b, off, spot⟩ := a'
  obtain ⟨_, z0, _⟩ := each 0 (by omega)
  have hspot : spot = none := by simpa [Addr.add] using World.cell?_spot z0
  subst hspot
  obtain ⟨V, hV⟩ := choose_lt each
  refine ⟨V, fun i hi => ⟨b, off, rfl, fun j v hv => ?_⟩, .inr ⟨_, _, rfl, by simp⟩⟩
  obtain ⟨z0, z1, z2⟩ := hV i hi
  have hj : j < 3 := (List.getElem?_eq_some_iff.1 hv).1
  rcases (by omega : j = 0 ∨ j = 1 ∨ j = 2) with rfl | rfl | rfl
  · have hv : Value.int .i64 (V i).num = v := by simpa [V3.cells] using hv
    rw [← hv]
    simpa [add_at, Nat.add_assoc] using z0
  · have hv : Value.int .i64 (V i).next = v := by simpa [V3.cells] using hv
    rw [← hv]
    simpa [add_at, Nat.add_assoc] using z1
  · have hv : Value.bool (V i).dead = v := by simpa [V3.cells] using hv
    rw [← hv]
    simpa [add_at, Nat.add_assoc] using z2
def NS (w : World) (a : Option Addr) (n : Nat) (z : Nat → Int) : Prop := ∀ i, i < n → ∃ b off, a = some ⟨b, off, none⟩ ∧ w.cell? ⟨b, off + i, none⟩ = some (.int .i64 (z i))
end Go.Proofs.Ytmnmphkkcabkiaa

namespace Go.Proofs.Ytmnmphkkcabkiaa
open Go.RowKit
end Go.Proofs.Ytmnmphkkcabkiaa

namespace Go.Proofs.Ytmnmphkkcabkiaa
open Go.RowKit
theorem sortNone : SortNone := fun w => AnyF.slices_SortFunc_none Try.sortW none 0 _ w
end Go.Proofs.Ytmnmphkkcabkiaa

