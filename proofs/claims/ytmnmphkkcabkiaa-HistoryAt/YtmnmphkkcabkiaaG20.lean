import Derived.Test.YtmnmphkkcabkiaaG19
import Derived.Deep.Slices
import Derived.ChangeArms
import Derived.ChangeSlices
import Derived.DataReads
import Derived.OpenShut
import Derived.Test.YtmnmphkkcabkiaaG18
import Derived.Test.YtmnmphkkcabkiaaG14
namespace Go.Proofs.Ytmnmphkkcabkiaa
open Go.RowKit Go.Deep Go.ChangeShapes Go.WideShapes Go.ChangeAt
theorem open_cap2 {H : Type} {enc : TypeId × Value → H} {P : Program} {W : World} {spare : Nat → Bool} {held : Bool} {t e : TypeId} {fuel : Nat} {a : Option Addr} {len cap : Nat} {x : DataW H × List MemPlace}
    (ht : P.underlying t = some (.slice e)) (h : DataW.trod enc P W 0 spare held fuel t [.slice a len cap] = some x) : len ≤ cap ∧ (a = none → cap = 0) := by
  rcases open_slice ht h with ⟨hcs, _⟩ | ⟨a', len', cap', m, n, D, Pl, hcs, hb, hl, hm, hmm, rfl, hx⟩
  · simp at hcs
    obtain ⟨rfl, rfl, rfl⟩ := hcs
    exact ⟨Nat.le_refl _, fun _ => rfl⟩
  · simp at hcs
    obtain ⟨rfl, rfl, rfl⟩ := hcs
    exact ⟨hl, fun e => by cases e⟩
theorem open_val {H : Type} {enc : TypeId × Value → H} {P : Program} {W : World} {spare : Nat → Bool} {held : Bool} {e : TypeId} {g0 g1 g2 : Field} {fuel : Nat} {v0 v1 v2 : Value} {x : DataW H × List MemPlace}
    (hs : P.underlying e = some (.struct #[g0, g1, g2])) (o0 : g0.offset = 0) (o1 : g1.offset = 1) (o2 : g2.offset = 2) (c0 : P.cellsOf g0.type = 1) (c1 : P.cellsOf g1.type = 1) (c2 : P.cellsOf g2.type = 1) (u0 : P.underlying g0.type = some (.int .i64)) (u1 : P.underlying g1.type = some (.int .i64)) (u2 : P.underlying g2.type = some .bool)
    (h : DataW.trod enc P W 0 spare held fuel e [v0, v1, v2] = some x) : ∃ (n m : Int) (r : Bool), v0 = .int .i64 n ∧ v1 = .int .i64 m ∧ v2 = .bool r := by
  obtain ⟨xs, k, hk, hxy, _, hxl, hf⟩ := DataW.trod_struct hs h
  match xs, hxl with
  | [y0, y1, y2], _ =>
    have G0 := hf 0 g0 rfl
    have G1 := hf 1 g1 rfl
    have G2 := hf 2 g2 rfl
    simp [o0, o1, o2, c0, c1, c2] at G0 G1 G2
    obtain ⟨q0, r0, _, _⟩ := DataW.trod_int u0 G0
    obtain ⟨q1, r1, _, _⟩ := DataW.trod_int u1 G1
    obtain ⟨q2, r2, _⟩ := DataW.trod_bool u2 G2
    simp at r0 r1 r2
    exact ⟨q0, q1, q2, r0, r1, r2⟩
set_option maxHeartbeats 1000000 in
theorem rw_cells_get (q : Rw) (j : Nat) (v : Value) (h : q.cells[j]? = some v) : (j = 0 ∧ v = .int .i64 q.step) ∨ (j = 1 ∧ v = .int .i64 q.thread) ∨ (j = 2 ∧ v = .int .i64 q.job) ∨ (j = 3 ∧ v = .int .i64 q.try_) ∨ (j = 4 ∧ v = .int .i64 q.no) ∨ (j = 5 ∧ v = .int .i64 q.kind) ∨ (j = 6 ∧ v = .int .i64 q.phase) ∨ (j = 7 ∧ v = .int .i64 q.object) ∨ (j = 8 ∧ v = .int .i64 q.entry) ∨ (j = 9 ∧ v = .int .i64 q.enemy) ∨ (j = 10 ∧ v = .int .i64 q.cell) ∨ (j = 11 ∧ v = .int .i64 q.seen) ∨ (j = 12 ∧ v = .int .i64 q.wrote) ∨ (j = 13 ∧ v = .bool q.done) ∨ (j = 14 ∧ v = .bool q.abort) ∨ (j = 15 ∧ v = .bool q.timeout) ∨ (j = 16 ∧ v = .int .i64 q.wait) ∨ (j = 17 ∧ v = .bool q.told) ∨ (j = 18 ∧ v = .int .i64 q.vN) ∨ (j = 19 ∧ v = .int .i64 q.vX) ∨ (j = 20 ∧ v = .bool q.vD) ∨ (j = 21 ∧ v = .bool q.puts) ∨ (j = 22 ∧ v = .int .i64 q.pN) ∨ (j = 23 ∧ v = .int .i64 q.pX) ∨ (j = 24 ∧ v = .bool q.pD) ∨ (j = 25 ∧ v = .int .i64 q.fin) := by
  have hj : j < 26 := (List.getElem?_eq_some_iff.1 h).1
  rcases (by omega : j = 0 ∨ j = 1 ∨ j = 2 ∨ j = 3 ∨ j = 4 ∨ j = 5 ∨ j = 6 ∨ j = 7 ∨ j = 8 ∨ j = 9 ∨ j = 10 ∨ j = 11 ∨ j = 12 ∨ j = 13 ∨ j = 14 ∨ j = 15 ∨ j = 16 ∨ j = 17 ∨ j = 18 ∨ j = 19 ∨ j = 20 ∨ j = 21 ∨ j = 22 ∨ j = 23 ∨ j = 24 ∨ j = 25) with rfl | rfl | rfl | rfl | rfl | rfl | rfl | rfl | rfl | rfl | rfl | rfl | rfl | rfl | rfl | rfl | rfl | rfl | rfl | rfl | rfl | rfl | rfl | rfl | rfl | rfl <;> (simp [Rw.cells] at h; simp [h])
end Go.Proofs.Ytmnmphkkcabkiaa

namespace Go.Proofs.Ytmnmphkkcabkiaa
open Go.RowKit Go.Deep Go.ChangeShapes Go.WideShapes Go.ChangeAt
structure R64 (q : Rw) : Prop where
  o : I64 q.object
  e : I64 q.entry
  s : I64 q.seen
  t : I64 q.thread
theorem life64 : ∀ q ∈ lifeL, R64 q := by
  intro q hq
  simp only [lifeL, List.mem_cons, List.not_mem_nil, or_false] at hq
  rcases hq with rfl | rfl | rfl | rfl | rfl | rfl <;> exact ⟨by constructor <;> decide, by constructor <;> decide, by constructor <;> decide, by constructor <;> decide⟩
theorem r64_at {l : List Rw} (h : ∀ q ∈ l, R64 q) (k : Nat) (hk : k < l.length) : R64 (l.getD k rw0) := by
  have e : l.getD k rw0 = l[k] := by rw [List.getD_eq_getElem?_getD, List.getElem?_eq_getElem hk]; rfl
  rw [e]
  exact h _ (List.getElem_mem hk)
set_option maxHeartbeats 4000000 in
set_option maxRecDepth 100000 in
theorem open_rows64 {H : Type} {enc : TypeId × Value → H} {P : Program} {W : World} {spare : Nat → Bool} {held : Bool} {t e eo : TypeId} {f0 f1 f2 f3 f4 f5 f6 f7 f8 f9 f10 f11 f12 f13 f14 f15 f16 f17 f18 f19 f20 f21 g0 g1 g2 : Field} {fuel : Nat} {a : Option Addr} {len cap : Nat} {x : DataW H × List MemPlace}
    (ht : P.underlying t = some (.slice e)) (hs : P.underlying e = some (.struct #[f0, f1, f2, f3, f4, f5, f6, f7, f8, f9, f10, f11, f12, f13, f14, f15, f16, f17, f18, f19, f20, f21])) (ho : P.underlying eo = some (.struct #[g0, g1, g2])) (ce : P.cellsOf e = 26)
    (o0 : f0.offset = 0) (o1 : f1.offset = 1) (o2 : f2.offset = 2) (o3 : f3.offset = 3) (o4 : f4.offset = 4) (o5 : f5.offset = 5) (o6 : f6.offset = 6) (o7 : f7.offset = 7) (o8 : f8.offset = 8) (o9 : f9.offset = 9) (o10 : f10.offset = 10) (o11 : f11.offset = 11) (o12 : f12.offset = 12) (o13 : f13.offset = 13) (o14 : f14.offset = 14) (o15 : f15.offset = 15) (o16 : f16.offset = 16) (o17 : f17.offset = 17) (o18 : f18.offset = 18) (o19 : f19.offset = 21) (o20 : f20.offset = 22) (o21 : f21.offset = 25) (c0 : P.cellsOf f0.type = 1) (c1 : P.cellsOf f1.type = 1) (c2 : P.cellsOf f2.type = 1) (c3 : P.cellsOf f3.type = 1) (c4 : P.cellsOf f4.type = 1) (c5 : P.cellsOf f5.type = 1) (c6 : P.cellsOf f6.type = 1) (c7 : P.cellsOf f7.type = 1) (c8 : P.cellsOf f8.type = 1) (c9 : P.cellsOf f9.type = 1) (c10 : P.cellsOf f10.type = 1) (c11 : P.cellsOf f11.type = 1) (c12 : P.cellsOf f12.type = 1) (c13 : P.cellsOf f13.type = 1) (c14 : P.cellsOf f14.type = 1) (c15 : P.cellsOf f15.type = 1) (c16 : P.cellsOf f16.type = 1) (c17 : P.cellsOf f17.type = 1) (c18 : P.cellsOf f18.type = 3) (c19 : P.cellsOf f19.type = 1) (c20 : P.cellsOf f20.type = 3) (c21 : P.cellsOf f21.type = 1) (u0 : P.underlying f0.type = some (.int .i64)) (u1 : P.underlying f1.type = some (.int .i64)) (u2 : P.underlying f2.type = some (.int .i64)) (u3 : P.underlying f3.type = some (.int .i64)) (u4 : P.underlying f4.type = some (.int .i64)) (u5 : P.underlying f5.type = some (.int .i64)) (u6 : P.underlying f6.type = some (.int .i64)) (u7 : P.underlying f7.type = some (.int .i64)) (u8 : P.underlying f8.type = some (.int .i64)) (u9 : P.underlying f9.type = some (.int .i64)) (u10 : P.underlying f10.type = some (.int .i64)) (u11 : P.underlying f11.type = some (.int .i64)) (u12 : P.underlying f12.type = some (.int .i64)) (u13 : P.underlying f13.type = some .bool) (u14 : P.underlying f14.type = some .bool) (u15 : P.underlying f15.type = some .bool) (u16 : P.underlying f16.type = some (.int .i64)) (u17 : P.underlying f17.type = some .bool) (t18 : f18.type = eo) (u19 : P.underlying f19.type = some .bool) (t20 : f20.type = eo) (u21 : P.underlying f21.type = some (.int .i64))
    (p0 : g0.offset = 0) (p1 : g1.offset = 1) (p2 : g2.offset = 2) (d0 : P.cellsOf g0.type = 1) (d1 : P.cellsOf g1.type = 1) (d2 : P.cellsOf g2.type = 1) (v0 : P.underlying g0.type = some (.int .i64)) (v1 : P.underlying g1.type = some (.int .i64)) (v2 : P.underlying g2.type = some .bool)
    (h : DataW.trod enc P W 0 spare held fuel t [.slice a len cap] = some x) : ∃ l : List Rw, l.length = len ∧ RSL W a l ∧ (∀ q ∈ l, R64 q) ∧ (len = 0 ∨ ∃ es ss, x.1 = .slice es ss ∧ len ≤ es.length + ss.length) := by
  by_cases h0 : len = 0
  · subst h0
    exact ⟨[], rfl, fun i hi => (by simp at hi), fun q hq => absurd hq (by simp), .inl rfl⟩
  rcases open_slice ht h with ⟨hcs, _⟩ | ⟨a', len', cap', m, n, D, Pl, hcs, hb, hl, hm, hmm, rfl, hx⟩
  · simp at hcs; omega
  simp at hcs
  obtain ⟨rfl, rfl, rfl⟩ := hcs
  have hlm : len ≤ m := by rw [hmm]; split <;> omega
  have each : ∀ i, i < len → ∃ q : Rw, R64 q ∧ ∀ j v, q.cells[j]? = some v → W.cell? (a'.add (i * 26 + j)) = some v := by
    intro i hi
    obtain ⟨cs', h1, h2⟩ := hx i (by omega)
    rw [ce] at h1
    obtain ⟨_, hlen, hcell⟩ := World.cells?_some h1
    obtain ⟨xs, k, hk, hxy, _, hxl, hf⟩ := DataW.trod_struct hs h2
    match xs, hxl, cs', hlen with
    | [y0, y1, y2, y3, y4, y5, y6, y7, y8, y9, y10, y11, y12, y13, y14, y15, y16, y17, y18, y19, y20, y21], _, [z0, z1, z2, z3, z4, z5, z6, z7, z8, z9, z10, z11, z12, z13, z14, z15, z16, z17, z18, z19, z20, z21, z22, z23, z24, z25], _ =>
      have G := hf 0 f0 rfl
      simp [o0, c0] at G
      obtain ⟨q0, r0, _, _⟩ := DataW.trod_int u0 G
      simp at r0
      clear G
      have G := hf 1 f1 rfl
      simp [o1, c1] at G
      obtain ⟨q1, r1, _, w1⟩ := DataW.trod_int u1 G
      simp at r1
      clear G
      have G := hf 2 f2 rfl
      simp [o2, c2] at G
      obtain ⟨q2, r2, _, _⟩ := DataW.trod_int u2 G
      simp at r2
      clear G
      have G := hf 3 f3 rfl
      simp [o3, c3] at G
      obtain ⟨q3, r3, _, _⟩ := DataW.trod_int u3 G
      simp at r3
      clear G
      have G := hf 4 f4 rfl
      simp [o4, c4] at G
      obtain ⟨q4, r4, _, _⟩ := DataW.trod_int u4 G
      simp at r4
      clear G
      have G := hf 5 f5 rfl
      simp [o5, c5] at G
      obtain ⟨q5, r5, _, _⟩ := DataW.trod_int u5 G
      simp at r5
      clear G
      have G := hf 6 f6 rfl
      simp [o6, c6] at G
      obtain ⟨q6, r6, _, _⟩ := DataW.trod_int u6 G
      simp at r6
      clear G
      have G := hf 7 f7 rfl
      simp [o7, c7] at G
      obtain ⟨q7, r7, _, w7⟩ := DataW.trod_int u7 G
      simp at r7
      clear G
      have G := hf 8 f8 rfl
      simp [o8, c8] at G
      obtain ⟨q8, r8, _, w8⟩ := DataW.trod_int u8 G
      simp at r8
      clear G
      have G := hf 9 f9 rfl
      simp [o9, c9] at G
      obtain ⟨q9, r9, _, _⟩ := DataW.trod_int u9 G
      simp at r9
      clear G
      have G := hf 10 f10 rfl
      simp [o10, c10] at G
      obtain ⟨q10, r10, _, _⟩ := DataW.trod_int u10 G
      simp at r10
      clear G
      have G := hf 11 f11 rfl
      simp [o11, c11] at G
      obtain ⟨q11, r11, _, w11⟩ := DataW.trod_int u11 G
      simp at r11
      clear G
      have G := hf 12 f12 rfl
      simp [o12, c12] at G
      obtain ⟨q12, r12, _, _⟩ := DataW.trod_int u12 G
      simp at r12
      clear G
      have G := hf 13 f13 rfl
      simp [o13, c13] at G
      obtain ⟨q13, r13, _⟩ := DataW.trod_bool u13 G
      simp at r13
      clear G
      have G := hf 14 f14 rfl
      simp [o14, c14] at G
      obtain ⟨q14, r14, _⟩ := DataW.trod_bool u14 G
      simp at r14
      clear G
      have G := hf 15 f15 rfl
      simp [o15, c15] at G
      obtain ⟨q15, r15, _⟩ := DataW.trod_bool u15 G
      simp at r15
      clear G
      have G := hf 16 f16 rfl
      simp [o16, c16] at G
      obtain ⟨q16, r16, _, _⟩ := DataW.trod_int u16 G
      simp at r16
      clear G
      have G := hf 17 f17 rfl
      simp [o17, c17] at G
      obtain ⟨q17, r17, _⟩ := DataW.trod_bool u17 G
      simp at r17
      clear G
      have G := hf 18 f18 rfl
      simp [o18, c18] at G
      rw [t18] at G
      obtain ⟨q18, q19, q20, r18, r19, r20⟩ := open_val ho p0 p1 p2 d0 d1 d2 v0 v1 v2 G
      clear G
      have G := hf 19 f19 rfl
      simp [o19, c19] at G
      obtain ⟨q21, r21, _⟩ := DataW.trod_bool u19 G
      simp at r21
      clear G
      have G := hf 20 f20 rfl
      simp [o20, c20] at G
      rw [t20] at G
      obtain ⟨q22, q23, q24, r22, r23, r24⟩ := open_val ho p0 p1 p2 d0 d1 d2 v0 v1 v2 G
      clear G
      have G := hf 21 f21 rfl
      simp [o21, c21] at G
      obtain ⟨q25, r25, _, _⟩ := DataW.trod_int u21 G
      simp at r25
      clear G
      refine ⟨⟨q0, q1, q2, q3, q4, q5, q6, q7, q8, q9, q10, q11, q12, q13, q14, q15, q16, q17, q18, q19, q20, q21, q22, q23, q24, q25⟩, ⟨i64_of_wf w7, i64_of_wf w8, i64_of_wf w11, i64_of_wf w1⟩, fun j v hv => ?_⟩
      have hj : j < 26 := (List.getElem?_eq_some_iff.1 hv).1
      have cj := hcell j (by omega)
      rw [add_add] at cj
      rw [cj]
      clear hf hcell cj h2 h1 hx hxl
      have g := rw_cells_get _ j v hv
      simp only at g
      rcases g with ⟨rfl, rfl⟩ | ⟨rfl, rfl⟩ | ⟨rfl, rfl⟩ | ⟨rfl, rfl⟩ | ⟨rfl, rfl⟩ | ⟨rfl, rfl⟩ | ⟨rfl, rfl⟩ | ⟨rfl, rfl⟩ | ⟨rfl, rfl⟩ | ⟨rfl, rfl⟩ | ⟨rfl, rfl⟩ | ⟨rfl, rfl⟩ | ⟨rfl, rfl⟩ | ⟨rfl, rfl⟩ | ⟨rfl, rfl⟩ | ⟨rfl, rfl⟩ | ⟨rfl, rfl⟩ | ⟨rfl, rfl⟩ | ⟨rfl, rfl⟩ | ⟨rfl, rfl⟩ | ⟨rfl, rfl⟩ | ⟨rfl, rfl⟩ | ⟨rfl, rfl⟩ | ⟨rfl, rfl⟩ | ⟨rfl, rfl⟩ | ⟨rfl, rfl⟩
      · rw [r0]; rfl
      · rw [r1]; rfl
      · rw [r2]; rfl
      · rw [r3]; rfl
      · rw [r4]; rfl
      · rw [r5]; rfl
      · rw [r6]; rfl
      · rw [r7]; rfl
      · rw [r8]; rfl
      · rw [r9]; rfl
      · rw [r10]; rfl
      · rw [r11]; rfl
      · rw [r12]; rfl
      · rw [r13]; rfl
      · rw [r14]; rfl
      · rw [r15]; rfl
      · rw [r16]; rfl
      · rw [r17]; rfl
      · rw [r18]; rfl
      · rw [r19]; rfl
      · rw [r20]; rfl
      · rw [r21]; rfl
      · rw [r22]; rfl
      · rw [r23]; rfl
      · rw [r24]; rfl
      · rw [r25]; rfl
  obtain ⟨b, off, spot⟩ := a'
  obtain ⟨q00, -, z00⟩ := each 0 (by omega)
  have z0' := z00 0 _ rfl
  have hspot : spot = none := by simpa [Addr.add] using World.cell?_spot z0'
  subst hspot
  obtain ⟨V, hV⟩ := choose_lt each
  have ha : ∀ i, i < len → ((List.range len).map V).getD i rw0 = V i := fun i hi => by simp [List.getD_eq_getElem?_getD, hi]
  refine ⟨(List.range len).map V, by simp, fun i hi => ⟨b, off, rfl, fun j v hv => ?_⟩, fun q hq => ?_, .inr ⟨_, _, rfl, by simp⟩⟩
  rotate_left
  · simp at hq
    obtain ⟨i, hi, rfl⟩ := hq
    exact (hV i hi).1
  simp at hi
  rw [ha i hi] at hv
  have := (hV i hi).2 j v hv
  rw [add_at] at this
  rw [Nat.add_assoc]
  exact this
end Go.Proofs.Ytmnmphkkcabkiaa

namespace Go.Proofs.Ytmnmphkkcabkiaa
open Go.RowKit Go.Deep Go.ChangeShapes Go.WideShapes Go.ChangeAt
instance : Inhabited V3 := ⟨v30⟩
theorem open_vs {H : Type} {enc : TypeId × Value → H} {P : Program} {W : World} {spare : Nat → Bool} {held : Bool} {t e : TypeId} {f0 f1 f2 : Field} {fuel : Nat} {a : Option Addr} {len cap : Nat} {x : DataW H × List MemPlace}
    (ht : P.underlying t = some (.slice e)) (hs : P.underlying e = some (.struct #[f0, f1, f2])) (ce : P.cellsOf e = 3) (o0 : f0.offset = 0) (o1 : f1.offset = 1) (o2 : f2.offset = 2)
    (c0 : P.cellsOf f0.type = 1) (c1 : P.cellsOf f1.type = 1) (c2 : P.cellsOf f2.type = 1) (u0 : P.underlying f0.type = some (.int .i64)) (u1 : P.underlying f1.type = some (.int .i64)) (u2 : P.underlying f2.type = some .bool)
    (h : DataW.trod enc P W 0 spare held fuel t [.slice a len cap] = some x) : ∃ F : Nat → V3, VS W a len F ∧ (len = 0 ∨ ∃ es ss, x.1 = .slice es ss ∧ len ≤ es.length + ss.length) := by
  by_cases h0 : len = 0
  · subst h0
    exact ⟨fun _ => v30, fun i hi => absurd hi (Nat.not_lt_zero _), .inl rfl⟩
  rcases open_slice ht h with ⟨hcs, _⟩ | ⟨a', len', cap', m, n, D, Pl, hcs, hb, hl, hm, hmm, rfl, hx⟩
  · simp at hcs; omega
  simp at hcs
  obtain ⟨rfl, rfl, rfl⟩ := hcs
  have hlm : len ≤ m := by rw [hmm]; split <;> omega
  have each : ∀ i, i < len → ∃ q : V3, W.cell? (a'.add (i * 3)) = some (.int .i64 q.num) ∧ W.cell? (a'.add (i * 3 + 1)) = some (.int .i64 q.next) ∧ W.cell? (a'.add (i * 3 + 2)) = some (.bool q.dead) := by
    intro i hi
    obtain ⟨cs', h1, h2⟩ := hx i (by omega)
    rw [ce] at h1
    obtain ⟨_, hlen, hcell⟩ := World.cells?_some h1
    obtain ⟨xs, k, hk, hxy, _, hxl, hf⟩ := DataW.trod_struct hs h2
    match xs, hxl, cs', hlen with
    | [y0, y1, y2], _, [v0, v1, v2], _ =>
      have g0 := hf 0 f0 rfl
      have g1 := hf 1 f1 rfl
      have g2 := hf 2 f2 rfl
      simp [o0, o1, o2, c0, c1, c2] at g0 g1 g2
      have e0 := hcell 0 (by omega)
      have e1 := hcell 1 (by omega)
      have e2 := hcell 2 (by omega)
      rw [add_add] at e0 e1 e2
      obtain ⟨q0, r0, _, w0⟩ := DataW.trod_int u0 g0
      obtain ⟨q1, r1, _, w1⟩ := DataW.trod_int u1 g1
      obtain ⟨q2, r2, _⟩ := DataW.trod_bool u2 g2
      simp at r0 r1 r2
      subst r0 r1 r2
      exact ⟨⟨q0, q1, q2⟩, by simpa using e0, by simpa using e1, by simpa using e2⟩
  obtain ⟨b, off, spot⟩ := a'
  obtain ⟨_, z0, _⟩ := each 0 (by omega)
  have hspot : spot = none := by simpa [Addr.add] using World.cell?_spot z0
  subst hspot
  obtain ⟨V, hV⟩ := choose_lt each
  refine ⟨V, fun i hi => ⟨b, off, rfl, fun j v hv => ?_⟩, .inr ⟨_, _, rfl, by simp⟩⟩
  obtain ⟨z0, z1, z2⟩ := hV i hi
  have hj : j < 3 := (List.getElem?_eq_some_iff.1 hv).1
  rcases (by omega : j = 0 ∨ j = 1 ∨ j = 2) with rfl | rfl | rfl
  · have hv : Value.int .i64 (V i).num = v := by simpa [V3.cells] using hv
    rw [← hv]
    simpa [add_at, Nat.add_assoc] using z0
  · have hv : Value.int .i64 (V i).next = v := by simpa [V3.cells] using hv
    rw [← hv]
    simpa [add_at, Nat.add_assoc] using z1
  · have hv : Value.bool (V i).dead = v := by simpa [V3.cells] using hv
    rw [← hv]
    simpa [add_at, Nat.add_assoc] using z2
def NS (w : World) (a : Option Addr) (n : Nat) (z : Nat → Int) : Prop := ∀ i, i < n → ∃ b off, a = some ⟨b, off, none⟩ ∧ w.cell? ⟨b, off + i, none⟩ = some (.int .i64 (z i))
theorem open_ns {H : Type} {enc : TypeId × Value → H} {P : Program} {W : World} {spare : Nat → Bool} {held : Bool} {t e : TypeId} {fuel : Nat} {a : Option Addr} {len cap : Nat} {x : DataW H × List MemPlace} (ht : P.underlying t = some (.slice e)) (he : P.underlying e = some (.int .i64)) (hc : P.cellsOf e = 1)
    (h : DataW.trod enc P W 0 spare held fuel t [.slice a len cap] = some x) : ∃ z : Nat → Int, NS W a len z ∧ (len = 0 ∨ ∃ es ss, x.1 = .slice es ss ∧ len ≤ es.length + ss.length) := by
  by_cases h0 : len = 0
  · subst h0
    exact ⟨fun _ => 0, fun i hi => absurd hi (Nat.not_lt_zero _), .inl rfl⟩
  rcases open_slice ht h with ⟨hcs, _⟩ | ⟨a', len', cap', m, n, D, Pl, hcs, hb, hl, hm, hmm, rfl, hx⟩
  · simp at hcs; omega
  simp at hcs
  obtain ⟨rfl, rfl, rfl⟩ := hcs
  have hlm : len ≤ m := by rw [hmm]; split <;> omega
  have each : ∀ i, i < len → ∃ q : Int, W.cell? (a'.add i) = some (.int .i64 q) := by
    intro i hi
    obtain ⟨cs', h1, h2⟩ := hx i (by omega)
    rw [hc] at h1
    obtain ⟨_, hlen, hcell⟩ := World.cells?_some h1
    match cs', hlen with
    | [v0], _ =>
      obtain ⟨q0, r0, _, w0⟩ := DataW.trod_int he h2
      simp at r0
      subst r0
      have e0 := hcell 0 (by omega)
      rw [add_add] at e0
      exact ⟨q0, by simpa using e0⟩
  obtain ⟨b, off, spot⟩ := a'
  obtain ⟨_, z0⟩ := each 0 (by omega)
  have hspot : spot = none := by simpa [Addr.add] using World.cell?_spot z0
  subst hspot
  obtain ⟨V, hV⟩ := choose_lt each
  exact ⟨V, fun i hi => ⟨b, off, rfl, by simpa [add_at] using hV i hi⟩, .inr ⟨_, _, rfl, by simp⟩⟩
end Go.Proofs.Ytmnmphkkcabkiaa

namespace Go.Proofs.Ytmnmphkkcabkiaa
open Go.RowKit
def fLaw : Nat → V3 := fun i => if i = 0 then ⟨1, 0, false⟩ else if i = 1 then ⟨0, 0, false⟩ else ⟨0, 0, true⟩
theorem NS.keep {w w' : World} {a : Option Addr} {n : Nat} {z : Nat → Int} (h : NS w a n z) (k : Keeps (fun _ => False) w w') : NS w' a n z := fun i hi => by
  obtain ⟨b, off, e, hc⟩ := h i hi
  exact ⟨b, off, e, k.cell hc (fun e => e)⟩
theorem vs_law (w : World) : VS (w.alloc (.cells (gvl fLaw 3).toArray 27)) (some ⟨w.heap.size, 0, none⟩) 3 fLaw := fun i hi => ⟨w.heap.size, 0, rfl, fun j v hv => by
  rw [Nat.zero_add]
  exact (CL.made w (gvl fLaw 3) 27).c _ _ (gvl_get hi j v hv)⟩
set_option maxHeartbeats 1000000 in
set_option maxRecDepth 100000 in
theorem hat_any {w : World} {fa a sa : Option Addr} {n fc cap ns sc : Nat} {l : List Rw} {F0 : Nat → V3} {z : Nat → Int} (hv : VS w fa n F0) (hfn : n ≤ 5864062014805) (hz : fa = none → fc = 0) (hl : RSL w a l) (h64 : ∀ q ∈ l, R64 q) (hn : l.length ≤ 733007751829) (hza : a = none → cap = 0) (hcap : l.length ≤ cap) (hs : NS w sa ns z) (hns : ns ≤ 17592186044416) :
    Calls Try.prog 3 #[.slice fa n fc, .slice a l.length cap, .slice sa ns sc] w fun e w' => e = .returned (.bool true) ∧ Below w.heap.size w w' := by
  have HAT : Hid (∀ W s, Keeps (fun _ => False) w W → Calls Try.prog 6 #[.slice fa n fc, .slice a l.length cap, .int .i64 s] W fun e w' => e = .returned (.bool true) ∧ Keeps (fun _ => False) W w') := fun W s k => law_at (hl.keep k) (by omega) hcap hza (fun k hk => ⟨(r64_at h64 k hk).o, (r64_at h64 k hk).e⟩) (hv.keep k) hz (by omega)
  have HSS : Hid (NS w sa ns z) := hs
  clear hv hz hl h64 hza hcap hs
  generalize l.length = N at *
  obtain ⟨ie, hie, hz0, hz1, -⟩ := iVals
  go_enter Try.func3, Try.ntmps3
  go_wp2_with fail
  go_loopw [7] (fun sv Wr => ∃ (s : Int), sv = .int .i64 s ∧ -2 ≤ s ∧ s ≤ 7 ∧ Keeps (fun _ => False) w Wr) (fun sv _ => (7 - intOf sv).toNat)
  case atStart => exact ⟨-2, rfl, by omega, by omega, Keeps.refl _ _⟩
  case round =>
    obtain ⟨s, rfl, hs1, hs2, kr⟩ := hrel
    by_cases h6 : s ≤ 6
    · have d6 : decide (s ≤ 6) = true := decide_eq_true h6
      have hws : IntKind.i64.wrap (s + 1) = s + 1 := by rw [IntKind.wrap_i64]; omega
      obtain ⟨W1, hW1⟩ : ∃ W1, W1 = wr.alloc (.cells (gvl fLaw 3).toArray 27) := ⟨_, rfl⟩
      have hv1 : VS W1 (some ⟨wr.heap.size, 0, none⟩) 3 fLaw := by rw [hW1]; exact vs_law wr
      have k1 : Keeps (fun _ => False) wr W1 := by rw [hW1]; exact (Keeps.refl _ wr).alloc _
      have hlf := life_any6 W1
      have HW1 : Hid (W1 = wr.alloc (.cells (gvl fLaw 3).toArray 27)) := hW1
      clear hW1
      go_wp2_with (first | (refine wpList_buildSlice rfl 22 27 3 _ rfl (gvl fLaw 3).toArray ie _ uVals hie hz0 (by rw [hz1]; decide) (by rw [hz1]; decide) (by rw [hz1]; kernel_rfl) ?_; (try simp only [Act.put, List.setIfInBounds_toArray, List.set_cons_zero, List.set_cons_succ]); rw [← HW1.out]; clear HW1) | (go_at_call 7; refine hlf.mono ?_; clear hlf; rintro e w2 ⟨l2, a2, c2, rfl, ⟨hl6, hl7, hl8⟩, hr2, hz2, k2⟩; have hat := law_at (cap := c2) (s := s) hr2 (by omega) (by omega) hz2 (fun k hk => by rw [hl7] at hk ⊢; exact ⟨(r64_at life64 k hk).o, (r64_at life64 k hk).e⟩) (hv1.keep k2) (fun e => by cases e) (by omega) (fc := 3); clear hl6 hl7 hl8 hr2 hz2; generalize l2.length = M2 at *) | (go_at_call 6; refine hat.mono ?_; clear hat; rintro e w3 ⟨rfl, k3⟩))
      go_roundw
      case rel => exact ⟨s + 1, by go_num, by omega, by omega, ((kr.trans k1).trans k2).trans k3⟩
      case measure => simp [intOf]; omega
    · have d6 : decide (s ≤ 6) = false := decide_eq_false h6
      go_wp2_with fail
      go_loopw [8, 9, 24] (fun _ _ iv Wr => ∃ (k : Nat), iv = .int .i64 (k : Int) ∧ k ≤ ns ∧ Keeps (fun _ => False) w Wr) (fun _ _ iv _ => ns - (intOf iv).toNat)
      case atStart => exact ⟨0, rfl, Nat.zero_le _, kr⟩
      case round =>
        clear kr
        obtain ⟨k, rfl, hk, kr⟩ := hrel
        by_cases hkn : k < ns
        · have l1 : decide ((k : Int) < (ns : Int)) = true := decide_eq_true (by omega)
          have l2 : (k : Int) < (ns : Int) := by omega
          have l3 : (0 : Int) ≤ (k : Int) := by omega
          have l4 : decide (k < ns) = true := decide_eq_true hkn
          have hwk : IntKind.i64.wrap ((k : Int) + 1) = (k : Int) + 1 := by rw [IntKind.wrap_i64]; omega
          obtain ⟨b, off, rfl, hc⟩ := HSS.out k hkn
          have d0 := kr.cell hc (fun e => e)
          have hat := HAT.out wr (z k) kr
          by_cases h20 : k < 20
          · have t1 : decide ((k : Int) < 20) = true := decide_eq_true (by omega)
            have t2 : decide (k < 20) = true := decide_eq_true h20
            go_wp2_with (go_at_call 6; refine hat.mono ?_; clear hat; rintro e w3 ⟨rfl, k3⟩)
            go_roundw
            case rel => exact ⟨k + 1, by go_num, by omega, kr.trans k3⟩
            case measure => simp [intOf]; omega
          · have t1 : decide ((k : Int) < 20) = false := decide_eq_false (by omega)
            have t2 : decide (k < 20) = false := decide_eq_false h20
            clear hat
            go_wp2_with fail
            go_roundw
            case rel => exact ⟨k + 1, by go_num, by omega, kr⟩
            case measure => simp [intOf]; omega
        · have l1 : decide ((k : Int) < (ns : Int)) = false := decide_eq_false (by omega)
          have l4 : decide (k < ns) = false := decide_eq_false hkn
          go_wp2_with fail
          go_ret
          exact ⟨rfl, kr.below (Nat.le_refl _) (fun _ _ e => e)⟩
end Go.Proofs.Ytmnmphkkcabkiaa

