import Derived.Test.YtdldhblhbbgloaaLocZ
import Derived.Test.YtdldhblhbbgloaaLocT0
import Derived.Test.YtdldhblhbbgloaaLocOpen
import Derived.Below
namespace Go.Proofs.Ytdldhblhbbgloaa
open Go.RowKit Go.Deep Go.ChangeShapes Go.WideShapes Go.ChangeAt
/-- A step that was handed in. -/
theorem open_op5 {H : Type} {enc : TypeId × Value → H} {P : Program} {W : World} {base : Nat} {spare : Nat → Bool} {held : Bool} {r : Reach} {b0 : Nat} {e : TypeId} {f0 f1 f2 f3 f4 f5 g0 g1 g2 : Field} {v : Value} {d : DataW H} {ps : List MemPlace}
    (hs : P.underlying e = some (.struct #[f0, f1, f2, f3, f4, f5])) (ce : P.cellsOf e = 8) (hv : P.underlying f4.type = some (.struct #[g0, g1, g2]))
    (o0 : f0.offset = 0) (o1 : f1.offset = 1) (o2 : f2.offset = 2) (o3 : f3.offset = 3) (o4 : f4.offset = 4) (o5 : f5.offset = 7) (p0 : g0.offset = 0) (p1 : g1.offset = 1) (p2 : g2.offset = 2)
    (c0 : P.cellsOf f0.type = 1) (c1 : P.cellsOf f1.type = 1) (c2 : P.cellsOf f2.type = 1) (c3 : P.cellsOf f3.type = 1) (c4 : P.cellsOf f4.type = 3) (c5 : P.cellsOf f5.type = 1) (d0 : P.cellsOf g0.type = 1) (d1 : P.cellsOf g1.type = 1) (d2 : P.cellsOf g2.type = 1)
    (u0 : P.underlying f0.type = some (.int .i64)) (u1 : P.underlying f1.type = some (.int .i64)) (u2 : P.underlying f2.type = some (.int .i64)) (u3 : P.underlying f3.type = some (.int .i64)) (u5 : P.underlying f5.type = some .bool) (y0 : P.underlying g0.type = some (.int .i64)) (y1 : P.underlying g1.type = some (.int .i64)) (y2 : P.underlying g2.type = some .bool)
    (hval : Value.okWide P W r b0 e v) (hd : DataW.Trod enc P W base spare held e v d ps) : ∃ q : Oq, v = opv q := by
  obtain ⟨cs, rfl, hsz⟩ := okWide_struct hs hval
  rw [ce] at hsz
  obtain ⟨fuel, h2⟩ := hd
  obtain ⟨xs, k, hk, hxy, _, hxl, hf⟩ := DataW.trod_struct hs h2
  obtain ⟨cl⟩ := cs
  simp only [List.size_toArray] at hsz
  match xs, hxl, cl, hsz with
  | [z0, z1, z2, z3, z4, z5], _, [v0, v1, v2, v3, v4, v5, v6, v7], _ =>
    have g0' := hf 0 f0 rfl
    have g1' := hf 1 f1 rfl
    have g2' := hf 2 f2 rfl
    have g3' := hf 3 f3 rfl
    have g4' := hf 4 f4 rfl
    have g5' := hf 5 f5 rfl
    simp [Value.cells, o0, o1, o2, o3, o4, o5, c0, c1, c2, c3, c4, c5] at g0' g1' g2' g3' g4' g5'
    obtain ⟨xs2, k2, _, _, _, hxl2, hf2⟩ := DataW.trod_struct hv g4'
    match xs2, hxl2 with
    | [t0, t1, t2], _ =>
      have j0 := hf2 0 g0 rfl
      have j1 := hf2 1 g1 rfl
      have j2 := hf2 2 g2 rfl
      simp [p0, p1, p2, d0, d1, d2] at j0 j1 j2
      obtain ⟨q0, r0, _, w0⟩ := DataW.trod_int u0 g0'
      obtain ⟨q1, r1, _, w1⟩ := DataW.trod_int u1 g1'
      obtain ⟨q2, r2, _, w2⟩ := DataW.trod_int u2 g2'
      obtain ⟨q3, r3, _, w3⟩ := DataW.trod_int u3 g3'
      obtain ⟨q4, r4, _, w4⟩ := DataW.trod_int y0 j0
      obtain ⟨q5, r5, _, w5⟩ := DataW.trod_int y1 j1
      obtain ⟨q6, r6, _⟩ := DataW.trod_bool y2 j2
      obtain ⟨q7, r7, _⟩ := DataW.trod_bool u5 g5'
      simp at r0 r1 r2 r3 r4 r5 r6 r7
      subst r0 r1 r2 r3 r4 r5 r6 r7
      exact ⟨⟨q0, q1, q2, q3, ⟨q4, q5, q6⟩, q7⟩, rfl⟩
set_option maxHeartbeats 6400000 in
set_option maxRecDepth 1000000 in
theorem noneWalk (w : World) (o : Oq) (z : Bool) : Calls Try.prog 6 #[opv o, .bool z] w fun e w' => e = .returned (.bool true) ∧ Below w.heap.size w w' := by
  obtain ⟨w0, hw0⟩ : ∃ w0, w0 = w.alloc (.cells #[.int .i64 o.kind, .int .i64 o.a, .int .i64 o.b, .int .i64 o.c, .int .i64 o.v.num, .int .i64 o.v.next, .bool o.v.dead, .bool o.shut] 30) := ⟨_, rfl⟩
  have K0 : Keeps (fun _ => False) w w0 := by rw [hw0]; exact (Keeps.refl _ w).alloc _
  have b1 : w0.cell? ⟨w.heap.size, 1, none⟩ = some (.int .i64 o.a) := by rw [hw0]; simp
  have b2 : w0.cell? ⟨w.heap.size, 2, none⟩ = some (.int .i64 o.b) := by rw [hw0]; simp
  have b3 : w0.cell? ⟨w.heap.size, 3, none⟩ = some (.int .i64 o.c) := by rw [hw0]; simp
  have b4 : w0.cell? ⟨w.heap.size, 4, none⟩ = some (.int .i64 o.v.num) := by rw [hw0]; simp
  have b5 : w0.cell? ⟨w.heap.size, 5, none⟩ = some (.int .i64 o.v.next) := by rw [hw0]; simp
  have b6 : w0.cell? ⟨w.heap.size, 6, none⟩ = some (.bool o.v.dead) := by rw [hw0]; simp
  have hh := head_any w0
  simp only [opv]
  go_enter Try.func6, Try.ntmps6
  go_wp2_with fail
  rw [← hw0]
  clear hw0
  refine hh.mono ?_
  clear hh
  rintro e w1 ⟨rfl, k0⟩
  cases z with
  | false =>
    have K := k0
    have Z : ZP w0 none := .inl rfl
    clear k0
    go_wp2_with fail
    refine (zObjects (Z.new (by first | exact K | exact K.alloc _))).mono ?_
    rintro e w10 ⟨rfl, k1⟩
    replace K : Keeps (fun _ => False) w0 w10 := by first | exact K.trans k1 | exact (K.alloc _).trans k1
    clear k1
    have f1 := K.cell b1 (fun e => e)
    have f2 := K.cell b2 (fun e => e)
    have f3 := K.cell b3 (fun e => e)
    have f4 := K.cell b4 (fun e => e)
    have f5 := K.cell b5 (fun e => e)
    have f6 := K.cell b6 (fun e => e)
    have h1 : ∀ ob, (w10.alloc ob).cell? ⟨w.heap.size, 1, none⟩ = some (.int .i64 o.a) := fun ob => (K.alloc ob).cell b1 (fun e => e)
    have h2 : ∀ ob, (w10.alloc ob).cell? ⟨w.heap.size, 2, none⟩ = some (.int .i64 o.b) := fun ob => (K.alloc ob).cell b2 (fun e => e)
    have h3 : ∀ ob, (w10.alloc ob).cell? ⟨w.heap.size, 3, none⟩ = some (.int .i64 o.c) := fun ob => (K.alloc ob).cell b3 (fun e => e)
    have h4 : ∀ ob, (w10.alloc ob).cell? ⟨w.heap.size, 4, none⟩ = some (.int .i64 o.v.num) := fun ob => (K.alloc ob).cell b4 (fun e => e)
    have h5 : ∀ ob, (w10.alloc ob).cell? ⟨w.heap.size, 5, none⟩ = some (.int .i64 o.v.next) := fun ob => (K.alloc ob).cell b5 (fun e => e)
    have h6 : ∀ ob, (w10.alloc ob).cell? ⟨w.heap.size, 6, none⟩ = some (.bool o.v.dead) := fun ob => (K.alloc ob).cell b6 (fun e => e)
    go_wp2_with fail
    refine (zCommitted (Z.new (by first | exact K | exact K.alloc _))).mono ?_
    rintro e w11 ⟨⟨ac, rfl⟩, k1⟩
    replace K : Keeps (fun _ => False) w0 w11 := by first | exact K.trans k1 | exact (K.alloc _).trans k1
    clear k1
    replace f1 := K.cell b1 (fun e => e)
    replace f2 := K.cell b2 (fun e => e)
    replace f3 := K.cell b3 (fun e => e)
    replace f4 := K.cell b4 (fun e => e)
    replace f5 := K.cell b5 (fun e => e)
    replace f6 := K.cell b6 (fun e => e)
    replace h1 : ∀ ob, (w11.alloc ob).cell? ⟨w.heap.size, 1, none⟩ = some (.int .i64 o.a) := fun ob => (K.alloc ob).cell b1 (fun e => e)
    replace h2 : ∀ ob, (w11.alloc ob).cell? ⟨w.heap.size, 2, none⟩ = some (.int .i64 o.b) := fun ob => (K.alloc ob).cell b2 (fun e => e)
    replace h3 : ∀ ob, (w11.alloc ob).cell? ⟨w.heap.size, 3, none⟩ = some (.int .i64 o.c) := fun ob => (K.alloc ob).cell b3 (fun e => e)
    replace h4 : ∀ ob, (w11.alloc ob).cell? ⟨w.heap.size, 4, none⟩ = some (.int .i64 o.v.num) := fun ob => (K.alloc ob).cell b4 (fun e => e)
    replace h5 : ∀ ob, (w11.alloc ob).cell? ⟨w.heap.size, 5, none⟩ = some (.int .i64 o.v.next) := fun ob => (K.alloc ob).cell b5 (fun e => e)
    replace h6 : ∀ ob, (w11.alloc ob).cell? ⟨w.heap.size, 6, none⟩ = some (.bool o.v.dead) := fun ob => (K.alloc ob).cell b6 (fun e => e)
    go_wp2_with fail
    refine (zAttempt (Z.new (by first | exact K | exact K.alloc _)) o.a 0 0).mono ?_
    rintro e w12 ⟨rfl, k1⟩
    replace K : Keeps (fun _ => False) w0 w12 := by first | exact K.trans k1 | exact (K.alloc _).trans k1
    clear k1
    replace f1 := K.cell b1 (fun e => e)
    replace f2 := K.cell b2 (fun e => e)
    replace f3 := K.cell b3 (fun e => e)
    replace f4 := K.cell b4 (fun e => e)
    replace f5 := K.cell b5 (fun e => e)
    replace f6 := K.cell b6 (fun e => e)
    replace h1 : ∀ ob, (w12.alloc ob).cell? ⟨w.heap.size, 1, none⟩ = some (.int .i64 o.a) := fun ob => (K.alloc ob).cell b1 (fun e => e)
    replace h2 : ∀ ob, (w12.alloc ob).cell? ⟨w.heap.size, 2, none⟩ = some (.int .i64 o.b) := fun ob => (K.alloc ob).cell b2 (fun e => e)
    replace h3 : ∀ ob, (w12.alloc ob).cell? ⟨w.heap.size, 3, none⟩ = some (.int .i64 o.c) := fun ob => (K.alloc ob).cell b3 (fun e => e)
    replace h4 : ∀ ob, (w12.alloc ob).cell? ⟨w.heap.size, 4, none⟩ = some (.int .i64 o.v.num) := fun ob => (K.alloc ob).cell b4 (fun e => e)
    replace h5 : ∀ ob, (w12.alloc ob).cell? ⟨w.heap.size, 5, none⟩ = some (.int .i64 o.v.next) := fun ob => (K.alloc ob).cell b5 (fun e => e)
    replace h6 : ∀ ob, (w12.alloc ob).cell? ⟨w.heap.size, 6, none⟩ = some (.bool o.v.dead) := fun ob => (K.alloc ob).cell b6 (fun e => e)
    go_wp2_with fail
    refine (zOwner (Z.new (by first | exact K | exact K.alloc _)) o.a).mono ?_
    rintro e w13 ⟨rfl, k1⟩
    replace K : Keeps (fun _ => False) w0 w13 := by first | exact K.trans k1 | exact (K.alloc _).trans k1
    clear k1
    replace f1 := K.cell b1 (fun e => e)
    replace f2 := K.cell b2 (fun e => e)
    replace f3 := K.cell b3 (fun e => e)
    replace f4 := K.cell b4 (fun e => e)
    replace f5 := K.cell b5 (fun e => e)
    replace f6 := K.cell b6 (fun e => e)
    replace h1 : ∀ ob, (w13.alloc ob).cell? ⟨w.heap.size, 1, none⟩ = some (.int .i64 o.a) := fun ob => (K.alloc ob).cell b1 (fun e => e)
    replace h2 : ∀ ob, (w13.alloc ob).cell? ⟨w.heap.size, 2, none⟩ = some (.int .i64 o.b) := fun ob => (K.alloc ob).cell b2 (fun e => e)
    replace h3 : ∀ ob, (w13.alloc ob).cell? ⟨w.heap.size, 3, none⟩ = some (.int .i64 o.c) := fun ob => (K.alloc ob).cell b3 (fun e => e)
    replace h4 : ∀ ob, (w13.alloc ob).cell? ⟨w.heap.size, 4, none⟩ = some (.int .i64 o.v.num) := fun ob => (K.alloc ob).cell b4 (fun e => e)
    replace h5 : ∀ ob, (w13.alloc ob).cell? ⟨w.heap.size, 5, none⟩ = some (.int .i64 o.v.next) := fun ob => (K.alloc ob).cell b5 (fun e => e)
    replace h6 : ∀ ob, (w13.alloc ob).cell? ⟨w.heap.size, 6, none⟩ = some (.bool o.v.dead) := fun ob => (K.alloc ob).cell b6 (fun e => e)
    go_wp2_with fail
    refine (zMake (Z.new (by first | exact K | exact K.alloc _)) o.a o.b).mono ?_
    rintro e w14 ⟨rfl, k1⟩
    replace K : Keeps (fun _ => False) w0 w14 := by first | exact K.trans k1 | exact (K.alloc _).trans k1
    clear k1
    replace f1 := K.cell b1 (fun e => e)
    replace f2 := K.cell b2 (fun e => e)
    replace f3 := K.cell b3 (fun e => e)
    replace f4 := K.cell b4 (fun e => e)
    replace f5 := K.cell b5 (fun e => e)
    replace f6 := K.cell b6 (fun e => e)
    replace h1 : ∀ ob, (w14.alloc ob).cell? ⟨w.heap.size, 1, none⟩ = some (.int .i64 o.a) := fun ob => (K.alloc ob).cell b1 (fun e => e)
    replace h2 : ∀ ob, (w14.alloc ob).cell? ⟨w.heap.size, 2, none⟩ = some (.int .i64 o.b) := fun ob => (K.alloc ob).cell b2 (fun e => e)
    replace h3 : ∀ ob, (w14.alloc ob).cell? ⟨w.heap.size, 3, none⟩ = some (.int .i64 o.c) := fun ob => (K.alloc ob).cell b3 (fun e => e)
    replace h4 : ∀ ob, (w14.alloc ob).cell? ⟨w.heap.size, 4, none⟩ = some (.int .i64 o.v.num) := fun ob => (K.alloc ob).cell b4 (fun e => e)
    replace h5 : ∀ ob, (w14.alloc ob).cell? ⟨w.heap.size, 5, none⟩ = some (.int .i64 o.v.next) := fun ob => (K.alloc ob).cell b5 (fun e => e)
    replace h6 : ∀ ob, (w14.alloc ob).cell? ⟨w.heap.size, 6, none⟩ = some (.bool o.v.dead) := fun ob => (K.alloc ob).cell b6 (fun e => e)
    go_wp2_with fail
    refine (zLocator (Z.new (by first | exact K | exact K.alloc _)) o.a).mono ?_
    rintro e w15 ⟨rfl, k1⟩
    replace K : Keeps (fun _ => False) w0 w15 := by first | exact K.trans k1 | exact (K.alloc _).trans k1
    clear k1
    replace f1 := K.cell b1 (fun e => e)
    replace f2 := K.cell b2 (fun e => e)
    replace f3 := K.cell b3 (fun e => e)
    replace f4 := K.cell b4 (fun e => e)
    replace f5 := K.cell b5 (fun e => e)
    replace f6 := K.cell b6 (fun e => e)
    replace h1 : ∀ ob, (w15.alloc ob).cell? ⟨w.heap.size, 1, none⟩ = some (.int .i64 o.a) := fun ob => (K.alloc ob).cell b1 (fun e => e)
    replace h2 : ∀ ob, (w15.alloc ob).cell? ⟨w.heap.size, 2, none⟩ = some (.int .i64 o.b) := fun ob => (K.alloc ob).cell b2 (fun e => e)
    replace h3 : ∀ ob, (w15.alloc ob).cell? ⟨w.heap.size, 3, none⟩ = some (.int .i64 o.c) := fun ob => (K.alloc ob).cell b3 (fun e => e)
    replace h4 : ∀ ob, (w15.alloc ob).cell? ⟨w.heap.size, 4, none⟩ = some (.int .i64 o.v.num) := fun ob => (K.alloc ob).cell b4 (fun e => e)
    replace h5 : ∀ ob, (w15.alloc ob).cell? ⟨w.heap.size, 5, none⟩ = some (.int .i64 o.v.next) := fun ob => (K.alloc ob).cell b5 (fun e => e)
    replace h6 : ∀ ob, (w15.alloc ob).cell? ⟨w.heap.size, 6, none⟩ = some (.bool o.v.dead) := fun ob => (K.alloc ob).cell b6 (fun e => e)
    go_wp2_with fail
    refine (zVersion (Z.new (by first | exact K | exact K.alloc _)) o.a).mono ?_
    rintro e w16 ⟨rfl, k1⟩
    replace K : Keeps (fun _ => False) w0 w16 := by first | exact K.trans k1 | exact (K.alloc _).trans k1
    clear k1
    replace f1 := K.cell b1 (fun e => e)
    replace f2 := K.cell b2 (fun e => e)
    replace f3 := K.cell b3 (fun e => e)
    replace f4 := K.cell b4 (fun e => e)
    replace f5 := K.cell b5 (fun e => e)
    replace f6 := K.cell b6 (fun e => e)
    replace h1 : ∀ ob, (w16.alloc ob).cell? ⟨w.heap.size, 1, none⟩ = some (.int .i64 o.a) := fun ob => (K.alloc ob).cell b1 (fun e => e)
    replace h2 : ∀ ob, (w16.alloc ob).cell? ⟨w.heap.size, 2, none⟩ = some (.int .i64 o.b) := fun ob => (K.alloc ob).cell b2 (fun e => e)
    replace h3 : ∀ ob, (w16.alloc ob).cell? ⟨w.heap.size, 3, none⟩ = some (.int .i64 o.c) := fun ob => (K.alloc ob).cell b3 (fun e => e)
    replace h4 : ∀ ob, (w16.alloc ob).cell? ⟨w.heap.size, 4, none⟩ = some (.int .i64 o.v.num) := fun ob => (K.alloc ob).cell b4 (fun e => e)
    replace h5 : ∀ ob, (w16.alloc ob).cell? ⟨w.heap.size, 5, none⟩ = some (.int .i64 o.v.next) := fun ob => (K.alloc ob).cell b5 (fun e => e)
    replace h6 : ∀ ob, (w16.alloc ob).cell? ⟨w.heap.size, 6, none⟩ = some (.bool o.v.dead) := fun ob => (K.alloc ob).cell b6 (fun e => e)
    go_wp2_with fail
    refine (zPut (Z.new (by first | exact K | exact K.alloc _)) o.a o.v).mono ?_
    rintro e w17 ⟨rfl, k1⟩
    replace K : Keeps (fun _ => False) w0 w17 := by first | exact K.trans k1 | exact (K.alloc _).trans k1
    clear k1
    replace f1 := K.cell b1 (fun e => e)
    replace f2 := K.cell b2 (fun e => e)
    replace f3 := K.cell b3 (fun e => e)
    replace f4 := K.cell b4 (fun e => e)
    replace f5 := K.cell b5 (fun e => e)
    replace f6 := K.cell b6 (fun e => e)
    replace h1 : ∀ ob, (w17.alloc ob).cell? ⟨w.heap.size, 1, none⟩ = some (.int .i64 o.a) := fun ob => (K.alloc ob).cell b1 (fun e => e)
    replace h2 : ∀ ob, (w17.alloc ob).cell? ⟨w.heap.size, 2, none⟩ = some (.int .i64 o.b) := fun ob => (K.alloc ob).cell b2 (fun e => e)
    replace h3 : ∀ ob, (w17.alloc ob).cell? ⟨w.heap.size, 3, none⟩ = some (.int .i64 o.c) := fun ob => (K.alloc ob).cell b3 (fun e => e)
    replace h4 : ∀ ob, (w17.alloc ob).cell? ⟨w.heap.size, 4, none⟩ = some (.int .i64 o.v.num) := fun ob => (K.alloc ob).cell b4 (fun e => e)
    replace h5 : ∀ ob, (w17.alloc ob).cell? ⟨w.heap.size, 5, none⟩ = some (.int .i64 o.v.next) := fun ob => (K.alloc ob).cell b5 (fun e => e)
    replace h6 : ∀ ob, (w17.alloc ob).cell? ⟨w.heap.size, 6, none⟩ = some (.bool o.v.dead) := fun ob => (K.alloc ob).cell b6 (fun e => e)
    go_wp2_with fail
    refine (zCurrent (Z.new (by first | exact K | exact K.alloc _)) o.a o.b).mono ?_
    rintro e w18 ⟨rfl, k1⟩
    replace K : Keeps (fun _ => False) w0 w18 := by first | exact K.trans k1 | exact (K.alloc _).trans k1
    clear k1
    replace f1 := K.cell b1 (fun e => e)
    replace f2 := K.cell b2 (fun e => e)
    replace f3 := K.cell b3 (fun e => e)
    replace f4 := K.cell b4 (fun e => e)
    replace f5 := K.cell b5 (fun e => e)
    replace f6 := K.cell b6 (fun e => e)
    replace h1 : ∀ ob, (w18.alloc ob).cell? ⟨w.heap.size, 1, none⟩ = some (.int .i64 o.a) := fun ob => (K.alloc ob).cell b1 (fun e => e)
    replace h2 : ∀ ob, (w18.alloc ob).cell? ⟨w.heap.size, 2, none⟩ = some (.int .i64 o.b) := fun ob => (K.alloc ob).cell b2 (fun e => e)
    replace h3 : ∀ ob, (w18.alloc ob).cell? ⟨w.heap.size, 3, none⟩ = some (.int .i64 o.c) := fun ob => (K.alloc ob).cell b3 (fun e => e)
    replace h4 : ∀ ob, (w18.alloc ob).cell? ⟨w.heap.size, 4, none⟩ = some (.int .i64 o.v.num) := fun ob => (K.alloc ob).cell b4 (fun e => e)
    replace h5 : ∀ ob, (w18.alloc ob).cell? ⟨w.heap.size, 5, none⟩ = some (.int .i64 o.v.next) := fun ob => (K.alloc ob).cell b5 (fun e => e)
    replace h6 : ∀ ob, (w18.alloc ob).cell? ⟨w.heap.size, 6, none⟩ = some (.bool o.v.dead) := fun ob => (K.alloc ob).cell b6 (fun e => e)
    go_wp2_with fail
    refine (zLoad (Z.new (by first | exact K | exact K.alloc _)) o.a).mono ?_
    rintro e w19 ⟨rfl, k1⟩
    replace K : Keeps (fun _ => False) w0 w19 := by first | exact K.trans k1 | exact (K.alloc _).trans k1
    clear k1
    replace f1 := K.cell b1 (fun e => e)
    replace f2 := K.cell b2 (fun e => e)
    replace f3 := K.cell b3 (fun e => e)
    replace f4 := K.cell b4 (fun e => e)
    replace f5 := K.cell b5 (fun e => e)
    replace f6 := K.cell b6 (fun e => e)
    replace h1 : ∀ ob, (w19.alloc ob).cell? ⟨w.heap.size, 1, none⟩ = some (.int .i64 o.a) := fun ob => (K.alloc ob).cell b1 (fun e => e)
    replace h2 : ∀ ob, (w19.alloc ob).cell? ⟨w.heap.size, 2, none⟩ = some (.int .i64 o.b) := fun ob => (K.alloc ob).cell b2 (fun e => e)
    replace h3 : ∀ ob, (w19.alloc ob).cell? ⟨w.heap.size, 3, none⟩ = some (.int .i64 o.c) := fun ob => (K.alloc ob).cell b3 (fun e => e)
    replace h4 : ∀ ob, (w19.alloc ob).cell? ⟨w.heap.size, 4, none⟩ = some (.int .i64 o.v.num) := fun ob => (K.alloc ob).cell b4 (fun e => e)
    replace h5 : ∀ ob, (w19.alloc ob).cell? ⟨w.heap.size, 5, none⟩ = some (.int .i64 o.v.next) := fun ob => (K.alloc ob).cell b5 (fun e => e)
    replace h6 : ∀ ob, (w19.alloc ob).cell? ⟨w.heap.size, 6, none⟩ = some (.bool o.v.dead) := fun ob => (K.alloc ob).cell b6 (fun e => e)
    go_wp2_with fail
    refine (zAcquire (Z.new (by first | exact K | exact K.alloc _)) o.a o.b o.c).mono ?_
    rintro e w20 ⟨rfl, k1⟩
    replace K : Keeps (fun _ => False) w0 w20 := by first | exact K.trans k1 | exact (K.alloc _).trans k1
    clear k1
    replace f1 := K.cell b1 (fun e => e)
    replace f2 := K.cell b2 (fun e => e)
    replace f3 := K.cell b3 (fun e => e)
    replace f4 := K.cell b4 (fun e => e)
    replace f5 := K.cell b5 (fun e => e)
    replace f6 := K.cell b6 (fun e => e)
    replace h1 : ∀ ob, (w20.alloc ob).cell? ⟨w.heap.size, 1, none⟩ = some (.int .i64 o.a) := fun ob => (K.alloc ob).cell b1 (fun e => e)
    replace h2 : ∀ ob, (w20.alloc ob).cell? ⟨w.heap.size, 2, none⟩ = some (.int .i64 o.b) := fun ob => (K.alloc ob).cell b2 (fun e => e)
    replace h3 : ∀ ob, (w20.alloc ob).cell? ⟨w.heap.size, 3, none⟩ = some (.int .i64 o.c) := fun ob => (K.alloc ob).cell b3 (fun e => e)
    replace h4 : ∀ ob, (w20.alloc ob).cell? ⟨w.heap.size, 4, none⟩ = some (.int .i64 o.v.num) := fun ob => (K.alloc ob).cell b4 (fun e => e)
    replace h5 : ∀ ob, (w20.alloc ob).cell? ⟨w.heap.size, 5, none⟩ = some (.int .i64 o.v.next) := fun ob => (K.alloc ob).cell b5 (fun e => e)
    replace h6 : ∀ ob, (w20.alloc ob).cell? ⟨w.heap.size, 6, none⟩ = some (.bool o.v.dead) := fun ob => (K.alloc ob).cell b6 (fun e => e)
    go_wp2_with fail
    refine (zStatus (Z.new (by first | exact K | exact K.alloc _)) o.a).mono ?_
    rintro e w21 ⟨rfl, k1⟩
    replace K : Keeps (fun _ => False) w0 w21 := by first | exact K.trans k1 | exact (K.alloc _).trans k1
    clear k1
    replace f1 := K.cell b1 (fun e => e)
    replace f2 := K.cell b2 (fun e => e)
    replace f3 := K.cell b3 (fun e => e)
    replace f4 := K.cell b4 (fun e => e)
    replace f5 := K.cell b5 (fun e => e)
    replace f6 := K.cell b6 (fun e => e)
    replace h1 : ∀ ob, (w21.alloc ob).cell? ⟨w.heap.size, 1, none⟩ = some (.int .i64 o.a) := fun ob => (K.alloc ob).cell b1 (fun e => e)
    replace h2 : ∀ ob, (w21.alloc ob).cell? ⟨w.heap.size, 2, none⟩ = some (.int .i64 o.b) := fun ob => (K.alloc ob).cell b2 (fun e => e)
    replace h3 : ∀ ob, (w21.alloc ob).cell? ⟨w.heap.size, 3, none⟩ = some (.int .i64 o.c) := fun ob => (K.alloc ob).cell b3 (fun e => e)
    replace h4 : ∀ ob, (w21.alloc ob).cell? ⟨w.heap.size, 4, none⟩ = some (.int .i64 o.v.num) := fun ob => (K.alloc ob).cell b4 (fun e => e)
    replace h5 : ∀ ob, (w21.alloc ob).cell? ⟨w.heap.size, 5, none⟩ = some (.int .i64 o.v.next) := fun ob => (K.alloc ob).cell b5 (fun e => e)
    replace h6 : ∀ ob, (w21.alloc ob).cell? ⟨w.heap.size, 6, none⟩ = some (.bool o.v.dead) := fun ob => (K.alloc ob).cell b6 (fun e => e)
    go_wp2_with fail
    refine (zKill (Z.new (by first | exact K | exact K.alloc _)) o.a).mono ?_
    rintro e w22 ⟨rfl, k1⟩
    replace K : Keeps (fun _ => False) w0 w22 := by first | exact K.trans k1 | exact (K.alloc _).trans k1
    clear k1
    replace f1 := K.cell b1 (fun e => e)
    replace f2 := K.cell b2 (fun e => e)
    replace f3 := K.cell b3 (fun e => e)
    replace f4 := K.cell b4 (fun e => e)
    replace f5 := K.cell b5 (fun e => e)
    replace f6 := K.cell b6 (fun e => e)
    replace h1 : ∀ ob, (w22.alloc ob).cell? ⟨w.heap.size, 1, none⟩ = some (.int .i64 o.a) := fun ob => (K.alloc ob).cell b1 (fun e => e)
    replace h2 : ∀ ob, (w22.alloc ob).cell? ⟨w.heap.size, 2, none⟩ = some (.int .i64 o.b) := fun ob => (K.alloc ob).cell b2 (fun e => e)
    replace h3 : ∀ ob, (w22.alloc ob).cell? ⟨w.heap.size, 3, none⟩ = some (.int .i64 o.c) := fun ob => (K.alloc ob).cell b3 (fun e => e)
    replace h4 : ∀ ob, (w22.alloc ob).cell? ⟨w.heap.size, 4, none⟩ = some (.int .i64 o.v.num) := fun ob => (K.alloc ob).cell b4 (fun e => e)
    replace h5 : ∀ ob, (w22.alloc ob).cell? ⟨w.heap.size, 5, none⟩ = some (.int .i64 o.v.next) := fun ob => (K.alloc ob).cell b5 (fun e => e)
    replace h6 : ∀ ob, (w22.alloc ob).cell? ⟨w.heap.size, 6, none⟩ = some (.bool o.v.dead) := fun ob => (K.alloc ob).cell b6 (fun e => e)
    go_wp2_with fail
    refine (zCommit (Z.new (by first | exact K | exact K.alloc _)) o.a).mono ?_
    rintro e w23 ⟨rfl, k1⟩
    replace K : Keeps (fun _ => False) w0 w23 := by first | exact K.trans k1 | exact (K.alloc _).trans k1
    clear k1
    replace f1 := K.cell b1 (fun e => e)
    replace f2 := K.cell b2 (fun e => e)
    replace f3 := K.cell b3 (fun e => e)
    replace f4 := K.cell b4 (fun e => e)
    replace f5 := K.cell b5 (fun e => e)
    replace f6 := K.cell b6 (fun e => e)
    replace h1 : ∀ ob, (w23.alloc ob).cell? ⟨w.heap.size, 1, none⟩ = some (.int .i64 o.a) := fun ob => (K.alloc ob).cell b1 (fun e => e)
    replace h2 : ∀ ob, (w23.alloc ob).cell? ⟨w.heap.size, 2, none⟩ = some (.int .i64 o.b) := fun ob => (K.alloc ob).cell b2 (fun e => e)
    replace h3 : ∀ ob, (w23.alloc ob).cell? ⟨w.heap.size, 3, none⟩ = some (.int .i64 o.c) := fun ob => (K.alloc ob).cell b3 (fun e => e)
    replace h4 : ∀ ob, (w23.alloc ob).cell? ⟨w.heap.size, 4, none⟩ = some (.int .i64 o.v.num) := fun ob => (K.alloc ob).cell b4 (fun e => e)
    replace h5 : ∀ ob, (w23.alloc ob).cell? ⟨w.heap.size, 5, none⟩ = some (.int .i64 o.v.next) := fun ob => (K.alloc ob).cell b5 (fun e => e)
    replace h6 : ∀ ob, (w23.alloc ob).cell? ⟨w.heap.size, 6, none⟩ = some (.bool o.v.dead) := fun ob => (K.alloc ob).cell b6 (fun e => e)
    go_wp2_with fail
    refine (zFlag (Z.new (by first | exact K | exact K.alloc _)) o.a).mono ?_
    rintro e w24 ⟨rfl, k1⟩
    replace K : Keeps (fun _ => False) w0 w24 := by first | exact K.trans k1 | exact (K.alloc _).trans k1
    clear k1
    replace f1 := K.cell b1 (fun e => e)
    replace f2 := K.cell b2 (fun e => e)
    replace f3 := K.cell b3 (fun e => e)
    replace f4 := K.cell b4 (fun e => e)
    replace f5 := K.cell b5 (fun e => e)
    replace f6 := K.cell b6 (fun e => e)
    replace h1 : ∀ ob, (w24.alloc ob).cell? ⟨w.heap.size, 1, none⟩ = some (.int .i64 o.a) := fun ob => (K.alloc ob).cell b1 (fun e => e)
    replace h2 : ∀ ob, (w24.alloc ob).cell? ⟨w.heap.size, 2, none⟩ = some (.int .i64 o.b) := fun ob => (K.alloc ob).cell b2 (fun e => e)
    replace h3 : ∀ ob, (w24.alloc ob).cell? ⟨w.heap.size, 3, none⟩ = some (.int .i64 o.c) := fun ob => (K.alloc ob).cell b3 (fun e => e)
    replace h4 : ∀ ob, (w24.alloc ob).cell? ⟨w.heap.size, 4, none⟩ = some (.int .i64 o.v.num) := fun ob => (K.alloc ob).cell b4 (fun e => e)
    replace h5 : ∀ ob, (w24.alloc ob).cell? ⟨w.heap.size, 5, none⟩ = some (.int .i64 o.v.next) := fun ob => (K.alloc ob).cell b5 (fun e => e)
    replace h6 : ∀ ob, (w24.alloc ob).cell? ⟨w.heap.size, 6, none⟩ = some (.bool o.v.dead) := fun ob => (K.alloc ob).cell b6 (fun e => e)
    go_wp2_with fail
    refine (zMark (Z.new (by first | exact K | exact K.alloc _)) o.a o.v.dead).mono ?_
    rintro e w25 ⟨rfl, k1⟩
    replace K : Keeps (fun _ => False) w0 w25 := by first | exact K.trans k1 | exact (K.alloc _).trans k1
    clear k1
    replace f1 := K.cell b1 (fun e => e)
    replace f2 := K.cell b2 (fun e => e)
    replace f3 := K.cell b3 (fun e => e)
    replace f4 := K.cell b4 (fun e => e)
    replace f5 := K.cell b5 (fun e => e)
    replace f6 := K.cell b6 (fun e => e)
    replace h1 : ∀ ob, (w25.alloc ob).cell? ⟨w.heap.size, 1, none⟩ = some (.int .i64 o.a) := fun ob => (K.alloc ob).cell b1 (fun e => e)
    replace h2 : ∀ ob, (w25.alloc ob).cell? ⟨w.heap.size, 2, none⟩ = some (.int .i64 o.b) := fun ob => (K.alloc ob).cell b2 (fun e => e)
    replace h3 : ∀ ob, (w25.alloc ob).cell? ⟨w.heap.size, 3, none⟩ = some (.int .i64 o.c) := fun ob => (K.alloc ob).cell b3 (fun e => e)
    replace h4 : ∀ ob, (w25.alloc ob).cell? ⟨w.heap.size, 4, none⟩ = some (.int .i64 o.v.num) := fun ob => (K.alloc ob).cell b4 (fun e => e)
    replace h5 : ∀ ob, (w25.alloc ob).cell? ⟨w.heap.size, 5, none⟩ = some (.int .i64 o.v.next) := fun ob => (K.alloc ob).cell b5 (fun e => e)
    replace h6 : ∀ ob, (w25.alloc ob).cell? ⟨w.heap.size, 6, none⟩ = some (.bool o.v.dead) := fun ob => (K.alloc ob).cell b6 (fun e => e)
    go_wp2_with fail
    refine (zOCell (Z.new (by first | exact K | exact K.alloc _)) o.a).mono ?_
    rintro e w26 ⟨rfl, k1⟩
    replace K : Keeps (fun _ => False) w0 w26 := by first | exact K.trans k1 | exact (K.alloc _).trans k1
    clear k1
    replace f1 := K.cell b1 (fun e => e)
    replace f2 := K.cell b2 (fun e => e)
    replace f3 := K.cell b3 (fun e => e)
    replace f4 := K.cell b4 (fun e => e)
    replace f5 := K.cell b5 (fun e => e)
    replace f6 := K.cell b6 (fun e => e)
    replace h1 : ∀ ob, (w26.alloc ob).cell? ⟨w.heap.size, 1, none⟩ = some (.int .i64 o.a) := fun ob => (K.alloc ob).cell b1 (fun e => e)
    replace h2 : ∀ ob, (w26.alloc ob).cell? ⟨w.heap.size, 2, none⟩ = some (.int .i64 o.b) := fun ob => (K.alloc ob).cell b2 (fun e => e)
    replace h3 : ∀ ob, (w26.alloc ob).cell? ⟨w.heap.size, 3, none⟩ = some (.int .i64 o.c) := fun ob => (K.alloc ob).cell b3 (fun e => e)
    replace h4 : ∀ ob, (w26.alloc ob).cell? ⟨w.heap.size, 4, none⟩ = some (.int .i64 o.v.num) := fun ob => (K.alloc ob).cell b4 (fun e => e)
    replace h5 : ∀ ob, (w26.alloc ob).cell? ⟨w.heap.size, 5, none⟩ = some (.int .i64 o.v.next) := fun ob => (K.alloc ob).cell b5 (fun e => e)
    replace h6 : ∀ ob, (w26.alloc ob).cell? ⟨w.heap.size, 6, none⟩ = some (.bool o.v.dead) := fun ob => (K.alloc ob).cell b6 (fun e => e)
    go_wp2_with fail
    refine (zSCell (Z.new (by first | exact K | exact K.alloc _)) o.a).mono ?_
    rintro e w27 ⟨rfl, k1⟩
    replace K : Keeps (fun _ => False) w0 w27 := by first | exact K.trans k1 | exact (K.alloc _).trans k1
    clear k1
    replace f1 := K.cell b1 (fun e => e)
    replace f2 := K.cell b2 (fun e => e)
    replace f3 := K.cell b3 (fun e => e)
    replace f4 := K.cell b4 (fun e => e)
    replace f5 := K.cell b5 (fun e => e)
    replace f6 := K.cell b6 (fun e => e)
    replace h1 : ∀ ob, (w27.alloc ob).cell? ⟨w.heap.size, 1, none⟩ = some (.int .i64 o.a) := fun ob => (K.alloc ob).cell b1 (fun e => e)
    replace h2 : ∀ ob, (w27.alloc ob).cell? ⟨w.heap.size, 2, none⟩ = some (.int .i64 o.b) := fun ob => (K.alloc ob).cell b2 (fun e => e)
    replace h3 : ∀ ob, (w27.alloc ob).cell? ⟨w.heap.size, 3, none⟩ = some (.int .i64 o.c) := fun ob => (K.alloc ob).cell b3 (fun e => e)
    replace h4 : ∀ ob, (w27.alloc ob).cell? ⟨w.heap.size, 4, none⟩ = some (.int .i64 o.v.num) := fun ob => (K.alloc ob).cell b4 (fun e => e)
    replace h5 : ∀ ob, (w27.alloc ob).cell? ⟨w.heap.size, 5, none⟩ = some (.int .i64 o.v.next) := fun ob => (K.alloc ob).cell b5 (fun e => e)
    replace h6 : ∀ ob, (w27.alloc ob).cell? ⟨w.heap.size, 6, none⟩ = some (.bool o.v.dead) := fun ob => (K.alloc ob).cell b6 (fun e => e)
    go_wp2_with fail
    refine (zFCell (Z.new (by first | exact K | exact K.alloc _)) o.a).mono ?_
    rintro e w28 ⟨rfl, k1⟩
    replace K : Keeps (fun _ => False) w0 w28 := by first | exact K.trans k1 | exact (K.alloc _).trans k1
    clear k1
    replace f1 := K.cell b1 (fun e => e)
    replace f2 := K.cell b2 (fun e => e)
    replace f3 := K.cell b3 (fun e => e)
    replace f4 := K.cell b4 (fun e => e)
    replace f5 := K.cell b5 (fun e => e)
    replace f6 := K.cell b6 (fun e => e)
    replace h1 : ∀ ob, (w28.alloc ob).cell? ⟨w.heap.size, 1, none⟩ = some (.int .i64 o.a) := fun ob => (K.alloc ob).cell b1 (fun e => e)
    replace h2 : ∀ ob, (w28.alloc ob).cell? ⟨w.heap.size, 2, none⟩ = some (.int .i64 o.b) := fun ob => (K.alloc ob).cell b2 (fun e => e)
    replace h3 : ∀ ob, (w28.alloc ob).cell? ⟨w.heap.size, 3, none⟩ = some (.int .i64 o.c) := fun ob => (K.alloc ob).cell b3 (fun e => e)
    replace h4 : ∀ ob, (w28.alloc ob).cell? ⟨w.heap.size, 4, none⟩ = some (.int .i64 o.v.num) := fun ob => (K.alloc ob).cell b4 (fun e => e)
    replace h5 : ∀ ob, (w28.alloc ob).cell? ⟨w.heap.size, 5, none⟩ = some (.int .i64 o.v.next) := fun ob => (K.alloc ob).cell b5 (fun e => e)
    replace h6 : ∀ ob, (w28.alloc ob).cell? ⟨w.heap.size, 6, none⟩ = some (.bool o.v.dead) := fun ob => (K.alloc ob).cell b6 (fun e => e)
    go_wp2_with (go_at_call 13; refine (num_of _ _).mono ?_; rintro e w' ⟨rfl, rfl⟩)
    go_ret
    exact ⟨rfl, (K0.trans K).below (Nat.le_refl _) (fun _ _ e => e)⟩
  | true =>
    obtain ⟨w2, hw2⟩ : ∃ w2, w2 = w1.alloc (.cells #[.pointer none, .slice none 0 0, .slice none 0 0, .slice none 0 0, .slice none 0 0] 58) := ⟨_, rfl⟩
    have K2 : Keeps (fun _ => False) w0 w2 := by rw [hw2]; exact k0.alloc _
    have Z : ZP w2 (some ⟨w1.heap.size, 0, none⟩) := .inr ⟨w1.heap.size, rfl, by constructor <;> (rw [hw2]; simp)⟩
    go_wp2_with fail
    rw [← hw2]
    clear hw2 k0
    replace b1 := K2.cell b1 (fun e => e)
    replace b2 := K2.cell b2 (fun e => e)
    replace b3 := K2.cell b3 (fun e => e)
    replace b4 := K2.cell b4 (fun e => e)
    replace b5 := K2.cell b5 (fun e => e)
    replace b6 := K2.cell b6 (fun e => e)
    replace K0 := K0.trans K2
    clear K2
    generalize w1.heap.size = wb at *
    have K : Keeps (fun _ => False) w2 w2 := Keeps.refl _ w2
    refine (zObjects (Z.new (by first | exact K | exact K.alloc _))).mono ?_
    rintro e w10 ⟨rfl, k1⟩
    replace K : Keeps (fun _ => False) w2 w10 := by first | exact K.trans k1 | exact (K.alloc _).trans k1
    clear k1
    have f1 := K.cell b1 (fun e => e)
    have f2 := K.cell b2 (fun e => e)
    have f3 := K.cell b3 (fun e => e)
    have f4 := K.cell b4 (fun e => e)
    have f5 := K.cell b5 (fun e => e)
    have f6 := K.cell b6 (fun e => e)
    have h1 : ∀ ob, (w10.alloc ob).cell? ⟨w.heap.size, 1, none⟩ = some (.int .i64 o.a) := fun ob => (K.alloc ob).cell b1 (fun e => e)
    have h2 : ∀ ob, (w10.alloc ob).cell? ⟨w.heap.size, 2, none⟩ = some (.int .i64 o.b) := fun ob => (K.alloc ob).cell b2 (fun e => e)
    have h3 : ∀ ob, (w10.alloc ob).cell? ⟨w.heap.size, 3, none⟩ = some (.int .i64 o.c) := fun ob => (K.alloc ob).cell b3 (fun e => e)
    have h4 : ∀ ob, (w10.alloc ob).cell? ⟨w.heap.size, 4, none⟩ = some (.int .i64 o.v.num) := fun ob => (K.alloc ob).cell b4 (fun e => e)
    have h5 : ∀ ob, (w10.alloc ob).cell? ⟨w.heap.size, 5, none⟩ = some (.int .i64 o.v.next) := fun ob => (K.alloc ob).cell b5 (fun e => e)
    have h6 : ∀ ob, (w10.alloc ob).cell? ⟨w.heap.size, 6, none⟩ = some (.bool o.v.dead) := fun ob => (K.alloc ob).cell b6 (fun e => e)
    go_wp2_with fail
    refine (zCommitted (Z.new (by first | exact K | exact K.alloc _))).mono ?_
    rintro e w11 ⟨⟨ac, rfl⟩, k1⟩
    replace K : Keeps (fun _ => False) w2 w11 := by first | exact K.trans k1 | exact (K.alloc _).trans k1
    clear k1
    replace f1 := K.cell b1 (fun e => e)
    replace f2 := K.cell b2 (fun e => e)
    replace f3 := K.cell b3 (fun e => e)
    replace f4 := K.cell b4 (fun e => e)
    replace f5 := K.cell b5 (fun e => e)
    replace f6 := K.cell b6 (fun e => e)
    replace h1 : ∀ ob, (w11.alloc ob).cell? ⟨w.heap.size, 1, none⟩ = some (.int .i64 o.a) := fun ob => (K.alloc ob).cell b1 (fun e => e)
    replace h2 : ∀ ob, (w11.alloc ob).cell? ⟨w.heap.size, 2, none⟩ = some (.int .i64 o.b) := fun ob => (K.alloc ob).cell b2 (fun e => e)
    replace h3 : ∀ ob, (w11.alloc ob).cell? ⟨w.heap.size, 3, none⟩ = some (.int .i64 o.c) := fun ob => (K.alloc ob).cell b3 (fun e => e)
    replace h4 : ∀ ob, (w11.alloc ob).cell? ⟨w.heap.size, 4, none⟩ = some (.int .i64 o.v.num) := fun ob => (K.alloc ob).cell b4 (fun e => e)
    replace h5 : ∀ ob, (w11.alloc ob).cell? ⟨w.heap.size, 5, none⟩ = some (.int .i64 o.v.next) := fun ob => (K.alloc ob).cell b5 (fun e => e)
    replace h6 : ∀ ob, (w11.alloc ob).cell? ⟨w.heap.size, 6, none⟩ = some (.bool o.v.dead) := fun ob => (K.alloc ob).cell b6 (fun e => e)
    go_wp2_with fail
    refine (zAttempt (Z.new (by first | exact K | exact K.alloc _)) o.a 0 0).mono ?_
    rintro e w12 ⟨rfl, k1⟩
    replace K : Keeps (fun _ => False) w2 w12 := by first | exact K.trans k1 | exact (K.alloc _).trans k1
    clear k1
    replace f1 := K.cell b1 (fun e => e)
    replace f2 := K.cell b2 (fun e => e)
    replace f3 := K.cell b3 (fun e => e)
    replace f4 := K.cell b4 (fun e => e)
    replace f5 := K.cell b5 (fun e => e)
    replace f6 := K.cell b6 (fun e => e)
    replace h1 : ∀ ob, (w12.alloc ob).cell? ⟨w.heap.size, 1, none⟩ = some (.int .i64 o.a) := fun ob => (K.alloc ob).cell b1 (fun e => e)
    replace h2 : ∀ ob, (w12.alloc ob).cell? ⟨w.heap.size, 2, none⟩ = some (.int .i64 o.b) := fun ob => (K.alloc ob).cell b2 (fun e => e)
    replace h3 : ∀ ob, (w12.alloc ob).cell? ⟨w.heap.size, 3, none⟩ = some (.int .i64 o.c) := fun ob => (K.alloc ob).cell b3 (fun e => e)
    replace h4 : ∀ ob, (w12.alloc ob).cell? ⟨w.heap.size, 4, none⟩ = some (.int .i64 o.v.num) := fun ob => (K.alloc ob).cell b4 (fun e => e)
    replace h5 : ∀ ob, (w12.alloc ob).cell? ⟨w.heap.size, 5, none⟩ = some (.int .i64 o.v.next) := fun ob => (K.alloc ob).cell b5 (fun e => e)
    replace h6 : ∀ ob, (w12.alloc ob).cell? ⟨w.heap.size, 6, none⟩ = some (.bool o.v.dead) := fun ob => (K.alloc ob).cell b6 (fun e => e)
    go_wp2_with fail
    refine (zOwner (Z.new (by first | exact K | exact K.alloc _)) o.a).mono ?_
    rintro e w13 ⟨rfl, k1⟩
    replace K : Keeps (fun _ => False) w2 w13 := by first | exact K.trans k1 | exact (K.alloc _).trans k1
    clear k1
    replace f1 := K.cell b1 (fun e => e)
    replace f2 := K.cell b2 (fun e => e)
    replace f3 := K.cell b3 (fun e => e)
    replace f4 := K.cell b4 (fun e => e)
    replace f5 := K.cell b5 (fun e => e)
    replace f6 := K.cell b6 (fun e => e)
    replace h1 : ∀ ob, (w13.alloc ob).cell? ⟨w.heap.size, 1, none⟩ = some (.int .i64 o.a) := fun ob => (K.alloc ob).cell b1 (fun e => e)
    replace h2 : ∀ ob, (w13.alloc ob).cell? ⟨w.heap.size, 2, none⟩ = some (.int .i64 o.b) := fun ob => (K.alloc ob).cell b2 (fun e => e)
    replace h3 : ∀ ob, (w13.alloc ob).cell? ⟨w.heap.size, 3, none⟩ = some (.int .i64 o.c) := fun ob => (K.alloc ob).cell b3 (fun e => e)
    replace h4 : ∀ ob, (w13.alloc ob).cell? ⟨w.heap.size, 4, none⟩ = some (.int .i64 o.v.num) := fun ob => (K.alloc ob).cell b4 (fun e => e)
    replace h5 : ∀ ob, (w13.alloc ob).cell? ⟨w.heap.size, 5, none⟩ = some (.int .i64 o.v.next) := fun ob => (K.alloc ob).cell b5 (fun e => e)
    replace h6 : ∀ ob, (w13.alloc ob).cell? ⟨w.heap.size, 6, none⟩ = some (.bool o.v.dead) := fun ob => (K.alloc ob).cell b6 (fun e => e)
    go_wp2_with fail
    refine (zMake (Z.new (by first | exact K | exact K.alloc _)) o.a o.b).mono ?_
    rintro e w14 ⟨rfl, k1⟩
    replace K : Keeps (fun _ => False) w2 w14 := by first | exact K.trans k1 | exact (K.alloc _).trans k1
    clear k1
    replace f1 := K.cell b1 (fun e => e)
    replace f2 := K.cell b2 (fun e => e)
    replace f3 := K.cell b3 (fun e => e)
    replace f4 := K.cell b4 (fun e => e)
    replace f5 := K.cell b5 (fun e => e)
    replace f6 := K.cell b6 (fun e => e)
    replace h1 : ∀ ob, (w14.alloc ob).cell? ⟨w.heap.size, 1, none⟩ = some (.int .i64 o.a) := fun ob => (K.alloc ob).cell b1 (fun e => e)
    replace h2 : ∀ ob, (w14.alloc ob).cell? ⟨w.heap.size, 2, none⟩ = some (.int .i64 o.b) := fun ob => (K.alloc ob).cell b2 (fun e => e)
    replace h3 : ∀ ob, (w14.alloc ob).cell? ⟨w.heap.size, 3, none⟩ = some (.int .i64 o.c) := fun ob => (K.alloc ob).cell b3 (fun e => e)
    replace h4 : ∀ ob, (w14.alloc ob).cell? ⟨w.heap.size, 4, none⟩ = some (.int .i64 o.v.num) := fun ob => (K.alloc ob).cell b4 (fun e => e)
    replace h5 : ∀ ob, (w14.alloc ob).cell? ⟨w.heap.size, 5, none⟩ = some (.int .i64 o.v.next) := fun ob => (K.alloc ob).cell b5 (fun e => e)
    replace h6 : ∀ ob, (w14.alloc ob).cell? ⟨w.heap.size, 6, none⟩ = some (.bool o.v.dead) := fun ob => (K.alloc ob).cell b6 (fun e => e)
    go_wp2_with fail
    refine (zLocator (Z.new (by first | exact K | exact K.alloc _)) o.a).mono ?_
    rintro e w15 ⟨rfl, k1⟩
    replace K : Keeps (fun _ => False) w2 w15 := by first | exact K.trans k1 | exact (K.alloc _).trans k1
    clear k1
    replace f1 := K.cell b1 (fun e => e)
    replace f2 := K.cell b2 (fun e => e)
    replace f3 := K.cell b3 (fun e => e)
    replace f4 := K.cell b4 (fun e => e)
    replace f5 := K.cell b5 (fun e => e)
    replace f6 := K.cell b6 (fun e => e)
    replace h1 : ∀ ob, (w15.alloc ob).cell? ⟨w.heap.size, 1, none⟩ = some (.int .i64 o.a) := fun ob => (K.alloc ob).cell b1 (fun e => e)
    replace h2 : ∀ ob, (w15.alloc ob).cell? ⟨w.heap.size, 2, none⟩ = some (.int .i64 o.b) := fun ob => (K.alloc ob).cell b2 (fun e => e)
    replace h3 : ∀ ob, (w15.alloc ob).cell? ⟨w.heap.size, 3, none⟩ = some (.int .i64 o.c) := fun ob => (K.alloc ob).cell b3 (fun e => e)
    replace h4 : ∀ ob, (w15.alloc ob).cell? ⟨w.heap.size, 4, none⟩ = some (.int .i64 o.v.num) := fun ob => (K.alloc ob).cell b4 (fun e => e)
    replace h5 : ∀ ob, (w15.alloc ob).cell? ⟨w.heap.size, 5, none⟩ = some (.int .i64 o.v.next) := fun ob => (K.alloc ob).cell b5 (fun e => e)
    replace h6 : ∀ ob, (w15.alloc ob).cell? ⟨w.heap.size, 6, none⟩ = some (.bool o.v.dead) := fun ob => (K.alloc ob).cell b6 (fun e => e)
    go_wp2_with fail
    refine (zVersion (Z.new (by first | exact K | exact K.alloc _)) o.a).mono ?_
    rintro e w16 ⟨rfl, k1⟩
    replace K : Keeps (fun _ => False) w2 w16 := by first | exact K.trans k1 | exact (K.alloc _).trans k1
    clear k1
    replace f1 := K.cell b1 (fun e => e)
    replace f2 := K.cell b2 (fun e => e)
    replace f3 := K.cell b3 (fun e => e)
    replace f4 := K.cell b4 (fun e => e)
    replace f5 := K.cell b5 (fun e => e)
    replace f6 := K.cell b6 (fun e => e)
    replace h1 : ∀ ob, (w16.alloc ob).cell? ⟨w.heap.size, 1, none⟩ = some (.int .i64 o.a) := fun ob => (K.alloc ob).cell b1 (fun e => e)
    replace h2 : ∀ ob, (w16.alloc ob).cell? ⟨w.heap.size, 2, none⟩ = some (.int .i64 o.b) := fun ob => (K.alloc ob).cell b2 (fun e => e)
    replace h3 : ∀ ob, (w16.alloc ob).cell? ⟨w.heap.size, 3, none⟩ = some (.int .i64 o.c) := fun ob => (K.alloc ob).cell b3 (fun e => e)
    replace h4 : ∀ ob, (w16.alloc ob).cell? ⟨w.heap.size, 4, none⟩ = some (.int .i64 o.v.num) := fun ob => (K.alloc ob).cell b4 (fun e => e)
    replace h5 : ∀ ob, (w16.alloc ob).cell? ⟨w.heap.size, 5, none⟩ = some (.int .i64 o.v.next) := fun ob => (K.alloc ob).cell b5 (fun e => e)
    replace h6 : ∀ ob, (w16.alloc ob).cell? ⟨w.heap.size, 6, none⟩ = some (.bool o.v.dead) := fun ob => (K.alloc ob).cell b6 (fun e => e)
    go_wp2_with fail
    refine (zPut (Z.new (by first | exact K | exact K.alloc _)) o.a o.v).mono ?_
    rintro e w17 ⟨rfl, k1⟩
    replace K : Keeps (fun _ => False) w2 w17 := by first | exact K.trans k1 | exact (K.alloc _).trans k1
    clear k1
    replace f1 := K.cell b1 (fun e => e)
    replace f2 := K.cell b2 (fun e => e)
    replace f3 := K.cell b3 (fun e => e)
    replace f4 := K.cell b4 (fun e => e)
    replace f5 := K.cell b5 (fun e => e)
    replace f6 := K.cell b6 (fun e => e)
    replace h1 : ∀ ob, (w17.alloc ob).cell? ⟨w.heap.size, 1, none⟩ = some (.int .i64 o.a) := fun ob => (K.alloc ob).cell b1 (fun e => e)
    replace h2 : ∀ ob, (w17.alloc ob).cell? ⟨w.heap.size, 2, none⟩ = some (.int .i64 o.b) := fun ob => (K.alloc ob).cell b2 (fun e => e)
    replace h3 : ∀ ob, (w17.alloc ob).cell? ⟨w.heap.size, 3, none⟩ = some (.int .i64 o.c) := fun ob => (K.alloc ob).cell b3 (fun e => e)
    replace h4 : ∀ ob, (w17.alloc ob).cell? ⟨w.heap.size, 4, none⟩ = some (.int .i64 o.v.num) := fun ob => (K.alloc ob).cell b4 (fun e => e)
    replace h5 : ∀ ob, (w17.alloc ob).cell? ⟨w.heap.size, 5, none⟩ = some (.int .i64 o.v.next) := fun ob => (K.alloc ob).cell b5 (fun e => e)
    replace h6 : ∀ ob, (w17.alloc ob).cell? ⟨w.heap.size, 6, none⟩ = some (.bool o.v.dead) := fun ob => (K.alloc ob).cell b6 (fun e => e)
    go_wp2_with fail
    refine (zCurrent (Z.new (by first | exact K | exact K.alloc _)) o.a o.b).mono ?_
    rintro e w18 ⟨rfl, k1⟩
    replace K : Keeps (fun _ => False) w2 w18 := by first | exact K.trans k1 | exact (K.alloc _).trans k1
    clear k1
    replace f1 := K.cell b1 (fun e => e)
    replace f2 := K.cell b2 (fun e => e)
    replace f3 := K.cell b3 (fun e => e)
    replace f4 := K.cell b4 (fun e => e)
    replace f5 := K.cell b5 (fun e => e)
    replace f6 := K.cell b6 (fun e => e)
    replace h1 : ∀ ob, (w18.alloc ob).cell? ⟨w.heap.size, 1, none⟩ = some (.int .i64 o.a) := fun ob => (K.alloc ob).cell b1 (fun e => e)
    replace h2 : ∀ ob, (w18.alloc ob).cell? ⟨w.heap.size, 2, none⟩ = some (.int .i64 o.b) := fun ob => (K.alloc ob).cell b2 (fun e => e)
    replace h3 : ∀ ob, (w18.alloc ob).cell? ⟨w.heap.size, 3, none⟩ = some (.int .i64 o.c) := fun ob => (K.alloc ob).cell b3 (fun e => e)
    replace h4 : ∀ ob, (w18.alloc ob).cell? ⟨w.heap.size, 4, none⟩ = some (.int .i64 o.v.num) := fun ob => (K.alloc ob).cell b4 (fun e => e)
    replace h5 : ∀ ob, (w18.alloc ob).cell? ⟨w.heap.size, 5, none⟩ = some (.int .i64 o.v.next) := fun ob => (K.alloc ob).cell b5 (fun e => e)
    replace h6 : ∀ ob, (w18.alloc ob).cell? ⟨w.heap.size, 6, none⟩ = some (.bool o.v.dead) := fun ob => (K.alloc ob).cell b6 (fun e => e)
    go_wp2_with fail
    refine (zLoad (Z.new (by first | exact K | exact K.alloc _)) o.a).mono ?_
    rintro e w19 ⟨rfl, k1⟩
    replace K : Keeps (fun _ => False) w2 w19 := by first | exact K.trans k1 | exact (K.alloc _).trans k1
    clear k1
    replace f1 := K.cell b1 (fun e => e)
    replace f2 := K.cell b2 (fun e => e)
    replace f3 := K.cell b3 (fun e => e)
    replace f4 := K.cell b4 (fun e => e)
    replace f5 := K.cell b5 (fun e => e)
    replace f6 := K.cell b6 (fun e => e)
    replace h1 : ∀ ob, (w19.alloc ob).cell? ⟨w.heap.size, 1, none⟩ = some (.int .i64 o.a) := fun ob => (K.alloc ob).cell b1 (fun e => e)
    replace h2 : ∀ ob, (w19.alloc ob).cell? ⟨w.heap.size, 2, none⟩ = some (.int .i64 o.b) := fun ob => (K.alloc ob).cell b2 (fun e => e)
    replace h3 : ∀ ob, (w19.alloc ob).cell? ⟨w.heap.size, 3, none⟩ = some (.int .i64 o.c) := fun ob => (K.alloc ob).cell b3 (fun e => e)
    replace h4 : ∀ ob, (w19.alloc ob).cell? ⟨w.heap.size, 4, none⟩ = some (.int .i64 o.v.num) := fun ob => (K.alloc ob).cell b4 (fun e => e)
    replace h5 : ∀ ob, (w19.alloc ob).cell? ⟨w.heap.size, 5, none⟩ = some (.int .i64 o.v.next) := fun ob => (K.alloc ob).cell b5 (fun e => e)
    replace h6 : ∀ ob, (w19.alloc ob).cell? ⟨w.heap.size, 6, none⟩ = some (.bool o.v.dead) := fun ob => (K.alloc ob).cell b6 (fun e => e)
    go_wp2_with fail
    refine (zAcquire (Z.new (by first | exact K | exact K.alloc _)) o.a o.b o.c).mono ?_
    rintro e w20 ⟨rfl, k1⟩
    replace K : Keeps (fun _ => False) w2 w20 := by first | exact K.trans k1 | exact (K.alloc _).trans k1
    clear k1
    replace f1 := K.cell b1 (fun e => e)
    replace f2 := K.cell b2 (fun e => e)
    replace f3 := K.cell b3 (fun e => e)
    replace f4 := K.cell b4 (fun e => e)
    replace f5 := K.cell b5 (fun e => e)
    replace f6 := K.cell b6 (fun e => e)
    replace h1 : ∀ ob, (w20.alloc ob).cell? ⟨w.heap.size, 1, none⟩ = some (.int .i64 o.a) := fun ob => (K.alloc ob).cell b1 (fun e => e)
    replace h2 : ∀ ob, (w20.alloc ob).cell? ⟨w.heap.size, 2, none⟩ = some (.int .i64 o.b) := fun ob => (K.alloc ob).cell b2 (fun e => e)
    replace h3 : ∀ ob, (w20.alloc ob).cell? ⟨w.heap.size, 3, none⟩ = some (.int .i64 o.c) := fun ob => (K.alloc ob).cell b3 (fun e => e)
    replace h4 : ∀ ob, (w20.alloc ob).cell? ⟨w.heap.size, 4, none⟩ = some (.int .i64 o.v.num) := fun ob => (K.alloc ob).cell b4 (fun e => e)
    replace h5 : ∀ ob, (w20.alloc ob).cell? ⟨w.heap.size, 5, none⟩ = some (.int .i64 o.v.next) := fun ob => (K.alloc ob).cell b5 (fun e => e)
    replace h6 : ∀ ob, (w20.alloc ob).cell? ⟨w.heap.size, 6, none⟩ = some (.bool o.v.dead) := fun ob => (K.alloc ob).cell b6 (fun e => e)
    go_wp2_with fail
    refine (zStatus (Z.new (by first | exact K | exact K.alloc _)) o.a).mono ?_
    rintro e w21 ⟨rfl, k1⟩
    replace K : Keeps (fun _ => False) w2 w21 := by first | exact K.trans k1 | exact (K.alloc _).trans k1
    clear k1
    replace f1 := K.cell b1 (fun e => e)
    replace f2 := K.cell b2 (fun e => e)
    replace f3 := K.cell b3 (fun e => e)
    replace f4 := K.cell b4 (fun e => e)
    replace f5 := K.cell b5 (fun e => e)
    replace f6 := K.cell b6 (fun e => e)
    replace h1 : ∀ ob, (w21.alloc ob).cell? ⟨w.heap.size, 1, none⟩ = some (.int .i64 o.a) := fun ob => (K.alloc ob).cell b1 (fun e => e)
    replace h2 : ∀ ob, (w21.alloc ob).cell? ⟨w.heap.size, 2, none⟩ = some (.int .i64 o.b) := fun ob => (K.alloc ob).cell b2 (fun e => e)
    replace h3 : ∀ ob, (w21.alloc ob).cell? ⟨w.heap.size, 3, none⟩ = some (.int .i64 o.c) := fun ob => (K.alloc ob).cell b3 (fun e => e)
    replace h4 : ∀ ob, (w21.alloc ob).cell? ⟨w.heap.size, 4, none⟩ = some (.int .i64 o.v.num) := fun ob => (K.alloc ob).cell b4 (fun e => e)
    replace h5 : ∀ ob, (w21.alloc ob).cell? ⟨w.heap.size, 5, none⟩ = some (.int .i64 o.v.next) := fun ob => (K.alloc ob).cell b5 (fun e => e)
    replace h6 : ∀ ob, (w21.alloc ob).cell? ⟨w.heap.size, 6, none⟩ = some (.bool o.v.dead) := fun ob => (K.alloc ob).cell b6 (fun e => e)
    go_wp2_with fail
    refine (zKill (Z.new (by first | exact K | exact K.alloc _)) o.a).mono ?_
    rintro e w22 ⟨rfl, k1⟩
    replace K : Keeps (fun _ => False) w2 w22 := by first | exact K.trans k1 | exact (K.alloc _).trans k1
    clear k1
    replace f1 := K.cell b1 (fun e => e)
    replace f2 := K.cell b2 (fun e => e)
    replace f3 := K.cell b3 (fun e => e)
    replace f4 := K.cell b4 (fun e => e)
    replace f5 := K.cell b5 (fun e => e)
    replace f6 := K.cell b6 (fun e => e)
    replace h1 : ∀ ob, (w22.alloc ob).cell? ⟨w.heap.size, 1, none⟩ = some (.int .i64 o.a) := fun ob => (K.alloc ob).cell b1 (fun e => e)
    replace h2 : ∀ ob, (w22.alloc ob).cell? ⟨w.heap.size, 2, none⟩ = some (.int .i64 o.b) := fun ob => (K.alloc ob).cell b2 (fun e => e)
    replace h3 : ∀ ob, (w22.alloc ob).cell? ⟨w.heap.size, 3, none⟩ = some (.int .i64 o.c) := fun ob => (K.alloc ob).cell b3 (fun e => e)
    replace h4 : ∀ ob, (w22.alloc ob).cell? ⟨w.heap.size, 4, none⟩ = some (.int .i64 o.v.num) := fun ob => (K.alloc ob).cell b4 (fun e => e)
    replace h5 : ∀ ob, (w22.alloc ob).cell? ⟨w.heap.size, 5, none⟩ = some (.int .i64 o.v.next) := fun ob => (K.alloc ob).cell b5 (fun e => e)
    replace h6 : ∀ ob, (w22.alloc ob).cell? ⟨w.heap.size, 6, none⟩ = some (.bool o.v.dead) := fun ob => (K.alloc ob).cell b6 (fun e => e)
    go_wp2_with fail
    refine (zCommit (Z.new (by first | exact K | exact K.alloc _)) o.a).mono ?_
    rintro e w23 ⟨rfl, k1⟩
    replace K : Keeps (fun _ => False) w2 w23 := by first | exact K.trans k1 | exact (K.alloc _).trans k1
    clear k1
    replace f1 := K.cell b1 (fun e => e)
    replace f2 := K.cell b2 (fun e => e)
    replace f3 := K.cell b3 (fun e => e)
    replace f4 := K.cell b4 (fun e => e)
    replace f5 := K.cell b5 (fun e => e)
    replace f6 := K.cell b6 (fun e => e)
    replace h1 : ∀ ob, (w23.alloc ob).cell? ⟨w.heap.size, 1, none⟩ = some (.int .i64 o.a) := fun ob => (K.alloc ob).cell b1 (fun e => e)
    replace h2 : ∀ ob, (w23.alloc ob).cell? ⟨w.heap.size, 2, none⟩ = some (.int .i64 o.b) := fun ob => (K.alloc ob).cell b2 (fun e => e)
    replace h3 : ∀ ob, (w23.alloc ob).cell? ⟨w.heap.size, 3, none⟩ = some (.int .i64 o.c) := fun ob => (K.alloc ob).cell b3 (fun e => e)
    replace h4 : ∀ ob, (w23.alloc ob).cell? ⟨w.heap.size, 4, none⟩ = some (.int .i64 o.v.num) := fun ob => (K.alloc ob).cell b4 (fun e => e)
    replace h5 : ∀ ob, (w23.alloc ob).cell? ⟨w.heap.size, 5, none⟩ = some (.int .i64 o.v.next) := fun ob => (K.alloc ob).cell b5 (fun e => e)
    replace h6 : ∀ ob, (w23.alloc ob).cell? ⟨w.heap.size, 6, none⟩ = some (.bool o.v.dead) := fun ob => (K.alloc ob).cell b6 (fun e => e)
    go_wp2_with fail
    refine (zFlag (Z.new (by first | exact K | exact K.alloc _)) o.a).mono ?_
    rintro e w24 ⟨rfl, k1⟩
    replace K : Keeps (fun _ => False) w2 w24 := by first | exact K.trans k1 | exact (K.alloc _).trans k1
    clear k1
    replace f1 := K.cell b1 (fun e => e)
    replace f2 := K.cell b2 (fun e => e)
    replace f3 := K.cell b3 (fun e => e)
    replace f4 := K.cell b4 (fun e => e)
    replace f5 := K.cell b5 (fun e => e)
    replace f6 := K.cell b6 (fun e => e)
    replace h1 : ∀ ob, (w24.alloc ob).cell? ⟨w.heap.size, 1, none⟩ = some (.int .i64 o.a) := fun ob => (K.alloc ob).cell b1 (fun e => e)
    replace h2 : ∀ ob, (w24.alloc ob).cell? ⟨w.heap.size, 2, none⟩ = some (.int .i64 o.b) := fun ob => (K.alloc ob).cell b2 (fun e => e)
    replace h3 : ∀ ob, (w24.alloc ob).cell? ⟨w.heap.size, 3, none⟩ = some (.int .i64 o.c) := fun ob => (K.alloc ob).cell b3 (fun e => e)
    replace h4 : ∀ ob, (w24.alloc ob).cell? ⟨w.heap.size, 4, none⟩ = some (.int .i64 o.v.num) := fun ob => (K.alloc ob).cell b4 (fun e => e)
    replace h5 : ∀ ob, (w24.alloc ob).cell? ⟨w.heap.size, 5, none⟩ = some (.int .i64 o.v.next) := fun ob => (K.alloc ob).cell b5 (fun e => e)
    replace h6 : ∀ ob, (w24.alloc ob).cell? ⟨w.heap.size, 6, none⟩ = some (.bool o.v.dead) := fun ob => (K.alloc ob).cell b6 (fun e => e)
    go_wp2_with fail
    refine (zMark (Z.new (by first | exact K | exact K.alloc _)) o.a o.v.dead).mono ?_
    rintro e w25 ⟨rfl, k1⟩
    replace K : Keeps (fun _ => False) w2 w25 := by first | exact K.trans k1 | exact (K.alloc _).trans k1
    clear k1
    replace f1 := K.cell b1 (fun e => e)
    replace f2 := K.cell b2 (fun e => e)
    replace f3 := K.cell b3 (fun e => e)
    replace f4 := K.cell b4 (fun e => e)
    replace f5 := K.cell b5 (fun e => e)
    replace f6 := K.cell b6 (fun e => e)
    replace h1 : ∀ ob, (w25.alloc ob).cell? ⟨w.heap.size, 1, none⟩ = some (.int .i64 o.a) := fun ob => (K.alloc ob).cell b1 (fun e => e)
    replace h2 : ∀ ob, (w25.alloc ob).cell? ⟨w.heap.size, 2, none⟩ = some (.int .i64 o.b) := fun ob => (K.alloc ob).cell b2 (fun e => e)
    replace h3 : ∀ ob, (w25.alloc ob).cell? ⟨w.heap.size, 3, none⟩ = some (.int .i64 o.c) := fun ob => (K.alloc ob).cell b3 (fun e => e)
    replace h4 : ∀ ob, (w25.alloc ob).cell? ⟨w.heap.size, 4, none⟩ = some (.int .i64 o.v.num) := fun ob => (K.alloc ob).cell b4 (fun e => e)
    replace h5 : ∀ ob, (w25.alloc ob).cell? ⟨w.heap.size, 5, none⟩ = some (.int .i64 o.v.next) := fun ob => (K.alloc ob).cell b5 (fun e => e)
    replace h6 : ∀ ob, (w25.alloc ob).cell? ⟨w.heap.size, 6, none⟩ = some (.bool o.v.dead) := fun ob => (K.alloc ob).cell b6 (fun e => e)
    go_wp2_with fail
    refine (zOCell (Z.new (by first | exact K | exact K.alloc _)) o.a).mono ?_
    rintro e w26 ⟨rfl, k1⟩
    replace K : Keeps (fun _ => False) w2 w26 := by first | exact K.trans k1 | exact (K.alloc _).trans k1
    clear k1
    replace f1 := K.cell b1 (fun e => e)
    replace f2 := K.cell b2 (fun e => e)
    replace f3 := K.cell b3 (fun e => e)
    replace f4 := K.cell b4 (fun e => e)
    replace f5 := K.cell b5 (fun e => e)
    replace f6 := K.cell b6 (fun e => e)
    replace h1 : ∀ ob, (w26.alloc ob).cell? ⟨w.heap.size, 1, none⟩ = some (.int .i64 o.a) := fun ob => (K.alloc ob).cell b1 (fun e => e)
    replace h2 : ∀ ob, (w26.alloc ob).cell? ⟨w.heap.size, 2, none⟩ = some (.int .i64 o.b) := fun ob => (K.alloc ob).cell b2 (fun e => e)
    replace h3 : ∀ ob, (w26.alloc ob).cell? ⟨w.heap.size, 3, none⟩ = some (.int .i64 o.c) := fun ob => (K.alloc ob).cell b3 (fun e => e)
    replace h4 : ∀ ob, (w26.alloc ob).cell? ⟨w.heap.size, 4, none⟩ = some (.int .i64 o.v.num) := fun ob => (K.alloc ob).cell b4 (fun e => e)
    replace h5 : ∀ ob, (w26.alloc ob).cell? ⟨w.heap.size, 5, none⟩ = some (.int .i64 o.v.next) := fun ob => (K.alloc ob).cell b5 (fun e => e)
    replace h6 : ∀ ob, (w26.alloc ob).cell? ⟨w.heap.size, 6, none⟩ = some (.bool o.v.dead) := fun ob => (K.alloc ob).cell b6 (fun e => e)
    go_wp2_with fail
    refine (zSCell (Z.new (by first | exact K | exact K.alloc _)) o.a).mono ?_
    rintro e w27 ⟨rfl, k1⟩
    replace K : Keeps (fun _ => False) w2 w27 := by first | exact K.trans k1 | exact (K.alloc _).trans k1
    clear k1
    replace f1 := K.cell b1 (fun e => e)
    replace f2 := K.cell b2 (fun e => e)
    replace f3 := K.cell b3 (fun e => e)
    replace f4 := K.cell b4 (fun e => e)
    replace f5 := K.cell b5 (fun e => e)
    replace f6 := K.cell b6 (fun e => e)
    replace h1 : ∀ ob, (w27.alloc ob).cell? ⟨w.heap.size, 1, none⟩ = some (.int .i64 o.a) := fun ob => (K.alloc ob).cell b1 (fun e => e)
    replace h2 : ∀ ob, (w27.alloc ob).cell? ⟨w.heap.size, 2, none⟩ = some (.int .i64 o.b) := fun ob => (K.alloc ob).cell b2 (fun e => e)
    replace h3 : ∀ ob, (w27.alloc ob).cell? ⟨w.heap.size, 3, none⟩ = some (.int .i64 o.c) := fun ob => (K.alloc ob).cell b3 (fun e => e)
    replace h4 : ∀ ob, (w27.alloc ob).cell? ⟨w.heap.size, 4, none⟩ = some (.int .i64 o.v.num) := fun ob => (K.alloc ob).cell b4 (fun e => e)
    replace h5 : ∀ ob, (w27.alloc ob).cell? ⟨w.heap.size, 5, none⟩ = some (.int .i64 o.v.next) := fun ob => (K.alloc ob).cell b5 (fun e => e)
    replace h6 : ∀ ob, (w27.alloc ob).cell? ⟨w.heap.size, 6, none⟩ = some (.bool o.v.dead) := fun ob => (K.alloc ob).cell b6 (fun e => e)
    go_wp2_with fail
    refine (zFCell (Z.new (by first | exact K | exact K.alloc _)) o.a).mono ?_
    rintro e w28 ⟨rfl, k1⟩
    replace K : Keeps (fun _ => False) w2 w28 := by first | exact K.trans k1 | exact (K.alloc _).trans k1
    clear k1
    replace f1 := K.cell b1 (fun e => e)
    replace f2 := K.cell b2 (fun e => e)
    replace f3 := K.cell b3 (fun e => e)
    replace f4 := K.cell b4 (fun e => e)
    replace f5 := K.cell b5 (fun e => e)
    replace f6 := K.cell b6 (fun e => e)
    replace h1 : ∀ ob, (w28.alloc ob).cell? ⟨w.heap.size, 1, none⟩ = some (.int .i64 o.a) := fun ob => (K.alloc ob).cell b1 (fun e => e)
    replace h2 : ∀ ob, (w28.alloc ob).cell? ⟨w.heap.size, 2, none⟩ = some (.int .i64 o.b) := fun ob => (K.alloc ob).cell b2 (fun e => e)
    replace h3 : ∀ ob, (w28.alloc ob).cell? ⟨w.heap.size, 3, none⟩ = some (.int .i64 o.c) := fun ob => (K.alloc ob).cell b3 (fun e => e)
    replace h4 : ∀ ob, (w28.alloc ob).cell? ⟨w.heap.size, 4, none⟩ = some (.int .i64 o.v.num) := fun ob => (K.alloc ob).cell b4 (fun e => e)
    replace h5 : ∀ ob, (w28.alloc ob).cell? ⟨w.heap.size, 5, none⟩ = some (.int .i64 o.v.next) := fun ob => (K.alloc ob).cell b5 (fun e => e)
    replace h6 : ∀ ob, (w28.alloc ob).cell? ⟨w.heap.size, 6, none⟩ = some (.bool o.v.dead) := fun ob => (K.alloc ob).cell b6 (fun e => e)
    go_wp2_with (go_at_call 13; refine (num_of _ _).mono ?_; rintro e w' ⟨rfl, rfl⟩)
    go_ret
    exact ⟨rfl, (K0.trans K).below (Nat.le_refl _) (fun _ _ e => e)⟩
end Go.Proofs.Ytdldhblhbbgloaa
