import Derived.Test.YtkkldbellngalaaRefCelX
namespace Go.Proofs.Ytkkldbellngalaa
open Go.RowKit

theorem plays_any {w : World} {mb rb : Nat} {s : Mm} {P : Nat → Prop} (h : PR w mb rb s P) (hg : s.good) (hl : (s.log.length + 1) * 56 ≤ 140737488355328) (q : Oq) :
    Calls Try.prog 15 #[.pointer (some ⟨mb, 0, none⟩), .pointer (some ⟨rb, 0, none⟩), .agg #[.int .i64 q.kind, .int .i64 q.c, .int .i64 q.n, .int .i64 q.x, .int .i64 q.y, .bool q.other]] w fun e w' =>
      e = .returned (.bool true) ∧ ∃ s' P', s'.good ∧ s'.log.length ≤ s.log.length + 1 ∧ PR w' mb rb s' P' ∧ LeftP w w' P P' := by
  by_cases k1 : q.kind = 1
  · exact plays_one h hg q k1
  by_cases k2 : q.kind = 2
  · by_cases hc : q.c ≤ 70000
    · exact plays_many h hg q k2 hc
    · exact plays_over h hg q k2 hc
  by_cases k3 : q.kind = 3
  · exact plays_size h hg q k3
  by_cases k4 : q.kind = 4
  · exact plays_begin h hg q k4
  by_cases k5 : q.kind = 5
  · exact plays_load h hg hl q k5
  by_cases k6 : q.kind = 6
  · exact plays_swap h hg hl q k6
  by_cases k7 : q.kind = 7
  · exact plays_add h hg hl q k7
  by_cases k8 : q.kind = 8
  · exact plays_took h hg hl q k8
  by_cases k9 : q.kind = 9
  · exact plays_peek h hg hl q k9
  by_cases k10 : q.kind = 10
  · exact plays_then h hg hl q k10
  by_cases k11 : q.kind = 11
  · exact plays_log h hg hl q k11
  by_cases k12 : q.kind = 12
  · exact plays_tail h hg hl q k12
  · exact plays_other h hg q (by omega)

abbrev Oc := Oq
def oq0 : Oq := ⟨0, 0, 0, 0, 0, false⟩
instance : Inhabited Oq := ⟨oq0⟩
def oa (l : List Oc) (i : Nat) : Oc := l.getD i oq0
/-- A script in memory. -/
def OL (w : World) (a : Option Addr) (l : List Oc) : Prop :=
  l.length = 0 ∨ ∃ b off, a = some ⟨b, off, none⟩ ∧ b < w.heap.size ∧ ∀ i, i < l.length →
    w.cell? ⟨b, off + i * 6, none⟩ = some (.int .i64 (oa l i).kind) ∧ w.cell? ⟨b, off + i * 6 + 1, none⟩ = some (.int .i64 (oa l i).c) ∧ w.cell? ⟨b, off + i * 6 + 2, none⟩ = some (.int .i64 (oa l i).n) ∧ w.cell? ⟨b, off + i * 6 + 3, none⟩ = some (.int .i64 (oa l i).x) ∧ w.cell? ⟨b, off + i * 6 + 4, none⟩ = some (.int .i64 (oa l i).y) ∧ w.cell? ⟨b, off + i * 6 + 5, none⟩ = some (.bool (oa l i).other)

/-- The two pairs. -/
structure AI (w0 w : World) (M R m0 m1 r0 r1 : Nat) (s0 s1 : Mm) (P0 P1 : Nat → Prop) : Prop where
  a0 : w.cell? ⟨M, 0, none⟩ = some (.pointer (some ⟨m0, 0, none⟩))
  a1 : w.cell? ⟨M, 1, none⟩ = some (.pointer (some ⟨m1, 0, none⟩))
  b0 : w.cell? ⟨R, 0, none⟩ = some (.pointer (some ⟨r0, 0, none⟩))
  b1 : w.cell? ⟨R, 1, none⟩ = some (.pointer (some ⟨r1, 0, none⟩))
  p0 : PR w m0 r0 s0 P0
  p1 : PR w m1 r1 s1 P1
  dis : ∀ k, P0 k → ¬ P1 k
  m0 : ¬ P0 M
  m1 : ¬ P1 M
  r0 : ¬ P0 R
  r1 : ¬ P1 R
  new0 : ∀ k, P0 k → w0.heap.size ≤ k
  new1 : ∀ k, P1 k → w0.heap.size ≤ k
  keeps : Keeps (fun _ => False) w0 w

section
variable {w0 w w' : World} {M R m0 m1 r0 r1 : Nat} {s0 s1 s' : Mm} {P0 P1 P' : Nat → Prop}
theorem AI.step0 (h : AI w0 w M R m0 m1 r0 r1 s0 s1 P0 P1) (p : PR w' m0 r0 s' P') (l : LeftP w w' P0 P') : AI w0 w' M R m0 m1 r0 r1 s' s1 P' P1 where
  a0 := l.keeps.cell h.a0 h.m0
  a1 := l.keeps.cell h.a1 h.m0
  b0 := l.keeps.cell h.b0 h.r0
  b1 := l.keeps.cell h.b1 h.r0
  p0 := p
  p1 := h.p1.keep l.keeps (fun i hi e => h.dis i e hi)
  dis k hk hk' := (l.old k hk).elim (fun e => h.dis k e hk') (fun e => by have := h.p1.lt hk'; omega)
  m0 e := (l.old M e).elim h.m0 (fun e => by have := World.block_lt_of_cell? _ _ h.a0; simp at this; omega)
  m1 := h.m1
  r0 e := (l.old R e).elim h.r0 (fun e => by have := World.block_lt_of_cell? _ _ h.b0; simp at this; omega)
  r1 := h.r1
  new0 k hk := (l.old k hk).elim (h.new0 k) (fun e => Nat.le_trans h.keeps.size e)
  new1 := h.new1
  keeps := h.keeps.trans' l.keeps (fun _ _ e => e) (fun i hi e => by have := h.new0 i e; omega)
theorem AI.step1 (h : AI w0 w M R m0 m1 r0 r1 s0 s1 P0 P1) (p : PR w' m1 r1 s' P') (l : LeftP w w' P1 P') : AI w0 w' M R m0 m1 r0 r1 s0 s' P0 P' where
  a0 := l.keeps.cell h.a0 h.m1
  a1 := l.keeps.cell h.a1 h.m1
  b0 := l.keeps.cell h.b0 h.r1
  b1 := l.keeps.cell h.b1 h.r1
  p0 := h.p0.keep l.keeps (fun i hi e => h.dis i hi e)
  p1 := p
  dis k hk hk' := (l.old k hk').elim (fun e => h.dis k hk e) (fun e => by have := h.p0.lt hk; omega)
  m0 := h.m0
  m1 e := (l.old M e).elim h.m1 (fun e => by have := World.block_lt_of_cell? _ _ h.a0; simp at this; omega)
  r0 := h.r0
  r1 e := (l.old R e).elim h.r1 (fun e => by have := World.block_lt_of_cell? _ _ h.b0; simp at this; omega)
  new0 := h.new0
  new1 k hk := (l.old k hk).elim (h.new1 k) (fun e => Nat.le_trans h.keeps.size e)
  keeps := h.keeps.trans' l.keeps (fun _ _ e => e) (fun i hi e => by have := h.new1 i e; omega)
theorem AI.new (h : AI w0 w M R m0 m1 r0 r1 s0 s1 P0 P1) (k : Keeps (fun _ => False) w w') : AI w0 w' M R m0 m1 r0 r1 s0 s1 P0 P1 := h.step0 (h.p0.new k) (LeftP.new k)
end
theorem good_new : Mm.good Mm.new := ⟨fine_new, Mm.rise_new, by intro h; simp [Mm.new] at h, by intro h; simp [Mm.new] at h, by intro h; simp [Mm.new] at h⟩

set_option maxHeartbeats 6400000 in
set_option maxRecDepth 1000000 in
theorem alike_any {w : World} {a : Option Addr} {l : List Oc} (h : OL w a l) (hl : l.length ≤ 1048576) (cap : Nat) (lo hi : Int) :
    Calls Try.prog 9 #[.slice a l.length cap, .int .i64 lo, .int .i64 hi] w fun e w' => e = .returned (.bool true) ∧ Below w.heap.size w w' := by
  have N1 := new_any
  have N2 := new_any
  have N3 := rnew_any
  have N4 := rnew_any
  go_enter Try.func9, Try.ntmps9
  go_wp2_with (first | (go_at_call 10; refine (N1 _).mono ?_; clear N1; rintro e w1 ⟨rfl, hM1, k1⟩) | (go_at_call 10; refine (N2 _).mono ?_; clear N2; rintro e w2 ⟨rfl, hM2, k2⟩) | (go_at_call 11; refine (N3 _).mono ?_; clear N3; rintro e w3 ⟨rfl, hR1, k3⟩) | (go_at_call 11; refine (N4 _).mono ?_; clear N4; rintro e w4 ⟨rfl, hR2, k4⟩))
  have z1 := hM1.lt w.heap.size (by simp)
  have z2 := hM2.lt w1.heap.size (by simp)
  simp only [World.size_alloc] at hR1
  have z3 := hR1.lt rfl
  have z4 := hR2.lt rfl
  have z0 := k1.size
  have q2 := k2.size
  have q4 := k4.size
  obtain ⟨W5, hW5⟩ : ∃ W5, W5 = w4.alloc (.cells #[.pointer (some ⟨w2.heap.size + 1, 0, none⟩), .pointer (some ⟨w3.heap.size, 0, none⟩)] 30) := ⟨_, rfl⟩
  have K5 : Keeps (fun _ => False) w4 W5 := by rw [hW5]; exact (Keeps.refl _ w4).alloc _
  have K4 := k4.trans K5
  have K3 := k3.trans K4
  have K2 : Keeps (fun _ => False) w2 W5 := ((Keeps.refl _ w2).alloc _).trans K3
  have K1 := k2.trans K2
  have A0 : AI w W5 w2.heap.size w4.heap.size w.heap.size w1.heap.size (w2.heap.size + 1) w3.heap.size Mm.new Mm.new (fun k => k ∈ [w.heap.size] ∨ k = w2.heap.size + 1) (fun k => k ∈ [w1.heap.size] ∨ k = w3.heap.size) := {
    a0 := K3.cell (by simp) (fun e => e)
    a1 := K3.cell (by simp) (fun e => e)
    b0 := by rw [hW5]; simp
    b1 := by rw [hW5]; simp
    p0 := ⟨_, _, hM1.new K1, hR1.new K4, (fun k hk e => by simp at hk; omega), rfl⟩
    p1 := ⟨_, _, hM2.new K2, hR2.new K5, (fun k hk e => by simp at hk; omega), rfl⟩
    dis := fun k h1 h2 => by simp at h1 h2; omega
    m0 := fun e => by simp at e; omega
    m1 := fun e => by simp at e; omega
    r0 := fun e => by simp at e; omega
    r1 := fun e => by simp at e; omega
    new0 := fun k e => by simp at e; omega
    new1 := fun k e => by simp at e; omega
    keeps := k1.trans K1 }
  (try simp only [World.size_alloc] at ⊢)
  rw [← hW5]
  clear hW5 K1 K2 K3 K4 K5 hM1 hM2 hR1 hR2 k1 k2 k3 k4 z0 z1 z2 z3 z4 q2 q4
  generalize w2.heap.size + 1 = r0 at *
  generalize w3.heap.size = r1 at *
  generalize w4.heap.size = R at *
  generalize w2.heap.size = M at *
  generalize w1.heap.size = m1 at *
  obtain ⟨m0, HM0⟩ : ∃ m0, Hid (m0 = w.heap.size) := ⟨_, rfl⟩
  rw [← HM0.out] at A0 ⊢
  generalize (fun k => k ∈ [m0] ∨ k = r0) = Q0 at A0
  generalize (fun k => k ∈ [m1] ∨ k = r1) = Q1 at A0
  go_loopw [9] (fun i wr => ∃ k : Nat, k ≤ 2 ∧ i = .int .i64 (k : Int) ∧ ∃ s0 s1 P0 P1, s0.good ∧ s1.good ∧ s0.log = [] ∧ s1.log = [] ∧ AI w wr M R m0 m1 r0 r1 s0 s1 P0 P1) (fun i _ => 2 - (intOf i).toNat)
  case atStart => exact ⟨0, by omega, rfl, _, _, _, _, good_new, good_new, rfl, rfl, A0⟩
  case round =>
    clear A0
    obtain ⟨k, hk, rfl, s0, s1, P0, P1, g0, g1, e0, e1, A⟩ := hrel
    by_cases k0 : k = 0
    · subst k0
      skip
      · obtain ⟨c, er, s', hg', hlog, _, t1, t2⟩ := twin_make (mb := m0) (rb := r0) g0 (PX.x A.p0) 7
        simp only at t1 t2
        have HA := (show Hid _ from A)
        have x0 := A.a0
        have y0 := A.b0
        have ny := A.r0
        have p := A.p0
        clear A
        go_wp2_with (first | (go_at_call 12; refine (t1 _ _ p).mono ?_; clear t1; rintro e w6 ⟨rfl, P6, h6, l6⟩; have y1 := l6.keeps.cell y0 ny) | (go_at_call 13; refine (t2 _ _ h6).mono ?_; clear t2; rintro e w7 ⟨rfl, P7, h7, l7⟩) | (go_at_call 14; refine (num_any _ _).mono ?_; rintro e w8 ⟨rfl, rfl⟩))
        go_roundw
        case rel => exact ⟨1, by omega, by go_num, s', s1, _, P1, hg', g1, hlog.trans e0, e1, HA.out.step0 h7 (l6.trans l7)⟩
        case measure => simp [intOf]
    · by_cases k1 : k = 1
      · subst k1
        skip
        · obtain ⟨c, er, s', hg', hlog, _, t1, t2⟩ := twin_make (mb := m1) (rb := r1) g1 (PX.x A.p1) 7
          simp only at t1 t2
          have HA := (show Hid _ from A)
          have x0 := A.a1
          have y0 := A.b1
          have ny := A.r1
          have p := A.p1
          clear A
          go_wp2_with (first | (go_at_call 12; refine (t1 _ _ p).mono ?_; clear t1; rintro e w6 ⟨rfl, P6, h6, l6⟩; have y1 := l6.keeps.cell y0 ny) | (go_at_call 13; refine (t2 _ _ h6).mono ?_; clear t2; rintro e w7 ⟨rfl, P7, h7, l7⟩) | (go_at_call 14; refine (num_any _ _).mono ?_; rintro e w8 ⟨rfl, rfl⟩))
          go_roundw
          case rel => exact ⟨2, by omega, by go_num, s0, s', P0, _, g0, hg', e0, hlog.trans e1, HA.out.step1 h7 (l6.trans l7)⟩
          case measure => simp [intOf]
      · obtain rfl : k = 2 := by omega
        clear k0 k1 hk
        rw [show ((2 : Nat) : Int) = 2 from rfl]
        go_wp2_with fail
        go_loopw [57] (fun i wr => ∃ k : Nat, k ≤ l.length ∧ i = .int .i64 (k : Int) ∧ ∃ s0 s1 P0 P1, s0.good ∧ s1.good ∧ s0.log.length ≤ k ∧ s1.log.length ≤ k ∧ AI w wr M R m0 m1 r0 r1 s0 s1 P0 P1) (fun i _ => l.length - (intOf i).toNat)
        case atStart => exact ⟨0, by omega, rfl, _, _, _, _, g0, g1, by rw [e0]; simp, by rw [e1]; simp, A⟩
        case round =>
          clear A e0 e1 g0 g1
          clear s0 s1 P0 P1
          obtain ⟨k, hk, rfl, s0, s1, P0, P1, g0, g1, e0, e1, A⟩ := hrel
          by_cases hlt : k < l.length
          · obtain ⟨b, off, rfl, hb, hc⟩ := h.resolve_left (by omega)
            obtain ⟨c0, c1, c2, c3, c4, c5⟩ := hc k hlt
            replace c0 := A.keeps.cell c0 (fun e => e)
            replace c1 := A.keeps.cell c1 (fun e => e)
            replace c2 := A.keeps.cell c2 (fun e => e)
            replace c3 := A.keeps.cell c3 (fun e => e)
            replace c4 := A.keeps.cell c4 (fun e => e)
            replace c5 := A.keeps.cell c5 (fun e => e)
            clear hc h
            generalize oa l k = q at c0 c1 c2 c3 c4 c5
            obtain ⟨qk, qc, qn, qx, qy, qo⟩ := q
            simp only at c0 c1 c2 c3 c4 c5
            have hltI : (k : Int) < (l.length : Int) := by omega
            rcases qo
            · have pl := fun (W' : World) (K' : Keeps (fun _ => False) wr W') => plays_any (A.p0.new K') g0 (by omega) ⟨qk, qc, qn, qx, qy, false⟩
              simp only at pl
              have HA := (show Hid _ from A)
              have nM := A.m0
              have nR := A.r0
              have nB : ¬ P0 wr.heap.size := fun e => Nat.lt_irrefl _ (A.p0.lt e)
              have x0 := fun o => ((Keeps.refl (fun _ => False) wr).alloc o).cell A.a0 (fun e => e)
              have y0 := fun o => ((Keeps.refl (fun _ => False) wr).alloc o).cell A.b0 (fun e => e)
              clear A
              go_wp2_with fail
              obtain ⟨W, hW⟩ : ∃ W, W = wr.alloc (.cells #[.int .i64 qk, .int .i64 qc, .int .i64 qn, .int .i64 qx, .int .i64 qy, .bool false] 38) := ⟨_, rfl⟩
              have KW : Keeps (fun _ => False) wr W := by rw [hW]; exact (Keeps.refl _ wr).alloc _
              have x1 := x0 (.cells #[.int .i64 qk, .int .i64 qc, .int .i64 qn, .int .i64 qx, .int .i64 qy, .bool false] 38)
              have y1 := y0 (.cells #[.int .i64 qk, .int .i64 qc, .int .i64 qn, .int .i64 qx, .int .i64 qy, .bool false] 38)
              have o0 : W.cell? ⟨wr.heap.size, 0, none⟩ = some (.int .i64 qk) := by rw [hW]; simp
              have o1 : W.cell? ⟨wr.heap.size, 1, none⟩ = some (.int .i64 qc) := by rw [hW]; simp
              have o2 : W.cell? ⟨wr.heap.size, 2, none⟩ = some (.int .i64 qn) := by rw [hW]; simp
              have o3 : W.cell? ⟨wr.heap.size, 3, none⟩ = some (.int .i64 qx) := by rw [hW]; simp
              have o4 : W.cell? ⟨wr.heap.size, 4, none⟩ = some (.int .i64 qy) := by rw [hW]; simp
              have o5 : W.cell? ⟨wr.heap.size, 5, none⟩ = some (.bool false) := by rw [hW]; simp
              rw [← hW] at x1 y1 ⊢
              clear hW x0 y0
              have pl' := pl W.drew KW.drew
              clear pl
              go_region_held3 (fun w' => w'.cell? ⟨M, 0, none⟩ = some (.pointer (some ⟨m0, 0, none⟩)) ∧ w'.cell? ⟨R, 0, none⟩ = some (.pointer (some ⟨r0, 0, none⟩)) ∧ w'.cell? ⟨wr.heap.size, 0, none⟩ = some (.int .i64 qk) ∧ w'.cell? ⟨wr.heap.size, 1, none⟩ = some (.int .i64 qc) ∧ w'.cell? ⟨wr.heap.size, 2, none⟩ = some (.int .i64 qn) ∧ w'.cell? ⟨wr.heap.size, 3, none⟩ = some (.int .i64 qx) ∧ w'.cell? ⟨wr.heap.size, 4, none⟩ = some (.int .i64 qy) ∧ w'.cell? ⟨wr.heap.size, 5, none⟩ = some (.bool false)) (go_keep) ((go_at_call 15; refine pl'.mono ?_; rintro e w9 ⟨rfl, sx, Px, gx, lx, px, ll⟩; have v1 := ll.keeps.cell (show W.drew.cell? _ = _ from x1) nM; have v2 := ll.keeps.cell (show W.drew.cell? _ = _ from y1) nR; have v3 := ll.keeps.cell (show W.drew.cell? _ = _ from o0) nB; have v4 := ll.keeps.cell (show W.drew.cell? _ = _ from o1) nB; have v5 := ll.keeps.cell (show W.drew.cell? _ = _ from o2) nB; have v6 := ll.keeps.cell (show W.drew.cell? _ = _ from o3) nB; have v7 := ll.keeps.cell (show W.drew.cell? _ = _ from o4) nB; have v8 := ll.keeps.cell (show W.drew.cell? _ = _ from o5) nB))
              all_goals
                go_wp2_with fail
                go_roundw
                case rel => exact ⟨k + 1, by omega, by go_num, sx, s1, _, P1, gx, g1, by omega, by omega, (HA.out.new KW.drew).step0 px ll⟩
                case measure => simp [intOf]; omega
            · have pl := fun (W' : World) (K' : Keeps (fun _ => False) wr W') => plays_any (A.p1.new K') g1 (by omega) ⟨qk, qc, qn, qx, qy, true⟩
              simp only at pl
              have HA := (show Hid _ from A)
              have nM := A.m1
              have nR := A.r1
              have nB : ¬ P1 wr.heap.size := fun e => Nat.lt_irrefl _ (A.p1.lt e)
              have x0 := fun o => ((Keeps.refl (fun _ => False) wr).alloc o).cell A.a1 (fun e => e)
              have y0 := fun o => ((Keeps.refl (fun _ => False) wr).alloc o).cell A.b1 (fun e => e)
              clear A
              go_wp2_with fail
              obtain ⟨W, hW⟩ : ∃ W, W = wr.alloc (.cells #[.int .i64 qk, .int .i64 qc, .int .i64 qn, .int .i64 qx, .int .i64 qy, .bool true] 38) := ⟨_, rfl⟩
              have KW : Keeps (fun _ => False) wr W := by rw [hW]; exact (Keeps.refl _ wr).alloc _
              have x1 := x0 (.cells #[.int .i64 qk, .int .i64 qc, .int .i64 qn, .int .i64 qx, .int .i64 qy, .bool true] 38)
              have y1 := y0 (.cells #[.int .i64 qk, .int .i64 qc, .int .i64 qn, .int .i64 qx, .int .i64 qy, .bool true] 38)
              have o0 : W.cell? ⟨wr.heap.size, 0, none⟩ = some (.int .i64 qk) := by rw [hW]; simp
              have o1 : W.cell? ⟨wr.heap.size, 1, none⟩ = some (.int .i64 qc) := by rw [hW]; simp
              have o2 : W.cell? ⟨wr.heap.size, 2, none⟩ = some (.int .i64 qn) := by rw [hW]; simp
              have o3 : W.cell? ⟨wr.heap.size, 3, none⟩ = some (.int .i64 qx) := by rw [hW]; simp
              have o4 : W.cell? ⟨wr.heap.size, 4, none⟩ = some (.int .i64 qy) := by rw [hW]; simp
              have o5 : W.cell? ⟨wr.heap.size, 5, none⟩ = some (.bool true) := by rw [hW]; simp
              rw [← hW] at x1 y1 ⊢
              clear hW x0 y0
              have pl' := pl W.drew KW.drew
              clear pl
              go_region_held3 (fun w' => w'.cell? ⟨M, 1, none⟩ = some (.pointer (some ⟨m1, 0, none⟩)) ∧ w'.cell? ⟨R, 1, none⟩ = some (.pointer (some ⟨r1, 0, none⟩)) ∧ w'.cell? ⟨wr.heap.size, 0, none⟩ = some (.int .i64 qk) ∧ w'.cell? ⟨wr.heap.size, 1, none⟩ = some (.int .i64 qc) ∧ w'.cell? ⟨wr.heap.size, 2, none⟩ = some (.int .i64 qn) ∧ w'.cell? ⟨wr.heap.size, 3, none⟩ = some (.int .i64 qx) ∧ w'.cell? ⟨wr.heap.size, 4, none⟩ = some (.int .i64 qy) ∧ w'.cell? ⟨wr.heap.size, 5, none⟩ = some (.bool true)) (go_keep) ((go_at_call 15; refine pl'.mono ?_; rintro e w9 ⟨rfl, sx, Px, gx, lx, px, ll⟩; have v1 := ll.keeps.cell (show W.drew.cell? _ = _ from x1) nM; have v2 := ll.keeps.cell (show W.drew.cell? _ = _ from y1) nR; have v3 := ll.keeps.cell (show W.drew.cell? _ = _ from o0) nB; have v4 := ll.keeps.cell (show W.drew.cell? _ = _ from o1) nB; have v5 := ll.keeps.cell (show W.drew.cell? _ = _ from o2) nB; have v6 := ll.keeps.cell (show W.drew.cell? _ = _ from o3) nB; have v7 := ll.keeps.cell (show W.drew.cell? _ = _ from o4) nB; have v8 := ll.keeps.cell (show W.drew.cell? _ = _ from o5) nB))
              all_goals
                go_wp2_with fail
                go_roundw
                case rel => exact ⟨k + 1, by omega, by go_num, s0, sx, P0, _, g0, gx, by omega, by omega, (HA.out.new KW.drew).step1 px ll⟩
                case measure => simp [intOf]; omega
          · have hltI : ¬ (k : Int) < (l.length : Int) := by omega
            obtain ⟨F0, B0, hM0, hR0, _, _⟩ := A.p0
            obtain ⟨F1, B1, hM1, hR1, _, _⟩ := A.p1
            have HA := (show Hid _ from A)
            have x0 := ks_cell A.a0
            have x1 := ks_cell A.a1
            have y0 := ks_cell A.b0
            have y1 := ks_cell A.b1
            have S0 := fun (u : KS wr) => size_any (hM0.new u.property)
            have S1 := fun (u : KS wr) => size_any (hM1.new u.property)
            have S2 := fun (u : KS wr) => rsize_any (hR0.new u.property)
            have S3 := fun (u : KS wr) => rsize_any (hR1.new u.property)
            have hNE : Nonempty (KS wr) := ⟨⟨wr, Keeps.refl _ wr⟩⟩
            clear A h hM0 hM1 hR0 hR1
            go_wp2_with fail
            refine wp_region_ks (by kernel_rfl) (by kernel_rfl) ?_
            repeat (go_big_quiet_step (first | (go_at_call 16; refine (S0 _).mono ?_; rintro e w2 ⟨rfl, rfl⟩; exact ⟨rfl, ⟨_, KS.property _⟩, rfl⟩) | (go_at_call 16; refine (S1 _).mono ?_; rintro e w2 ⟨rfl, rfl⟩; exact ⟨rfl, ⟨_, KS.property _⟩, rfl⟩) | (go_at_call 17; refine (S2 _).mono ?_; rintro e w2 ⟨rfl, rfl⟩; exact ⟨rfl, ⟨_, KS.property _⟩, rfl⟩) | (go_at_call 17; refine (S3 _).mono ?_; rintro e w2 ⟨rfl, rfl⟩; exact ⟨rfl, ⟨_, KS.property _⟩, rfl⟩)))
            refine wpQuiet_nil ?_
            rintro _ ⟨u, rfl⟩
            have KU := u.property
            generalize u.val = W4 at *
            go_wp2_with fail
            go_ret
            exact ⟨rfl, (HA.out.keeps.trans KU).below (Nat.le_refl _) (fun _ _ e => e)⟩
end Go.Proofs.Ytkkldbellngalaa
