import Derived.Test.YtkkldbellngalaaRefCelQ
namespace Go.Proofs.Ytkkldbellngalaa
open Go.RowKit

set_option maxHeartbeats 3200000 in
set_option maxRecDepth 1000000 in
theorem made_one {w : World} {mb rb : Nat} {s : Mm} {P : Nat → Prop} (h : PR w mb rb s P) (hg : s.good) (q : Oq) (hk : q.kind = 1) :
    Calls Try.prog 18 #[.pointer (some ⟨mb, 0, none⟩), .pointer (some ⟨rb, 0, none⟩), .agg #[.int .i64 q.kind, .int .i64 q.c, .int .i64 q.n, .int .i64 q.x, .int .i64 q.y, .bool q.other]] w fun e w' =>
      e = .returned (.bool true) ∧ ∃ s' P', s'.good ∧ s'.log.length ≤ s.log.length + 1 ∧ PR w' mb rb s' P' ∧ LeftP w w' P P' := by
  obtain ⟨qk, qc, qn, qx, qy, qo⟩ := q
  obtain rfl : qk = 1 := hk
  simp only
  obtain ⟨W, hW⟩ : ∃ W, W = w.alloc (.cells #[.int .i64 1, .int .i64 qc, .int .i64 qn, .int .i64 qx, .int .i64 qy, .bool qo] 38) := ⟨_, rfl⟩
  have K0 : Keeps (fun _ => False) w W := by rw [hW]; exact (Keeps.refl _ w).alloc _
  have c3 : W.cell? ⟨w.heap.size, 3, none⟩ = some (.int .i64 qx) := by rw [hW]; simp
  have n0 := notP h
  have h0 := h.new K0
  have L0 : Hid (LeftP w W P P) := LeftP.new K0
  have hn := num_any
  go_enter Try.func18, Try.ntmps18
  go_wp2_with fail
  rw [← hW]
  clear hW
  have lW : w.heap.size < W.heap.size := World.block_lt_of_cell? _ _ c3
  clear K0 h
  go_loopw [8] (fun i wr => ∃ (k : Nat) (s1 : Mm) (P1 : Nat → Prop), i = .int .i64 (k : Int) ∧ s1.good ∧ s1.log = s.log ∧ PR wr mb rb s1 P1 ∧ LeftP W wr P P1) (fun i _ => (1 - intOf i).toNat)
  case atStart => exact ⟨0, s, P, rfl, hg, rfl, h0, LeftP.refl _ _⟩
  case round =>
    obtain ⟨k, s1, P1, rfl, g1, e1, h1, l1⟩ := hrel
    have n1 : ¬ P1 w.heap.size := fun e => (l1.old _ e).elim n0 (fun e => by omega)
    have d3 := l1.keeps.cell c3 n0
    by_cases hlt : (k : Int) < 1
    · obtain ⟨c, er, s2, g2, e2, _, t1, t2⟩ := twin_make (mb := mb) (rb := rb) g1 (PX.x h1) qx
      simp only at t1 t2
      have m1 := t1 wr P1 h1
      clear t1 c3 h0
      go_wp2_with (first | (go_at_call 12; refine m1.mono ?_; clear m1; rintro e w1 ⟨rfl, P2, h2, l2⟩; have f3 := l2.far n1 d3; have m2 := t2 w1 P2 h2) | (go_at_call 13; refine m2.mono ?_; clear m2; rintro e w2 ⟨rfl, P3, h3, l3⟩) | (go_at_call 14; refine (hn _ _).mono ?_; rintro e w3 ⟨rfl, rfl⟩))
      go_roundw
      case rel => exact ⟨k + 1, s2, P3, by go_num, g2, e2.trans e1, h3, (l1.trans l2).trans l3⟩
      case measure => simp [intOf]; omega
    · obtain ⟨t1, t2⟩ := twin_size (s := s1) (mb := mb) (rb := rb)
      simp only at t1 t2
      have m1 := t1 wr P1 h1
      clear t1 c3 h0
      go_wp2_with (first | (go_at_call 16; refine m1.mono ?_; clear m1; rintro e w1 ⟨rfl, P2, h2, l2⟩; have m2 := t2 w1 P2 h2) | (go_at_call 17; refine m2.mono ?_; clear m2; rintro e w2 ⟨rfl, P3, h3, l3⟩))
      go_ret
      exact ⟨rfl, s1, P3, g1, by rw [e1]; exact Nat.le_succ _, h3, ((L0.out.trans l1).trans l2).trans l3⟩
set_option maxHeartbeats 3200000 in
set_option maxRecDepth 1000000 in
theorem made_none {w : World} {mb rb : Nat} {s : Mm} {P : Nat → Prop} (h : PR w mb rb s P) (hg : s.good) (q : Oq) (hk : q.kind = 3) :
    Calls Try.prog 18 #[.pointer (some ⟨mb, 0, none⟩), .pointer (some ⟨rb, 0, none⟩), .agg #[.int .i64 q.kind, .int .i64 q.c, .int .i64 q.n, .int .i64 q.x, .int .i64 q.y, .bool q.other]] w fun e w' =>
      e = .returned (.bool true) ∧ ∃ s' P', s'.good ∧ s'.log.length ≤ s.log.length + 1 ∧ PR w' mb rb s' P' ∧ LeftP w w' P P' := by
  obtain ⟨qk, qc, qn, qx, qy, qo⟩ := q
  obtain rfl : qk = 3 := hk
  simp only
  obtain ⟨W, hW⟩ : ∃ W, W = w.alloc (.cells #[.int .i64 3, .int .i64 qc, .int .i64 qn, .int .i64 qx, .int .i64 qy, .bool qo] 38) := ⟨_, rfl⟩
  have K0 : Keeps (fun _ => False) w W := by rw [hW]; exact (Keeps.refl _ w).alloc _
  have c3 : W.cell? ⟨w.heap.size, 3, none⟩ = some (.int .i64 qx) := by rw [hW]; simp
  have h0 := h.new K0
  have L0 : Hid (LeftP w W P P) := LeftP.new K0
  go_enter Try.func18, Try.ntmps18
  go_wp2_with fail
  rw [← hW]
  clear hW
  clear K0 h
  go_loopw [8] (fun i wr => ∃ (k : Nat) (s1 : Mm) (P1 : Nat → Prop), i = .int .i64 (k : Int) ∧ s1.good ∧ s1.log = s.log ∧ PR wr mb rb s1 P1 ∧ LeftP W wr P P1) (fun i _ => (0 - intOf i).toNat)
  case atStart => exact ⟨0, s, P, rfl, hg, rfl, h0, LeftP.refl _ _⟩
  case round =>
    obtain ⟨k, s1, P1, rfl, g1, e1, h1, l1⟩ := hrel
    by_cases hlt : (k : Int) < 0
    · omega
    · obtain ⟨t1, t2⟩ := twin_size (s := s1) (mb := mb) (rb := rb)
      simp only at t1 t2
      have m1 := t1 wr P1 h1
      clear t1 c3 h0
      go_wp2_with (first | (go_at_call 16; refine m1.mono ?_; clear m1; rintro e w1 ⟨rfl, P2, h2, l2⟩; have m2 := t2 w1 P2 h2) | (go_at_call 17; refine m2.mono ?_; clear m2; rintro e w2 ⟨rfl, P3, h3, l3⟩))
      go_ret
      exact ⟨rfl, s1, P3, g1, by rw [e1]; exact Nat.le_succ _, h3, ((L0.out.trans l1).trans l2).trans l3⟩
set_option maxHeartbeats 3200000 in
set_option maxRecDepth 1000000 in
theorem made_over {w : World} {mb rb : Nat} {s : Mm} {P : Nat → Prop} (h : PR w mb rb s P) (hg : s.good) (q : Oq) (hk : q.kind = 2) (hc : ¬ q.c ≤ 70000) :
    Calls Try.prog 18 #[.pointer (some ⟨mb, 0, none⟩), .pointer (some ⟨rb, 0, none⟩), .agg #[.int .i64 q.kind, .int .i64 q.c, .int .i64 q.n, .int .i64 q.x, .int .i64 q.y, .bool q.other]] w fun e w' =>
      e = .returned (.bool true) ∧ ∃ s' P', s'.good ∧ s'.log.length ≤ s.log.length + 1 ∧ PR w' mb rb s' P' ∧ LeftP w w' P P' := by
  obtain ⟨qk, qc, qn, qx, qy, qo⟩ := q
  obtain rfl : qk = 2 := hk
  have hcc : ¬ qc ≤ 70000 := hc
  clear hc
  simp only
  obtain ⟨W, hW⟩ : ∃ W, W = w.alloc (.cells #[.int .i64 2, .int .i64 qc, .int .i64 qn, .int .i64 qx, .int .i64 qy, .bool qo] 38) := ⟨_, rfl⟩
  have K0 : Keeps (fun _ => False) w W := by rw [hW]; exact (Keeps.refl _ w).alloc _
  have c3 : W.cell? ⟨w.heap.size, 3, none⟩ = some (.int .i64 qx) := by rw [hW]; simp
  have h0 := h.new K0
  have L0 : Hid (LeftP w W P P) := LeftP.new K0
  go_enter Try.func18, Try.ntmps18
  go_wp2_with fail
  rw [← hW]
  clear hW
  clear K0 h
  go_loopw [8] (fun i wr => ∃ (k : Nat) (s1 : Mm) (P1 : Nat → Prop), i = .int .i64 (k : Int) ∧ s1.good ∧ s1.log = s.log ∧ PR wr mb rb s1 P1 ∧ LeftP W wr P P1) (fun i _ => (0 - intOf i).toNat)
  case atStart => exact ⟨0, s, P, rfl, hg, rfl, h0, LeftP.refl _ _⟩
  case round =>
    obtain ⟨k, s1, P1, rfl, g1, e1, h1, l1⟩ := hrel
    by_cases hlt : (k : Int) < 0
    · omega
    · obtain ⟨t1, t2⟩ := twin_size (s := s1) (mb := mb) (rb := rb)
      simp only at t1 t2
      have m1 := t1 wr P1 h1
      clear t1 c3 h0
      go_wp2_with (first | (go_at_call 16; refine m1.mono ?_; clear m1; rintro e w1 ⟨rfl, P2, h2, l2⟩; have m2 := t2 w1 P2 h2) | (go_at_call 17; refine m2.mono ?_; clear m2; rintro e w2 ⟨rfl, P3, h3, l3⟩))
      go_ret
      exact ⟨rfl, s1, P3, g1, by rw [e1]; exact Nat.le_succ _, h3, ((L0.out.trans l1).trans l2).trans l3⟩
end Go.Proofs.Ytkkldbellngalaa
