import Derived.Test.YtkkldbellngalaaRefCelJ
namespace Go.Proofs.Ytkkldbellngalaa
open Go.RowKit

/-- A step of a script. -/
structure Oq where
  kind : Int
  c : Int
  n : Int
  x : Int
  y : Int
  other : Bool

theorem notP {w : World} {mb rb : Nat} {s s' : Mm} {P : Nat → Prop} (h : Half w mb rb s s' P) : ¬ P w.heap.size := fun e => Nat.lt_irrefl _ (h.lt e)
theorem LeftP.far {w W w1 : World} {P P1 : Nat → Prop} {o : Nat} {v : Value} (l : LeftP W w1 P P1) (n0 : ¬ P w.heap.size) (c : W.cell? ⟨w.heap.size, o, none⟩ = some v) : w1.cell? ⟨w.heap.size, o, none⟩ = some v := l.keeps.cell c n0

set_option maxHeartbeats 3200000 in
set_option maxRecDepth 1000000 in
theorem taken_load {w : World} {mb rb : Nat} {s : Mm} {P : Nat → Prop} (h : PR w mb rb s P) (hg : s.good) (hl : (s.log.length + 1) * 56 ≤ 140737488355328) (q : Oq) (hk : q.kind = 5) :
    Calls Try.prog 21 #[.pointer (some ⟨mb, 0, none⟩), .pointer (some ⟨rb, 0, none⟩), .agg #[.int .i64 q.kind, .int .i64 q.c, .int .i64 q.n, .int .i64 q.x, .int .i64 q.y, .bool q.other]] w fun e w' =>
      e = .returned (.bool true) ∧ ∃ s' P', s'.good ∧ s'.log.length ≤ s.log.length + 1 ∧ PR w' mb rb s' P' ∧ LeftP w w' P P' := by
  obtain ⟨v, er, s', g', l', t1, t2⟩ := twin_load (mb := mb) (rb := rb) hg hl q.c
  simp only at t1 t2
  obtain ⟨W, hW⟩ : ∃ W, W = w.alloc (.cells #[.int .i64 5, .int .i64 q.c, .int .i64 q.n, .int .i64 q.x, .int .i64 q.y, .bool q.other] 38) := ⟨_, rfl⟩
  have K0 : Keeps (fun _ => False) w W := by rw [hW]; exact (Keeps.refl _ w).alloc _
  have c0 : W.cell? ⟨w.heap.size, 0, none⟩ = some (.int .i64 5) := by rw [hW]; simp
  have c1 : W.cell? ⟨w.heap.size, 1, none⟩ = some (.int .i64 q.c) := by rw [hW]; simp
  have c2 : W.cell? ⟨w.heap.size, 2, none⟩ = some (.int .i64 q.n) := by rw [hW]; simp
  have c3 : W.cell? ⟨w.heap.size, 3, none⟩ = some (.int .i64 q.x) := by rw [hW]; simp
  have c4 : W.cell? ⟨w.heap.size, 4, none⟩ = some (.int .i64 q.y) := by rw [hW]; simp
  have n0 := notP h
  have m1 := t1 W P (h.new K0)
  have L0 : Hid (LeftP w W P P) := LeftP.new K0
  have hn := num_any
  clear t1 h
  go_enter Try.func21, Try.ntmps21
  go_wp2_with fail
  rw [← hW]
  clear hW
  go_wp2_with (first | (go_at_call 27; refine m1.mono ?_; clear m1; rintro e w1 ⟨rfl, P1, h1, l1⟩; have d1 := l1.far n0 c1; have d2 := l1.far n0 c2; have d3 := l1.far n0 c3; have d4 := l1.far n0 c4; have m2 := t2 w1 P1 h1) | (go_at_call 28; refine m2.mono ?_; clear m2; rintro e w2 ⟨rfl, P2, h2, l2⟩) | (go_at_call 14; refine (hn _ _).mono ?_; rintro e w3 ⟨rfl, rfl⟩))
  go_ret
  exact ⟨rfl, s', P2, g', l', h2, (L0.out.trans l1).trans l2⟩

set_option maxHeartbeats 3200000 in
set_option maxRecDepth 1000000 in
theorem taken_swap {w : World} {mb rb : Nat} {s : Mm} {P : Nat → Prop} (h : PR w mb rb s P) (hg : s.good) (hl : (s.log.length + 1) * 56 ≤ 140737488355328) (q : Oq) (hk : q.kind = 6) :
    Calls Try.prog 21 #[.pointer (some ⟨mb, 0, none⟩), .pointer (some ⟨rb, 0, none⟩), .agg #[.int .i64 q.kind, .int .i64 q.c, .int .i64 q.n, .int .i64 q.x, .int .i64 q.y, .bool q.other]] w fun e w' =>
      e = .returned (.bool true) ∧ ∃ s' P', s'.good ∧ s'.log.length ≤ s.log.length + 1 ∧ PR w' mb rb s' P' ∧ LeftP w w' P P' := by
  obtain ⟨v, er, s', g', l', t1, t2⟩ := twin_swap (mb := mb) (rb := rb) hg hl q.c q.x q.y
  simp only at t1 t2
  obtain ⟨W, hW⟩ : ∃ W, W = w.alloc (.cells #[.int .i64 6, .int .i64 q.c, .int .i64 q.n, .int .i64 q.x, .int .i64 q.y, .bool q.other] 38) := ⟨_, rfl⟩
  have K0 : Keeps (fun _ => False) w W := by rw [hW]; exact (Keeps.refl _ w).alloc _
  have c0 : W.cell? ⟨w.heap.size, 0, none⟩ = some (.int .i64 6) := by rw [hW]; simp
  have c1 : W.cell? ⟨w.heap.size, 1, none⟩ = some (.int .i64 q.c) := by rw [hW]; simp
  have c2 : W.cell? ⟨w.heap.size, 2, none⟩ = some (.int .i64 q.n) := by rw [hW]; simp
  have c3 : W.cell? ⟨w.heap.size, 3, none⟩ = some (.int .i64 q.x) := by rw [hW]; simp
  have c4 : W.cell? ⟨w.heap.size, 4, none⟩ = some (.int .i64 q.y) := by rw [hW]; simp
  have n0 := notP h
  have m1 := t1 W P (h.new K0)
  have L0 : Hid (LeftP w W P P) := LeftP.new K0
  have hn := num_any
  clear t1 h
  go_enter Try.func21, Try.ntmps21
  go_wp2_with fail
  rw [← hW]
  clear hW
  go_wp2_with (first | (go_at_call 29; refine m1.mono ?_; clear m1; rintro e w1 ⟨rfl, P1, h1, l1⟩; have d1 := l1.far n0 c1; have d2 := l1.far n0 c2; have d3 := l1.far n0 c3; have d4 := l1.far n0 c4; have m2 := t2 w1 P1 h1) | (go_at_call 30; refine m2.mono ?_; clear m2; rintro e w2 ⟨rfl, P2, h2, l2⟩) | (go_at_call 14; refine (hn _ _).mono ?_; rintro e w3 ⟨rfl, rfl⟩))
  go_ret
  exact ⟨rfl, s', P2, g', l', h2, (L0.out.trans l1).trans l2⟩

set_option maxHeartbeats 3200000 in
set_option maxRecDepth 1000000 in
theorem taken_add {w : World} {mb rb : Nat} {s : Mm} {P : Nat → Prop} (h : PR w mb rb s P) (hg : s.good) (hl : (s.log.length + 1) * 56 ≤ 140737488355328) (q : Oq) (hk : q.kind = 7) :
    Calls Try.prog 21 #[.pointer (some ⟨mb, 0, none⟩), .pointer (some ⟨rb, 0, none⟩), .agg #[.int .i64 q.kind, .int .i64 q.c, .int .i64 q.n, .int .i64 q.x, .int .i64 q.y, .bool q.other]] w fun e w' =>
      e = .returned (.bool true) ∧ ∃ s' P', s'.good ∧ s'.log.length ≤ s.log.length + 1 ∧ PR w' mb rb s' P' ∧ LeftP w w' P P' := by
  obtain ⟨v, er, s', g', l', t1, t2⟩ := twin_add (mb := mb) (rb := rb) hg hl q.c q.x
  simp only at t1 t2
  obtain ⟨W, hW⟩ : ∃ W, W = w.alloc (.cells #[.int .i64 7, .int .i64 q.c, .int .i64 q.n, .int .i64 q.x, .int .i64 q.y, .bool q.other] 38) := ⟨_, rfl⟩
  have K0 : Keeps (fun _ => False) w W := by rw [hW]; exact (Keeps.refl _ w).alloc _
  have c0 : W.cell? ⟨w.heap.size, 0, none⟩ = some (.int .i64 7) := by rw [hW]; simp
  have c1 : W.cell? ⟨w.heap.size, 1, none⟩ = some (.int .i64 q.c) := by rw [hW]; simp
  have c2 : W.cell? ⟨w.heap.size, 2, none⟩ = some (.int .i64 q.n) := by rw [hW]; simp
  have c3 : W.cell? ⟨w.heap.size, 3, none⟩ = some (.int .i64 q.x) := by rw [hW]; simp
  have c4 : W.cell? ⟨w.heap.size, 4, none⟩ = some (.int .i64 q.y) := by rw [hW]; simp
  have n0 := notP h
  have m1 := t1 W P (h.new K0)
  have L0 : Hid (LeftP w W P P) := LeftP.new K0
  have hn := num_any
  clear t1 h
  go_enter Try.func21, Try.ntmps21
  go_wp2_with fail
  rw [← hW]
  clear hW
  go_wp2_with (first | (go_at_call 31; refine m1.mono ?_; clear m1; rintro e w1 ⟨rfl, P1, h1, l1⟩; have d1 := l1.far n0 c1; have d2 := l1.far n0 c2; have d3 := l1.far n0 c3; have d4 := l1.far n0 c4; have m2 := t2 w1 P1 h1) | (go_at_call 32; refine m2.mono ?_; clear m2; rintro e w2 ⟨rfl, P2, h2, l2⟩) | (go_at_call 14; refine (hn _ _).mono ?_; rintro e w3 ⟨rfl, rfl⟩))
  go_ret
  exact ⟨rfl, s', P2, g', l', h2, (L0.out.trans l1).trans l2⟩

set_option maxHeartbeats 3200000 in
set_option maxRecDepth 1000000 in
theorem seen_peek {w : World} {mb rb : Nat} {s : Mm} {P : Nat → Prop} (h : PR w mb rb s P) (hg : s.good) (hl : (s.log.length + 1) * 56 ≤ 140737488355328) (q : Oq) (hk : q.kind = 9) :
    Calls Try.prog 22 #[.pointer (some ⟨mb, 0, none⟩), .pointer (some ⟨rb, 0, none⟩), .agg #[.int .i64 q.kind, .int .i64 q.c, .int .i64 q.n, .int .i64 q.x, .int .i64 q.y, .bool q.other]] w fun e w' =>
      e = .returned (.bool true) ∧ ∃ s' P', s'.good ∧ s'.log.length ≤ s.log.length + 1 ∧ PR w' mb rb s' P' ∧ LeftP w w' P P' := by
  obtain ⟨v, er, t1, t2⟩ := twin_peek (mb := mb) (rb := rb) hg (by omega) q.c
  simp only at t1 t2
  obtain ⟨W, hW⟩ : ∃ W, W = w.alloc (.cells #[.int .i64 9, .int .i64 q.c, .int .i64 q.n, .int .i64 q.x, .int .i64 q.y, .bool q.other] 38) := ⟨_, rfl⟩
  have K0 : Keeps (fun _ => False) w W := by rw [hW]; exact (Keeps.refl _ w).alloc _
  have c0 : W.cell? ⟨w.heap.size, 0, none⟩ = some (.int .i64 9) := by rw [hW]; simp
  have c1 : W.cell? ⟨w.heap.size, 1, none⟩ = some (.int .i64 q.c) := by rw [hW]; simp
  have c2 : W.cell? ⟨w.heap.size, 2, none⟩ = some (.int .i64 q.n) := by rw [hW]; simp
  have c3 : W.cell? ⟨w.heap.size, 3, none⟩ = some (.int .i64 q.x) := by rw [hW]; simp
  have c4 : W.cell? ⟨w.heap.size, 4, none⟩ = some (.int .i64 q.y) := by rw [hW]; simp
  have n0 := notP h
  have m1 := t1 W P (h.new K0)
  have L0 : Hid (LeftP w W P P) := LeftP.new K0
  have hn := num_any
  clear t1 h
  go_enter Try.func22, Try.ntmps22
  go_wp2_with fail
  rw [← hW]
  clear hW
  go_wp2_with (first | (go_at_call 36; refine m1.mono ?_; clear m1; rintro e w1 ⟨rfl, P1, h1, l1⟩; have d1 := l1.far n0 c1; have d2 := l1.far n0 c2; have d3 := l1.far n0 c3; have d4 := l1.far n0 c4; have m2 := t2 w1 P1 h1) | (go_at_call 37; refine m2.mono ?_; clear m2; rintro e w2 ⟨rfl, P2, h2, l2⟩) | (go_at_call 14; refine (hn _ _).mono ?_; rintro e w3 ⟨rfl, rfl⟩))
  go_ret
  exact ⟨rfl, s, P2, hg, Nat.le_succ _, h2, (L0.out.trans l1).trans l2⟩

set_option maxHeartbeats 3200000 in
set_option maxRecDepth 1000000 in
theorem seen_then {w : World} {mb rb : Nat} {s : Mm} {P : Nat → Prop} (h : PR w mb rb s P) (hg : s.good) (hl : (s.log.length + 1) * 56 ≤ 140737488355328) (q : Oq) (hk : q.kind = 10) :
    Calls Try.prog 22 #[.pointer (some ⟨mb, 0, none⟩), .pointer (some ⟨rb, 0, none⟩), .agg #[.int .i64 q.kind, .int .i64 q.c, .int .i64 q.n, .int .i64 q.x, .int .i64 q.y, .bool q.other]] w fun e w' =>
      e = .returned (.bool true) ∧ ∃ s' P', s'.good ∧ s'.log.length ≤ s.log.length + 1 ∧ PR w' mb rb s' P' ∧ LeftP w w' P P' := by
  obtain ⟨v, er, t1, t2⟩ := twin_then (mb := mb) (rb := rb) hg (by omega) q.c q.n
  simp only at t1 t2
  obtain ⟨W, hW⟩ : ∃ W, W = w.alloc (.cells #[.int .i64 10, .int .i64 q.c, .int .i64 q.n, .int .i64 q.x, .int .i64 q.y, .bool q.other] 38) := ⟨_, rfl⟩
  have K0 : Keeps (fun _ => False) w W := by rw [hW]; exact (Keeps.refl _ w).alloc _
  have c0 : W.cell? ⟨w.heap.size, 0, none⟩ = some (.int .i64 10) := by rw [hW]; simp
  have c1 : W.cell? ⟨w.heap.size, 1, none⟩ = some (.int .i64 q.c) := by rw [hW]; simp
  have c2 : W.cell? ⟨w.heap.size, 2, none⟩ = some (.int .i64 q.n) := by rw [hW]; simp
  have c3 : W.cell? ⟨w.heap.size, 3, none⟩ = some (.int .i64 q.x) := by rw [hW]; simp
  have c4 : W.cell? ⟨w.heap.size, 4, none⟩ = some (.int .i64 q.y) := by rw [hW]; simp
  have n0 := notP h
  have m1 := t1 W P (h.new K0)
  have L0 : Hid (LeftP w W P P) := LeftP.new K0
  have hn := num_any
  clear t1 h
  go_enter Try.func22, Try.ntmps22
  go_wp2_with fail
  rw [← hW]
  clear hW
  go_wp2_with (first | (go_at_call 38; refine m1.mono ?_; clear m1; rintro e w1 ⟨rfl, P1, h1, l1⟩; have d1 := l1.far n0 c1; have d2 := l1.far n0 c2; have d3 := l1.far n0 c3; have d4 := l1.far n0 c4; have m2 := t2 w1 P1 h1) | (go_at_call 39; refine m2.mono ?_; clear m2; rintro e w2 ⟨rfl, P2, h2, l2⟩) | (go_at_call 14; refine (hn _ _).mono ?_; rintro e w3 ⟨rfl, rfl⟩))
  go_ret
  exact ⟨rfl, s, P2, hg, Nat.le_succ _, h2, (L0.out.trans l1).trans l2⟩
end Go.Proofs.Ytkkldbellngalaa
