import Derived.Test.YtkkldbellngalaaRefCelS
namespace Go.Proofs.Ytkkldbellngalaa
open Go.RowKit

set_option maxHeartbeats 3200000 in
set_option maxRecDepth 1000000 in
theorem plays_one {w : World} {mb rb : Nat} {s : Mm} {P : Nat → Prop} (h : PR w mb rb s P) (hg : s.good) (q : Oq) (hk : q.kind = 1) :
    Calls Try.prog 15 #[.pointer (some ⟨mb, 0, none⟩), .pointer (some ⟨rb, 0, none⟩), .agg #[.int .i64 q.kind, .int .i64 q.c, .int .i64 q.n, .int .i64 q.x, .int .i64 q.y, .bool q.other]] w fun e w' =>
      e = .returned (.bool true) ∧ ∃ s' P', s'.good ∧ s'.log.length ≤ s.log.length + 1 ∧ PR w' mb rb s' P' ∧ LeftP w w' P P' := by
  have K : ∀ o, Keeps (fun _ => False) w (w.alloc o) := fun o => (Keeps.refl _ w).alloc o
  have m := fun o => made_one (h.new (K o)) hg q hk
  obtain ⟨qk, qc, qn, qx, qy, qo⟩ := q
  obtain rfl : qk = 1 := hk
  simp only at m
  clear h
  simp only
  go_enter Try.func15, Try.ntmps15
  go_wp2_with (go_at_call 18; refine (m _).mono ?_; clear m; rintro e w1 ⟨rfl, s1, P1, g1, e1, h1, l1⟩)
  go_ret
  exact ⟨rfl, s1, P1, g1, e1, h1, (LeftP.new (K _)).trans l1⟩

set_option maxHeartbeats 3200000 in
set_option maxRecDepth 1000000 in
theorem plays_many {w : World} {mb rb : Nat} {s : Mm} {P : Nat → Prop} (h : PR w mb rb s P) (hg : s.good) (q : Oq) (hk : q.kind = 2) (hc : q.c ≤ 70000) :
    Calls Try.prog 15 #[.pointer (some ⟨mb, 0, none⟩), .pointer (some ⟨rb, 0, none⟩), .agg #[.int .i64 q.kind, .int .i64 q.c, .int .i64 q.n, .int .i64 q.x, .int .i64 q.y, .bool q.other]] w fun e w' =>
      e = .returned (.bool true) ∧ ∃ s' P', s'.good ∧ s'.log.length ≤ s.log.length + 1 ∧ PR w' mb rb s' P' ∧ LeftP w w' P P' := by
  have K : ∀ o, Keeps (fun _ => False) w (w.alloc o) := fun o => (Keeps.refl _ w).alloc o
  have m := fun o => made_many (h.new (K o)) hg q hk hc
  obtain ⟨qk, qc, qn, qx, qy, qo⟩ := q
  obtain rfl : qk = 2 := hk
  simp only at m
  clear h
  simp only
  go_enter Try.func15, Try.ntmps15
  go_wp2_with (go_at_call 18; refine (m _).mono ?_; clear m; rintro e w1 ⟨rfl, s1, P1, g1, e1, h1, l1⟩)
  go_ret
  exact ⟨rfl, s1, P1, g1, e1, h1, (LeftP.new (K _)).trans l1⟩

set_option maxHeartbeats 3200000 in
set_option maxRecDepth 1000000 in
theorem plays_over {w : World} {mb rb : Nat} {s : Mm} {P : Nat → Prop} (h : PR w mb rb s P) (hg : s.good) (q : Oq) (hk : q.kind = 2) (hc : ¬ q.c ≤ 70000) :
    Calls Try.prog 15 #[.pointer (some ⟨mb, 0, none⟩), .pointer (some ⟨rb, 0, none⟩), .agg #[.int .i64 q.kind, .int .i64 q.c, .int .i64 q.n, .int .i64 q.x, .int .i64 q.y, .bool q.other]] w fun e w' =>
      e = .returned (.bool true) ∧ ∃ s' P', s'.good ∧ s'.log.length ≤ s.log.length + 1 ∧ PR w' mb rb s' P' ∧ LeftP w w' P P' := by
  have K : ∀ o, Keeps (fun _ => False) w (w.alloc o) := fun o => (Keeps.refl _ w).alloc o
  have m := fun o => made_over (h.new (K o)) hg q hk hc
  obtain ⟨qk, qc, qn, qx, qy, qo⟩ := q
  obtain rfl : qk = 2 := hk
  simp only at m
  clear h
  simp only
  go_enter Try.func15, Try.ntmps15
  go_wp2_with (go_at_call 18; refine (m _).mono ?_; clear m; rintro e w1 ⟨rfl, s1, P1, g1, e1, h1, l1⟩)
  go_ret
  exact ⟨rfl, s1, P1, g1, e1, h1, (LeftP.new (K _)).trans l1⟩

set_option maxHeartbeats 3200000 in
set_option maxRecDepth 1000000 in
theorem plays_size {w : World} {mb rb : Nat} {s : Mm} {P : Nat → Prop} (h : PR w mb rb s P) (hg : s.good) (q : Oq) (hk : q.kind = 3) :
    Calls Try.prog 15 #[.pointer (some ⟨mb, 0, none⟩), .pointer (some ⟨rb, 0, none⟩), .agg #[.int .i64 q.kind, .int .i64 q.c, .int .i64 q.n, .int .i64 q.x, .int .i64 q.y, .bool q.other]] w fun e w' =>
      e = .returned (.bool true) ∧ ∃ s' P', s'.good ∧ s'.log.length ≤ s.log.length + 1 ∧ PR w' mb rb s' P' ∧ LeftP w w' P P' := by
  have K : ∀ o, Keeps (fun _ => False) w (w.alloc o) := fun o => (Keeps.refl _ w).alloc o
  have m := fun o => made_none (h.new (K o)) hg q hk
  obtain ⟨qk, qc, qn, qx, qy, qo⟩ := q
  obtain rfl : qk = 3 := hk
  simp only at m
  clear h
  simp only
  go_enter Try.func15, Try.ntmps15
  go_wp2_with (go_at_call 18; refine (m _).mono ?_; clear m; rintro e w1 ⟨rfl, s1, P1, g1, e1, h1, l1⟩)
  go_ret
  exact ⟨rfl, s1, P1, g1, e1, h1, (LeftP.new (K _)).trans l1⟩

set_option maxHeartbeats 3200000 in
set_option maxRecDepth 1000000 in
theorem plays_load {w : World} {mb rb : Nat} {s : Mm} {P : Nat → Prop} (h : PR w mb rb s P) (hg : s.good) (hl : (s.log.length + 1) * 56 ≤ 140737488355328) (q : Oq) (hk : q.kind = 5) :
    Calls Try.prog 15 #[.pointer (some ⟨mb, 0, none⟩), .pointer (some ⟨rb, 0, none⟩), .agg #[.int .i64 q.kind, .int .i64 q.c, .int .i64 q.n, .int .i64 q.x, .int .i64 q.y, .bool q.other]] w fun e w' =>
      e = .returned (.bool true) ∧ ∃ s' P', s'.good ∧ s'.log.length ≤ s.log.length + 1 ∧ PR w' mb rb s' P' ∧ LeftP w w' P P' := by
  have K : ∀ o, Keeps (fun _ => False) w (w.alloc o) := fun o => (Keeps.refl _ w).alloc o
  have m := fun o => taken_load (h.new (K o)) hg hl q hk
  obtain ⟨qk, qc, qn, qx, qy, qo⟩ := q
  obtain rfl : qk = 5 := hk
  simp only at m
  clear h
  simp only
  go_enter Try.func15, Try.ntmps15
  go_wp2_with (go_at_call 21; refine (m _).mono ?_; clear m; rintro e w1 ⟨rfl, s1, P1, g1, e1, h1, l1⟩)
  go_ret
  exact ⟨rfl, s1, P1, g1, e1, h1, (LeftP.new (K _)).trans l1⟩

set_option maxHeartbeats 3200000 in
set_option maxRecDepth 1000000 in
theorem plays_swap {w : World} {mb rb : Nat} {s : Mm} {P : Nat → Prop} (h : PR w mb rb s P) (hg : s.good) (hl : (s.log.length + 1) * 56 ≤ 140737488355328) (q : Oq) (hk : q.kind = 6) :
    Calls Try.prog 15 #[.pointer (some ⟨mb, 0, none⟩), .pointer (some ⟨rb, 0, none⟩), .agg #[.int .i64 q.kind, .int .i64 q.c, .int .i64 q.n, .int .i64 q.x, .int .i64 q.y, .bool q.other]] w fun e w' =>
      e = .returned (.bool true) ∧ ∃ s' P', s'.good ∧ s'.log.length ≤ s.log.length + 1 ∧ PR w' mb rb s' P' ∧ LeftP w w' P P' := by
  have K : ∀ o, Keeps (fun _ => False) w (w.alloc o) := fun o => (Keeps.refl _ w).alloc o
  have m := fun o => taken_swap (h.new (K o)) hg hl q hk
  obtain ⟨qk, qc, qn, qx, qy, qo⟩ := q
  obtain rfl : qk = 6 := hk
  simp only at m
  clear h
  simp only
  go_enter Try.func15, Try.ntmps15
  go_wp2_with (go_at_call 21; refine (m _).mono ?_; clear m; rintro e w1 ⟨rfl, s1, P1, g1, e1, h1, l1⟩)
  go_ret
  exact ⟨rfl, s1, P1, g1, e1, h1, (LeftP.new (K _)).trans l1⟩

set_option maxHeartbeats 3200000 in
set_option maxRecDepth 1000000 in
theorem plays_add {w : World} {mb rb : Nat} {s : Mm} {P : Nat → Prop} (h : PR w mb rb s P) (hg : s.good) (hl : (s.log.length + 1) * 56 ≤ 140737488355328) (q : Oq) (hk : q.kind = 7) :
    Calls Try.prog 15 #[.pointer (some ⟨mb, 0, none⟩), .pointer (some ⟨rb, 0, none⟩), .agg #[.int .i64 q.kind, .int .i64 q.c, .int .i64 q.n, .int .i64 q.x, .int .i64 q.y, .bool q.other]] w fun e w' =>
      e = .returned (.bool true) ∧ ∃ s' P', s'.good ∧ s'.log.length ≤ s.log.length + 1 ∧ PR w' mb rb s' P' ∧ LeftP w w' P P' := by
  have K : ∀ o, Keeps (fun _ => False) w (w.alloc o) := fun o => (Keeps.refl _ w).alloc o
  have m := fun o => taken_add (h.new (K o)) hg hl q hk
  obtain ⟨qk, qc, qn, qx, qy, qo⟩ := q
  obtain rfl : qk = 7 := hk
  simp only at m
  clear h
  simp only
  go_enter Try.func15, Try.ntmps15
  go_wp2_with (go_at_call 21; refine (m _).mono ?_; clear m; rintro e w1 ⟨rfl, s1, P1, g1, e1, h1, l1⟩)
  go_ret
  exact ⟨rfl, s1, P1, g1, e1, h1, (LeftP.new (K _)).trans l1⟩

set_option maxHeartbeats 3200000 in
set_option maxRecDepth 1000000 in
theorem plays_took {w : World} {mb rb : Nat} {s : Mm} {P : Nat → Prop} (h : PR w mb rb s P) (hg : s.good) (hl : (s.log.length + 1) * 56 ≤ 140737488355328) (q : Oq) (hk : q.kind = 8) :
    Calls Try.prog 15 #[.pointer (some ⟨mb, 0, none⟩), .pointer (some ⟨rb, 0, none⟩), .agg #[.int .i64 q.kind, .int .i64 q.c, .int .i64 q.n, .int .i64 q.x, .int .i64 q.y, .bool q.other]] w fun e w' =>
      e = .returned (.bool true) ∧ ∃ s' P', s'.good ∧ s'.log.length ≤ s.log.length + 1 ∧ PR w' mb rb s' P' ∧ LeftP w w' P P' := by
  have K : ∀ o, Keeps (fun _ => False) w (w.alloc o) := fun o => (Keeps.refl _ w).alloc o
  have m := fun o => seen_took (h.new (K o)) hg hl q hk
  obtain ⟨qk, qc, qn, qx, qy, qo⟩ := q
  obtain rfl : qk = 8 := hk
  simp only at m
  clear h
  simp only
  go_enter Try.func15, Try.ntmps15
  go_wp2_with (go_at_call 22; refine (m _).mono ?_; clear m; rintro e w1 ⟨rfl, s1, P1, g1, e1, h1, l1⟩)
  go_ret
  exact ⟨rfl, s1, P1, g1, e1, h1, (LeftP.new (K _)).trans l1⟩

set_option maxHeartbeats 3200000 in
set_option maxRecDepth 1000000 in
theorem plays_peek {w : World} {mb rb : Nat} {s : Mm} {P : Nat → Prop} (h : PR w mb rb s P) (hg : s.good) (hl : (s.log.length + 1) * 56 ≤ 140737488355328) (q : Oq) (hk : q.kind = 9) :
    Calls Try.prog 15 #[.pointer (some ⟨mb, 0, none⟩), .pointer (some ⟨rb, 0, none⟩), .agg #[.int .i64 q.kind, .int .i64 q.c, .int .i64 q.n, .int .i64 q.x, .int .i64 q.y, .bool q.other]] w fun e w' =>
      e = .returned (.bool true) ∧ ∃ s' P', s'.good ∧ s'.log.length ≤ s.log.length + 1 ∧ PR w' mb rb s' P' ∧ LeftP w w' P P' := by
  have K : ∀ o, Keeps (fun _ => False) w (w.alloc o) := fun o => (Keeps.refl _ w).alloc o
  have m := fun o => seen_peek (h.new (K o)) hg hl q hk
  obtain ⟨qk, qc, qn, qx, qy, qo⟩ := q
  obtain rfl : qk = 9 := hk
  simp only at m
  clear h
  simp only
  go_enter Try.func15, Try.ntmps15
  go_wp2_with (go_at_call 22; refine (m _).mono ?_; clear m; rintro e w1 ⟨rfl, s1, P1, g1, e1, h1, l1⟩)
  go_ret
  exact ⟨rfl, s1, P1, g1, e1, h1, (LeftP.new (K _)).trans l1⟩

set_option maxHeartbeats 3200000 in
set_option maxRecDepth 1000000 in
theorem plays_then {w : World} {mb rb : Nat} {s : Mm} {P : Nat → Prop} (h : PR w mb rb s P) (hg : s.good) (hl : (s.log.length + 1) * 56 ≤ 140737488355328) (q : Oq) (hk : q.kind = 10) :
    Calls Try.prog 15 #[.pointer (some ⟨mb, 0, none⟩), .pointer (some ⟨rb, 0, none⟩), .agg #[.int .i64 q.kind, .int .i64 q.c, .int .i64 q.n, .int .i64 q.x, .int .i64 q.y, .bool q.other]] w fun e w' =>
      e = .returned (.bool true) ∧ ∃ s' P', s'.good ∧ s'.log.length ≤ s.log.length + 1 ∧ PR w' mb rb s' P' ∧ LeftP w w' P P' := by
  have K : ∀ o, Keeps (fun _ => False) w (w.alloc o) := fun o => (Keeps.refl _ w).alloc o
  have m := fun o => seen_then (h.new (K o)) hg hl q hk
  obtain ⟨qk, qc, qn, qx, qy, qo⟩ := q
  obtain rfl : qk = 10 := hk
  simp only at m
  clear h
  simp only
  go_enter Try.func15, Try.ntmps15
  go_wp2_with (go_at_call 22; refine (m _).mono ?_; clear m; rintro e w1 ⟨rfl, s1, P1, g1, e1, h1, l1⟩)
  go_ret
  exact ⟨rfl, s1, P1, g1, e1, h1, (LeftP.new (K _)).trans l1⟩
end Go.Proofs.Ytkkldbellngalaa
