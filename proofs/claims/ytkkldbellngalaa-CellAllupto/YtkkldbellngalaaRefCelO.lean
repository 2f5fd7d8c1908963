import Derived.Test.YtkkldbellngalaaRefCelK
namespace Go.Proofs.Ytkkldbellngalaa
open Go.RowKit

set_option maxHeartbeats 1600000 in
set_option maxRecDepth 1000000 in
theorem row_any (w : World) (r : Rw) : Calls Try.prog 33 #[.agg #[.int .i64 r.step, .int .i64 r.thread, .int .i64 r.kind, .int .i64 r.cell, .int .i64 r.seen, .int .i64 r.wrote, .bool r.done]] w fun e w' =>
    e = .returned (.agg #[.int .i64 r.step, .int .i64 r.thread, .int .i64 r.kind, .int .i64 r.cell, .int .i64 r.seen, .int .i64 r.wrote, .bool r.done]) ∧ Keeps (fun _ => False) w w' := by
  go_enter Try.func33, Try.ntmps33
  go_wp2
  (try simp only [Exit.inBlock, Exit.then])
  refine bodyPost_ret (v := .agg #[.int .i64 r.step, .int .i64 r.thread, .int .i64 r.kind, .int .i64 r.cell, .int .i64 r.seen, .int .i64 r.wrote, .bool r.done]) ?_ rfl ⟨rfl, ?_⟩
  · simp [results, Try.f33, go_sem]
  · exact ((Keeps.refl _ w).alloc _).alloc _

set_option maxHeartbeats 3200000 in
set_option maxRecDepth 1000000 in
theorem seen_took {w : World} {mb rb : Nat} {s : Mm} {P : Nat → Prop} (h : PR w mb rb s P) (hg : s.good) (hl : (s.log.length + 1) * 56 ≤ 140737488355328) (q : Oq) (hk : q.kind = 8) :
    Calls Try.prog 22 #[.pointer (some ⟨mb, 0, none⟩), .pointer (some ⟨rb, 0, none⟩), .agg #[.int .i64 q.kind, .int .i64 q.c, .int .i64 q.n, .int .i64 q.x, .int .i64 q.y, .bool q.other]] w fun e w' =>
      e = .returned (.bool true) ∧ ∃ s' P', s'.good ∧ s'.log.length ≤ s.log.length + 1 ∧ PR w' mb rb s' P' ∧ LeftP w w' P P' := by
  obtain ⟨t1, t2⟩ := twin_took (mb := mb) (rb := rb) hg (by omega)
  simp only at t1 t2
  have hr := fun (w : World) => row_any w s.took
  generalize s.took = r at *
  obtain ⟨W, hW⟩ : ∃ W, W = w.alloc (.cells #[.int .i64 8, .int .i64 q.c, .int .i64 q.n, .int .i64 q.x, .int .i64 q.y, .bool q.other] 38) := ⟨_, rfl⟩
  have K0 : Keeps (fun _ => False) w W := by rw [hW]; exact (Keeps.refl _ w).alloc _
  have c0 : W.cell? ⟨w.heap.size, 0, none⟩ = some (.int .i64 8) := by rw [hW]; simp
  have m1 := t1 W P (h.new K0)
  have L0 : Hid (LeftP w W P P) := LeftP.new K0
  clear t1 h
  go_enter Try.func22, Try.ntmps22
  go_wp2_with fail
  rw [← hW]
  clear hW
  go_wp2_with (first | (go_at_call 34; refine m1.mono ?_; clear m1; rintro e w1 ⟨rfl, P1, h1, l1⟩) | (go_at_call 35; refine (t2 _ _ h1').mono ?_; rintro e w2 ⟨rfl, P2, h2, l2⟩) | (go_at_call 33; refine (hr _).mono ?_; rintro e w3 ⟨rfl, k3⟩; have h1' := h1.new k3))
  go_ret
  exact ⟨rfl, s, P2, hg, Nat.le_succ _, h2, ((L0.out.trans l1).trans (LeftP.new k3)).trans l2⟩
end Go.Proofs.Ytkkldbellngalaa
