import Derived.Test.YtkkldbellngalaaRefCelV
namespace Go.Proofs.Ytkkldbellngalaa
open Go.RowKit

set_option maxHeartbeats 3200000 in
set_option maxRecDepth 1000000 in
theorem plays_log {w : World} {mb rb : Nat} {s : Mm} {P : Nat → Prop} (h : PR w mb rb s P) (hg : s.good) (hl : (s.log.length + 1) * 56 ≤ 140737488355328) (q : Oq) (hk : q.kind = 11) :
    Calls Try.prog 15 #[.pointer (some ⟨mb, 0, none⟩), .pointer (some ⟨rb, 0, none⟩), .agg #[.int .i64 q.kind, .int .i64 q.c, .int .i64 q.n, .int .i64 q.x, .int .i64 q.y, .bool q.other]] w fun e w' =>
      e = .returned (.bool true) ∧ ∃ s' P', s'.good ∧ s'.log.length ≤ s.log.length + 1 ∧ PR w' mb rb s' P' ∧ LeftP w w' P P' := by
  obtain ⟨qk, qc, qn, qx, qy, qo⟩ := q
  obtain rfl : qk = 11 := hk
  simp only
  have H : Hid (PR w mb rb s P) := h
  obtain ⟨F, B, hM, hR, _, _⟩ := h
  have K : ∀ o, Keeps (fun _ => False) w (w.alloc o) := fun o => (Keeps.refl _ w).alloc o
  have m1 := fun o => log_any (hM.new (K o)) (by omega)
  have m2 := fun (u : World) (k : Keeps (fun _ => False) w u) => rlog_any (hR.new k) (by omega)
  have hl' : s.log.length ≤ 4611686018427387903 := by omega
  clear hM hR
  go_enter Try.func15, Try.ntmps15
  go_wp2_with (first | (go_at_call 24; refine (m1 _).mono ?_; clear m1; rintro e w1 ⟨v1, rfl, o1, k1⟩; have k1' := (K _).trans k1) | (go_at_call 25; refine (m2 _ k1').mono ?_; clear m2; rintro e w2 ⟨v2, rfl, o2, k2⟩; have o3 := k2.owns o1 (fun _ _ e => e); obtain ⟨a1, g1, cp1, rfl, r1⟩ := owns_rows o3; obtain ⟨a2, g2, cp2, rfl, r2⟩ := owns_rows o2) | (go_at_call 23; refine (rows_any s.log hl' r1 r2).mono ?_; rintro e w3 ⟨rfl, k3⟩))
  go_ret
  exact ⟨rfl, s, P, hg, Nat.le_succ _, H.out.new ((k1'.trans k2).trans k3), LeftP.new ((k1'.trans k2).trans k3)⟩
end Go.Proofs.Ytkkldbellngalaa
