import Derived.Test.YtkkldbellngalaaRefCelU
namespace Go.Proofs.Ytkkldbellngalaa
open Go.RowKit

set_option maxHeartbeats 3200000 in
set_option maxRecDepth 1000000 in
theorem plays_other {w : World} {mb rb : Nat} {s : Mm} {P : Nat → Prop} (h : PR w mb rb s P) (hg : s.good) (q : Oq) (hk : q.kind < 1 ∨ 12 < q.kind) :
    Calls Try.prog 15 #[.pointer (some ⟨mb, 0, none⟩), .pointer (some ⟨rb, 0, none⟩), .agg #[.int .i64 q.kind, .int .i64 q.c, .int .i64 q.n, .int .i64 q.x, .int .i64 q.y, .bool q.other]] w fun e w' =>
      e = .returned (.bool true) ∧ ∃ s' P', s'.good ∧ s'.log.length ≤ s.log.length + 1 ∧ PR w' mb rb s' P' ∧ LeftP w w' P P' := by
  have K : ∀ o, Keeps (fun _ => False) w (w.alloc o) := fun o => (Keeps.refl _ w).alloc o
  have e1 : ¬ q.kind = 1 := by omega
  have e2 : ¬ q.kind = 2 := by omega
  have e3 : ¬ q.kind = 3 := by omega
  have e4 : ¬ q.kind = 4 := by omega
  have e5 : ¬ q.kind = 5 := by omega
  have e6 : ¬ q.kind = 6 := by omega
  have e7 : ¬ q.kind = 7 := by omega
  have e8 : ¬ q.kind = 8 := by omega
  have e9 : ¬ q.kind = 9 := by omega
  have e10 : ¬ q.kind = 10 := by omega
  have e11 : ¬ q.kind = 11 := by omega
  have e12 : ¬ q.kind = 12 := by omega
  have H : Hid (PR w mb rb s P) := h
  clear h hk
  go_enter Try.func15, Try.ntmps15
  go_wp2_with fail
  go_ret
  exact ⟨rfl, s, P, hg, Nat.le_succ _, H.out.new (K _), LeftP.new (K _)⟩

set_option maxHeartbeats 3200000 in
set_option maxRecDepth 1000000 in
theorem plays_begin {w : World} {mb rb : Nat} {s : Mm} {P : Nat → Prop} (h : PR w mb rb s P) (hg : s.good) (q : Oq) (hk : q.kind = 4) :
    Calls Try.prog 15 #[.pointer (some ⟨mb, 0, none⟩), .pointer (some ⟨rb, 0, none⟩), .agg #[.int .i64 q.kind, .int .i64 q.c, .int .i64 q.n, .int .i64 q.x, .int .i64 q.y, .bool q.other]] w fun e w' =>
      e = .returned (.bool true) ∧ ∃ s' P', s'.good ∧ s'.log.length ≤ s.log.length + 1 ∧ PR w' mb rb s' P' ∧ LeftP w w' P P' := by
  obtain ⟨qk, qc, qn, qx, qy, qo⟩ := q
  obtain rfl : qk = 4 := hk
  simp only
  obtain ⟨er, s', g', l', t1, t2⟩ := twin_begin (mb := mb) (rb := rb) hg qc qn
  simp only at t1 t2
  obtain ⟨W, hW⟩ : ∃ W, W = w.alloc (.cells #[.int .i64 4, .int .i64 qc, .int .i64 qn, .int .i64 qx, .int .i64 qy, .bool qo] 38) := ⟨_, rfl⟩
  have K0 : Keeps (fun _ => False) w W := by rw [hW]; exact (Keeps.refl _ w).alloc _
  have c0 : W.cell? ⟨w.heap.size, 0, none⟩ = some (.int .i64 4) := by rw [hW]; simp
  have c1 : W.cell? ⟨w.heap.size, 1, none⟩ = some (.int .i64 qc) := by rw [hW]; simp
  have c2 : W.cell? ⟨w.heap.size, 2, none⟩ = some (.int .i64 qn) := by rw [hW]; simp
  have n0 := notP h
  replace c1 : W.drew.cell? ⟨w.heap.size, 1, none⟩ = some (.int .i64 qc) := c1
  replace c2 : W.drew.cell? ⟨w.heap.size, 2, none⟩ = some (.int .i64 qn) := c2
  have m1 := t1 W.drew P (h.new K0.drew)
  have L0 : Hid (LeftP w W.drew P P) := LeftP.new K0.drew
  have lN : ¬ W.drew.heap.size ≤ w.heap.size := fun e => by have := World.block_lt_of_cell? _ _ c0; simp at this e; omega
  have hn := num_any
  clear t1 h
  go_enter Try.func15, Try.ntmps15
  go_wp2_with fail
  rw [← hW]
  clear hW
  go_wp2_with fail
  go_region_held3 (fun w' => w'.cell? ⟨w.heap.size, 1, none⟩ = some (.int .i64 qc) ∧ w'.cell? ⟨w.heap.size, 2, none⟩ = some (.int .i64 qn)) (go_keep) (first | (go_at_call 19; refine m1.mono ?_; clear m1; rintro e w1 ⟨rfl, P1, h1, l1⟩; have d1 := l1.far n0 c1; have d2 := l1.far n0 c2; have m2 := t2 w1 P1 h1) | (go_at_call 20; refine m2.mono ?_; clear m2; rintro e w2 ⟨rfl, P2, h2, l2⟩; have n1 : ¬ P1 w.heap.size := (fun e => (l1.old _ e).elim n0 (fun e => lN e)); have f1 := l2.far n1 d1; have f2 := l2.far n1 d2) | (go_at_call 14; refine (hn _ _).mono ?_; rintro e w1 ⟨rfl, rfl⟩))
  all_goals
    go_wp2_with fail
    go_ret
    exact ⟨rfl, s', P2, g', l', h2, (L0.out.trans l1).trans l2⟩
end Go.Proofs.Ytkkldbellngalaa
