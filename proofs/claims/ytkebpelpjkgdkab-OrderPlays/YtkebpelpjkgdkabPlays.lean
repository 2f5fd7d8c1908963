import Derived.Test.YtkebpelpjkgdkabFill
namespace Go.Proofs.Ytkebpelpjkgdkab
open Go.RowKit Go.Maps

section
variable {w : World} {qo : Option Nat} {rb : Nat} {F : List Nat}

set_option maxHeartbeats 3200000 in
set_option maxRecDepth 1000000 in
theorem plays_any (h : Pair w qo rb F) (k q x y : Int) (hx : I64 x) (hy : I64 y) :
    Calls Try.prog 28 #[qp qo, .pointer (some ⟨rb, 0, none⟩), .agg #[.int .i64 k, .int .i64 q, .int .i64 x, .int .i64 y]] w fun e w' => e = .returned (.bool true) ∧ ∃ F', Pair w' qo rb F' ∧ Left w w' F F' := by
  obtain ⟨w0, hw0⟩ : ∃ w0, w0 = w.alloc (.cells #[.int .i64 k, .int .i64 q, .int .i64 x, .int .i64 y] 42) := ⟨_, rfl⟩
  have K0 : Keeps (fun _ => False) w w0 := by rw [hw0]; exact (Keeps.refl _ w).alloc _
  have b0 : w0.cell? ⟨w.heap.size, 0, none⟩ = some (.int .i64 k) := by rw [hw0]; simp
  have b1 : w0.cell? ⟨w.heap.size, 1, none⟩ = some (.int .i64 q) := by rw [hw0]; simp
  have b2 : w0.cell? ⟨w.heap.size, 2, none⟩ = some (.int .i64 x) := by rw [hw0]; simp
  have b3 : w0.cell? ⟨w.heap.size, 3, none⟩ = some (.int .i64 y) := by rw [hw0]; simp
  have h0 := h.keep K0 (fun _ _ e => e)
  have nF : w.heap.size ∉ F := fun e => by have := h.lt _ e; omega
  by_cases h1 : k = 1
  · subst h1
    go_enter Try.func28, Try.ntmps28
    go_wp2_with fail
    rw [← hw0]
    clear hw0
    refine (p_add h0 (x, y) ⟨hx, hy⟩).mono ?_
    rintro e w1 ⟨r, rfl, kq, aft⟩
    have c2 := kq.cell b2 nF
    have c3 := kq.cell b3 nF
    clear b0 b1 b2 b3
    go_wp2_with fail
    refine (aft _ (Keeps.refl _ w1)).mono ?_
    rintro e w2 ⟨rfl, ⟨F2, pr, lf⟩, hc⟩
    clear hc aft c2 c3 kq
    have hb : (r == r) = true := by simp
    go_wp2_with fail
    refine (num_any _ _).mono ?_
    rintro e w4 ⟨rfl, rfl⟩
    go_wp2
    go_ret
    exact ⟨rfl, F2, pr, (Left.new K0).trans lf⟩
  have n1 : (k == 1) = false := by simp [h1]
  by_cases h3 : k = 3
  · subst h3
    go_enter Try.func28, Try.ntmps28
    go_wp2_with fail
    rw [← hw0]
    clear hw0
    refine (p_take h0).mono ?_
    rintro e w1 ⟨z, n, rfl, _, aft⟩
    have x0 : (w1.alloc (.cells #[.int .i64 z.1, .int .i64 z.2] 32)).cell? ⟨w1.heap.size, 0, none⟩ = some (.int .i64 z.1) := by simp
    have x1 : (w1.alloc (.cells #[.int .i64 z.1, .int .i64 z.2] 32)).cell? ⟨w1.heap.size, 1, none⟩ = some (.int .i64 z.2) := by simp
    clear b0 b1 b2 b3
    go_wp2_with fail
    refine (aft _ ((Keeps.refl _ w1).alloc _)).mono ?_
    rintro e w2 ⟨rfl, ⟨F', pr, lf⟩, hc⟩
    have a0 := hc _ _ _ (Nat.le_refl _) x0
    have a1 := hc _ _ _ (Nat.le_refl _) x1
    have K3 : Keeps (fun _ => False) w2 (w2.alloc (.cells #[.int .i64 z.1, .int .i64 z.2] 32)) := (Keeps.refl _ w2).alloc _
    have e0 := K3.cell a0 (fun e => e)
    have e1 := K3.cell a1 (fun e => e)
    have d0 : (w2.alloc (.cells #[.int .i64 z.1, .int .i64 z.2] 32)).cell? ⟨w2.heap.size, 0, none⟩ = some (.int .i64 z.1) := by simp
    have d1 : (w2.alloc (.cells #[.int .i64 z.1, .int .i64 z.2] 32)).cell? ⟨w2.heap.size, 1, none⟩ = some (.int .i64 z.2) := by simp
    obtain ⟨w3, hw3⟩ : ∃ w3, w2.alloc (.cells #[.int .i64 z.1, .int .i64 z.2] 32) = w3 := ⟨_, rfl⟩
    rw [hw3] at K3 e0 e1 d0 d1
    clear x0 x1 a0 a1 hc aft
    go_wp2_with fail
    refine (num_any _ _).mono ?_
    rintro e w4 ⟨rfl, rfl⟩
    go_wp2
    go_ret
    exact ⟨rfl, F', pr.keep K3 (fun _ _ e => e), ((Left.new K0).trans lf).trans (Left.new K3)⟩
  have n3 : (k == 3) = false := by simp [h3]
  by_cases h5 : k = 5
  · subst h5
    go_enter Try.func28, Try.ntmps28
    go_wp2_with fail
    rw [← hw0]
    clear hw0
    refine (p_change h0 hy hx).mono ?_
    rintro e w1 ⟨r, rfl, kq, aft⟩
    have c2 := kq.cell b2 nF
    have c3 := kq.cell b3 nF
    clear b0 b1 b2 b3
    go_wp2_with fail
    refine (aft _ (Keeps.refl _ w1)).mono ?_
    rintro e w2 ⟨rfl, ⟨F2, pr, lf⟩, hc⟩
    clear hc aft c2 c3 kq
    have hb : (r == r) = true := by simp
    go_wp2_with fail
    refine (num_any _ _).mono ?_
    rintro e w4 ⟨rfl, rfl⟩
    go_wp2
    go_ret
    exact ⟨rfl, F2, pr, (Left.new K0).trans lf⟩
  have n5 : (k == 5) = false := by simp [h5]
  by_cases h6 : k = 6
  · subst h6
    go_enter Try.func28, Try.ntmps28
    go_wp2_with fail
    rw [← hw0]
    clear hw0
    refine (p_drop h0 hy).mono ?_
    rintro e w1 ⟨r, rfl, kq, aft⟩
    have c3 := kq.cell b3 nF
    clear b0 b1 b2 b3
    go_wp2_with fail
    refine (aft _ (Keeps.refl _ w1)).mono ?_
    rintro e w2 ⟨rfl, ⟨F2, pr, lf⟩, hc⟩
    clear hc aft c3 kq
    have hb : (r == r) = true := by simp
    go_wp2_with fail
    refine (num_any _ _).mono ?_
    rintro e w4 ⟨rfl, rfl⟩
    go_wp2
    go_ret
    exact ⟨rfl, F2, pr, (Left.new K0).trans lf⟩
  have n6 : (k == 6) = false := by simp [h6]
  have FL : Hid (Calls Try.prog 41 #[qp qo, .pointer (some ⟨rb, 0, none⟩), .agg #[.int .i64 k, .int .i64 q, .int .i64 x, .int .i64 y]] w0 fun e w' => e = .returned (.bool true) ∧ ∃ F', Pair w' qo rb F' ∧ Left w0 w' F F') := fill_any h0 k q x y
  have AS : Hid (Calls Try.prog 42 #[qp qo, .pointer (some ⟨rb, 0, none⟩), .agg #[.int .i64 k, .int .i64 q, .int .i64 x, .int .i64 y]] w0 fun e w' => e = .returned (.bool true) ∧ ∃ F', Pair w' qo rb F' ∧ Left w0 w' F F') := asks_any h0 k q x y hy
  by_cases h9 : k = 9 ∨ k = 10
  · have e9 : Hid (k = 9 ∨ k = 10) := h9
    have m9 : ((k == 9) = true) ∨ ((k == 9) = false ∧ (k == 10) = true) := by
      rcases h9 with rfl | rfl
      · exact .inl rfl
      · exact .inr ⟨rfl, rfl⟩
    clear h9 h1 h3 h5 h6
    rcases m9 with m9 | ⟨m9, m10⟩
    all_goals
      go_enter Try.func28, Try.ntmps28
      go_wp2_with fail
      rw [← hw0]
      clear hw0
      refine FL.out.mono ?_
      rintro e w1 ⟨rfl, F', pr, lf⟩
      clear b0 b1 b2 b3
      go_wp2
      go_ret
      exact ⟨rfl, F', pr, (Left.new K0).trans lf⟩
  have n9 : (k == 9) = false := by simp; omega
  have n10 : (k == 10) = false := by simp; omega
  clear h9 h1 h3 h5 h6
  by_cases h2 : k = 2
  · have m2 : (k == 2) = true := by simp [h2]
    clear h2
    go_enter Try.func28, Try.ntmps28
    go_wp2_with fail
    rw [← hw0]
    clear hw0
    refine AS.out.mono ?_
    rintro e w1 ⟨rfl, F', pr, lf⟩
    clear b0 b1 b2 b3
    go_wp2
    go_ret
    exact ⟨rfl, F', pr, (Left.new K0).trans lf⟩
  have n2 : (k == 2) = false := by simp [h2]
  by_cases h4 : k = 4
  · have m4 : (k == 4) = true := by simp [h4]
    clear h2 h4
    go_enter Try.func28, Try.ntmps28
    go_wp2_with fail
    rw [← hw0]
    clear hw0
    refine AS.out.mono ?_
    rintro e w1 ⟨rfl, F', pr, lf⟩
    clear b0 b1 b2 b3
    go_wp2
    go_ret
    exact ⟨rfl, F', pr, (Left.new K0).trans lf⟩
  have n4 : (k == 4) = false := by simp [h4]
  by_cases h7 : k = 7
  · have m7 : (k == 7) = true := by simp [h7]
    clear h2 h4 h7
    go_enter Try.func28, Try.ntmps28
    go_wp2_with fail
    rw [← hw0]
    clear hw0
    refine AS.out.mono ?_
    rintro e w1 ⟨rfl, F', pr, lf⟩
    clear b0 b1 b2 b3
    go_wp2
    go_ret
    exact ⟨rfl, F', pr, (Left.new K0).trans lf⟩
  have n7 : (k == 7) = false := by simp [h7]
  by_cases h8 : k = 8
  · have m8 : (k == 8) = true := by simp [h8]
    clear h2 h4 h7 h8
    go_enter Try.func28, Try.ntmps28
    go_wp2_with fail
    rw [← hw0]
    clear hw0
    refine AS.out.mono ?_
    rintro e w1 ⟨rfl, F', pr, lf⟩
    clear b0 b1 b2 b3
    go_wp2
    go_ret
    exact ⟨rfl, F', pr, (Left.new K0).trans lf⟩
  have n8 : (k == 8) = false := by simp [h8]
  clear h2 h4 h7 h8
  go_enter Try.func28, Try.ntmps28
  go_wp2_with fail
  (try rw [← hw0])
  go_ret
  first | exact ⟨rfl, F, h0, Left.new K0⟩ | exact ⟨rfl, F, by rw [← hw0]; exact h0, by rw [← hw0]; exact Left.new K0⟩
end
end Go.Proofs.Ytkebpelpjkgdkab
