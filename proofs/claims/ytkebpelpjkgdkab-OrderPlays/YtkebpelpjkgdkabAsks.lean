import Derived.Test.YtkebpelpjkgdkabPairs
import Derived.Test.YtkebpelpjkgdkabQueE
namespace Go.Proofs.Ytkebpelpjkgdkab
open Go.RowKit Go.Maps

section
variable {w : World} {qo : Option Nat} {rb : Nat} {F : List Nat}

theorem p_items (h : Pair w qo rb F) :
    Calls Try.prog 17 #[qp qo] w fun e w1 => ∃ a cap T, e = .returned (.slice a (T : List It).length cap) ∧ T.length ≤ 4096 ∧ IL w1 a T ∧ Keeps (fun _ => False) w w1 ∧
      ∀ w1', Keeps (fun _ => False) w1 w1' → Calls Try.prog 56 #[.pointer (some ⟨rb, 0, none⟩)] w1' fun e w2 => ∃ a2 cap2, e = .returned (.slice a2 T.length cap2) ∧ IL w2 a2 T ∧ Keeps (fun _ => False) w1' w2 := by
  cases qo with
  | none =>
    refine (nil_items w).mono ?_
    rintro e w1 ⟨rfl, rfl⟩
    refine ⟨none, 0, [], rfl, by simp, .inl rfl, Keeps.refl _ _, fun w1' k' => ?_⟩
    have h1 : RI w1' rb 0 [] F := RI.keep h k' (fun _ _ e => e)
    refine (ritems_any h1).mono ?_
    rintro e w2 ⟨v, rfl, ho, k2⟩
    obtain ⟨a, cap, rfl, hi, _⟩ := owns_il ho rfl
    have hs : srt ([] : List It) = [] := List.eq_nil_of_length_eq_zero (by rw [srt_length]; rfl)
    rw [hs] at hi
    exact ⟨a, cap, by rw [hs], hi, k2⟩
  | some qb =>
    obtain ⟨xs, L, Fq, Fr, hq, hr, hd, hp, rfl⟩ := h
    refine (items_any hq).mono ?_
    rintro e w1 ⟨v, rfl, ho, k1⟩
    obtain ⟨a, cap, rfl, hi, _⟩ := owns_il ho rfl
    refine ⟨a, cap, srt xs, rfl, by rw [srt_length]; exact hq.le, hi, k1, fun w1' k' => ?_⟩
    refine (ritems_any ((hr.keep k1 (fun _ _ e => e)).keep k' (fun _ _ e => e))).mono ?_
    rintro e w2 ⟨v, rfl, ho, k2⟩
    obtain ⟨a2, cap2, rfl, hi2, _⟩ := owns_il ho rfl
    have hs : srt L = srt xs := srt_congr hp.symm
    rw [hs] at hi2
    exact ⟨a2, cap2, by rw [hs], hi2, k2⟩

theorem p_len (h : Pair w qo rb F) : Calls Try.prog 16 #[qp qo] w fun e w1 => w1 = w ∧ ∃ n : Nat, e = .returned (.int .i64 n) ∧ ∃ a cap, w.cell? ⟨rb, 0, none⟩ = some (.slice a n cap) := by
  cases qo with
  | none =>
    refine (nil_len w).mono ?_
    rintro e w1 ⟨rfl, rfl⟩
    obtain ⟨a, cap, c0, _⟩ := RI.il h
    exact ⟨rfl, 0, rfl, a, cap, c0⟩
  | some qb =>
    obtain ⟨xs, L, Fq, Fr, hq, hr, hd, hp, rfl⟩ := h
    refine (len_any hq).mono ?_
    rintro e w1 ⟨rfl, rfl⟩
    obtain ⟨a, cap, c0, _⟩ := hr.il
    exact ⟨rfl, xs.length, rfl, a, cap, by rw [hp.length_eq]; exact c0⟩

set_option maxHeartbeats 3200000 in
set_option maxRecDepth 1000000 in
theorem asks_any (h : Pair w qo rb F) (k q x y : Int) (hy : I64 y) :
    Calls Try.prog 42 #[qp qo, .pointer (some ⟨rb, 0, none⟩), .agg #[.int .i64 k, .int .i64 q, .int .i64 x, .int .i64 y]] w fun e w' => e = .returned (.bool true) ∧ ∃ F', Pair w' qo rb F' ∧ Left w w' F F' := by
  obtain ⟨w0, hw0⟩ : ∃ w0, w0 = w.alloc (.cells #[.int .i64 k, .int .i64 q, .int .i64 x, .int .i64 y] 42) := ⟨_, rfl⟩
  have K0 : Keeps (fun _ => False) w w0 := by rw [hw0]; exact (Keeps.refl _ w).alloc _
  have b0 : w0.cell? ⟨w.heap.size, 0, none⟩ = some (.int .i64 k) := by rw [hw0]; simp
  have b3 : w0.cell? ⟨w.heap.size, 3, none⟩ = some (.int .i64 y) := by rw [hw0]; simp
  have h0 := h.keep K0 (fun _ _ e => e)
  have nF : w.heap.size ∉ F := fun e => by have := h.lt _ e; omega
  by_cases h2 : k = 2
  · subst h2
    go_enter Try.func42, Try.ntmps42
    go_wp2_with fail
    rw [← hw0]
    clear hw0
    refine (p_least h0).mono ?_
    rintro e w1 ⟨z, n, rfl, _, aft⟩
    have x0 : (w1.alloc (.cells #[.int .i64 z.1, .int .i64 z.2] 32)).cell? ⟨w1.heap.size, 0, none⟩ = some (.int .i64 z.1) := by simp
    have x1 : (w1.alloc (.cells #[.int .i64 z.1, .int .i64 z.2] 32)).cell? ⟨w1.heap.size, 1, none⟩ = some (.int .i64 z.2) := by simp
    go_wp2_with fail
    refine (aft _ ((Keeps.refl _ w1).alloc _)).mono ?_
    rintro e w2 ⟨rfl, ⟨F', pr, lf⟩, hc⟩
    have a0 := hc _ _ _ (Nat.le_refl _) x0
    have a1 := hc _ _ _ (Nat.le_refl _) x1
    have K3 : Keeps (fun _ => False) w2 (w2.alloc (.cells #[.int .i64 z.1, .int .i64 z.2] 32)) := (Keeps.refl _ w2).alloc _
    have e0 := K3.cell a0 (fun e => e)
    have e1 := K3.cell a1 (fun e => e)
    have d0 : (w2.alloc (.cells #[.int .i64 z.1, .int .i64 z.2] 32)).cell? ⟨w2.heap.size, 0, none⟩ = some (.int .i64 z.1) := by simp
    have d1 : (w2.alloc (.cells #[.int .i64 z.1, .int .i64 z.2] 32)).cell? ⟨w2.heap.size, 1, none⟩ = some (.int .i64 z.2) := by simp
    obtain ⟨w3, hw3⟩ : ∃ w3, w2.alloc (.cells #[.int .i64 z.1, .int .i64 z.2] 32) = w3 := ⟨_, rfl⟩
    rw [hw3] at K3 e0 e1 d0 d1
    clear x0 x1 a0 a1 hc aft b0 b3
    go_wp2_with fail
    refine (num_any _ _).mono ?_
    rintro e w4 ⟨rfl, rfl⟩
    go_wp2
    go_ret
    exact ⟨rfl, F', pr.keep K3 (fun _ _ e => e), ((Left.new K0).trans lf).trans (Left.new K3)⟩
  · have n2 : (k == 2) = false := by simp [h2]
    by_cases h4 : k = 4
    · subst h4
      go_enter Try.func42, Try.ntmps42
      go_wp2_with fail
      rw [← hw0]
      clear hw0
      refine (p_key h0 hy).mono ?_
      rintro e w1 ⟨z, n, rfl, kq, aft⟩
      have c3 := kq.cell b3 nF
      go_wp2_with fail
      refine (aft _ (Keeps.refl _ w1)).mono ?_
      rintro e w2 ⟨rfl, ⟨F', pr, lf⟩, hc⟩
      clear b0 b3 hc aft
      go_wp2_with fail
      refine (num_any _ _).mono ?_
      rintro e w4 ⟨rfl, rfl⟩
      go_wp2
      go_ret
      exact ⟨rfl, F', pr, (Left.new K0).trans lf⟩
    · have n4 : (k == 4) = false := by simp [h4]
      by_cases h7 : k = 7
      · subst h7
        go_enter Try.func42, Try.ntmps42
        go_wp2_with fail
        rw [← hw0]
        clear hw0
        refine (p_items h0).mono ?_
        rintro e w1 ⟨a, cap, T, rfl, hT, il, k1, aft⟩
        clear b0 b3
        go_wp2_with fail
        refine (aft w1 (Keeps.refl _ w1)).mono ?_
        rintro e w2 ⟨a2, cap2, rfl, il2, k2⟩
        clear aft
        go_wp2_with fail
        refine (same_any (il.new k2) il2 (by omega) cap cap2).mono ?_
        rintro e w3 ⟨rfl, k3⟩
        have kk := (k1.trans k2).trans k3
        go_wp2
        go_ret
        exact ⟨rfl, F, h0.keep kk (fun _ _ e => e), (Left.new K0).trans (Left.new kk)⟩
      · have n7 : (k == 7) = false := by simp [h7]
        go_enter Try.func42, Try.ntmps42
        go_wp2_with fail
        rw [← hw0]
        clear hw0
        refine (p_len h0).mono ?_
        rintro e w1 ⟨rfl, n, rfl, a, cap, c0⟩
        clear b0 b3
        go_wp2
        go_ret
        exact ⟨rfl, F, h0, Left.new K0⟩
end
end Go.Proofs.Ytkebpelpjkgdkab
