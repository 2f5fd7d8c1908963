import Derived.Test.YtmcchconnfoffabCmR2
namespace Go.Proofs.Ytmcchconnfoffab
open Go.RowKit
/-- The document's number of a rule's answer. -/
def rnum (o : Option Int) : Int := match o with | none => 0 | some n => n
theorem rlow_int (w : World) {t d : Int} (h0 : 0 ≤ t) (h7 : t ≤ 7) (hd : In64 d) : Calls Try.prog 26 #[.int .i64 d, .int .i64 t] w fun e w' => e = .returned (.int .i64 (lowz t.toNat d)) ∧ w' = w := by
  have h := rlow_any w t.toNat (by omega) d hd
  rwa [Int.toNat_of_nonneg h0] at h
section
variable {w : World} {mine theirs born enemy : Int} {flag : Bool} {tr waited draw T : Int}
set_option maxHeartbeats 800000 in
theorem rrule0 (h0 : 0 ≤ T) (hd : In64 draw) : Calls Try.prog 24 #[.int .i64 0, .agg #[.int .i64 mine, .int .i64 theirs, .int .i64 born, .int .i64 enemy, .bool flag, .int .i64 tr, .int .i64 waited, .int .i64 draw], .int .i64 T] w fun e w' => e = .returned (.int .i64 (rnum (if 8 ≤ T then none else some (1 + lowz T.toNat draw)))) ∧ Keeps (fun _ => False) w w' := by
  by_cases h : 8 ≤ T
  · rw [if_pos h]
    simp only [rnum]
    go_enter Try.func24, Try.ntmps24
    go_wp2_with fail
    go_ret
    exact ⟨rfl, (Keeps.refl _ w).alloc _⟩
  · rw [if_neg h]
    simp only [rnum]
    have hl := fun W => rlow_int W h0 (show T ≤ 7 by omega) hd
    have a := lowz_nn T.toNat draw
    have b := lowz_le7 (n := T.toNat) (by omega) draw
    generalize lowz T.toNat draw = L at *
    go_enter Try.func24, Try.ntmps24
    go_wp2_with (go_at_call 26; refine (hl _).mono ?_; rintro e w1 ⟨rfl, rfl⟩)
    go_ret
    exact ⟨rfl, (Keeps.refl _ w).alloc _⟩
set_option maxHeartbeats 800000 in
theorem rrule1 (hm : In64 mine) (hth : In64 theirs) (hT : In64 T) (h0 : 0 ≤ T) : Calls Try.prog 24 #[.int .i64 1, .agg #[.int .i64 mine, .int .i64 theirs, .int .i64 born, .int .i64 enemy, .bool flag, .int .i64 tr, .int .i64 waited, .int .i64 draw], .int .i64 T] w fun e w' => e = .returned (.int .i64 (rnum (if decide (theirs < clamp (mine + T)) = true then none else some 4))) ∧ Keeps (fun _ => False) w w' := by
  have hab := fun W => rabove_any W hm hT hth h0
  generalize decide (theirs < clamp (mine + T)) = B at *
  cases B with
  | true =>
    rw [if_pos rfl]
    simp only [rnum]
    go_enter Try.func24, Try.ntmps24
    go_wp2_with (go_at_call 27; refine (hab _).mono ?_; rintro e w1 ⟨rfl, rfl⟩)
    go_ret
    exact ⟨rfl, (Keeps.refl _ w).alloc _⟩
  | false =>
    rw [if_neg (by simp)]
    simp only [rnum]
    go_enter Try.func24, Try.ntmps24
    go_wp2_with (go_at_call 27; refine (hab _).mono ?_; rintro e w1 ⟨rfl, rfl⟩)
    go_ret
    exact ⟨rfl, (Keeps.refl _ w).alloc _⟩
set_option maxHeartbeats 800000 in
theorem rrule2 (hm : In64 mine) (hth : In64 theirs) (hT : In64 T) (h0 : 0 ≤ T) (hd : In64 draw) : Calls Try.prog 24 #[.int .i64 2, .agg #[.int .i64 mine, .int .i64 theirs, .int .i64 born, .int .i64 enemy, .bool flag, .int .i64 tr, .int .i64 waited, .int .i64 draw], .int .i64 T] w fun e w' => e = .returned (.int .i64 (rnum (if decide (theirs < clamp (mine + T)) = true then none else some (1 + lowz (min T 7).toNat draw)))) ∧ Keeps (fun _ => False) w w' := by
  have hab := fun W => rabove_any W hm hT hth h0
  generalize decide (theirs < clamp (mine + T)) = B at *
  cases B with
  | true =>
    rw [if_pos rfl]
    simp only [rnum]
    go_enter Try.func24, Try.ntmps24
    go_wp2_with (go_at_call 27; refine (hab _).mono ?_; rintro e w1 ⟨rfl, rfl⟩)
    go_ret
    exact ⟨rfl, (Keeps.refl _ w).alloc _⟩
  | false =>
    rw [if_neg (by simp)]
    simp only [rnum]
    by_cases h7 : 7 < T
    · rw [show min T 7 = 7 by omega]
      have hl := fun W => rlow_int W (t := 7) (by omega) (by omega) hd
      have a := lowz_nn (7 : Int).toNat draw
      have b := lowz_le7 (n := (7 : Int).toNat) (by decide) draw
      generalize lowz (7 : Int).toNat draw = L at *
      go_enter Try.func24, Try.ntmps24
      go_wp2_with (first | (go_at_call 27; refine (hab _).mono ?_; rintro e w1 ⟨rfl, rfl⟩) | (go_at_call 26; refine (hl _).mono ?_; rintro e w1 ⟨rfl, rfl⟩))
      go_ret
      exact ⟨rfl, (Keeps.refl _ w).alloc _⟩
    · rw [show min T 7 = T by omega]
      have hl := fun W => rlow_int W h0 (show T ≤ 7 by omega) hd
      have a := lowz_nn T.toNat draw
      have b := lowz_le7 (n := T.toNat) (by omega) draw
      generalize lowz T.toNat draw = L at *
      go_enter Try.func24, Try.ntmps24
      go_wp2_with (first | (go_at_call 27; refine (hab _).mono ?_; rintro e w1 ⟨rfl, rfl⟩) | (go_at_call 26; refine (hl _).mono ?_; rintro e w1 ⟨rfl, rfl⟩))
      go_ret
      exact ⟨rfl, (Keeps.refl _ w).alloc _⟩
set_option maxHeartbeats 800000 in
theorem rrule3 : Calls Try.prog 24 #[.int .i64 3, .agg #[.int .i64 mine, .int .i64 theirs, .int .i64 born, .int .i64 enemy, .bool flag, .int .i64 tr, .int .i64 waited, .int .i64 draw], .int .i64 T] w fun e w' => e = .returned (.int .i64 (rnum (if born < enemy ∨ flag = true then none else some 4))) ∧ Keeps (fun _ => False) w w' := by
  cases flag with
  | true =>
    rw [if_pos (.inr rfl)]
    simp only [rnum]
    go_enter Try.func24, Try.ntmps24
    go_wp2_with fail
    go_ret
    exact ⟨rfl, (Keeps.refl _ w).alloc _⟩
  | false =>
    by_cases h : born < enemy
    · rw [if_pos (.inl h)]
      simp only [rnum]
      go_enter Try.func24, Try.ntmps24
      go_wp2_with fail
      go_ret
      exact ⟨rfl, (Keeps.refl _ w).alloc _⟩
    · rw [if_neg (by simpa using h)]
      simp only [rnum]
      go_enter Try.func24, Try.ntmps24
      go_wp2_with fail
      go_ret
      exact ⟨rfl, (Keeps.refl _ w).alloc _⟩
set_option maxHeartbeats 800000 in
theorem rrule4 (hd : In64 draw) : Calls Try.prog 24 #[.int .i64 4, .agg #[.int .i64 mine, .int .i64 theirs, .int .i64 born, .int .i64 enemy, .bool flag, .int .i64 tr, .int .i64 waited, .int .i64 draw], .int .i64 T] w fun e w' => e = .returned (.int .i64 (rnum (if lowz 4 draw % 2 = 0 then none else some ((lowz 4 draw + 1) / 2 + if draw < 0 then 8 else 0)))) ∧ Keeps (fun _ => False) w w' := by
  have hl : ∀ W, Calls Try.prog 26 #[.int .i64 draw, .int .i64 4] W fun e w' => e = .returned (.int .i64 (lowz 4 draw)) ∧ w' = W := fun W => rlow_any W 4 (by omega) draw hd
  have a := lowz_nn 4 draw
  have b : lowz 4 draw < 16 := lowz_lt 4 draw
  generalize lowz 4 draw = L at *
  have q1 : L.tmod 2 = L % 2 := Int.tmod_eq_emod_of_nonneg a
  have q2 : (L + 1).tdiv 2 = (L + 1) / 2 := Int.tdiv_eq_ediv_of_nonneg (by omega)
  by_cases h : L % 2 = 0
  · rw [if_pos h]
    simp only [rnum]
    go_enter Try.func24, Try.ntmps24
    go_wp2_with (go_at_call 26; refine (hl _).mono ?_; rintro e w1 ⟨rfl, rfl⟩)
    go_ret
    exact ⟨rfl, (Keeps.refl _ w).alloc _⟩
  · rw [if_neg h]
    simp only [rnum]
    have h' : (L % 2 == 0) = false := by simp [h]
    by_cases hn : draw < 0
    · rw [if_pos hn]
      go_enter Try.func24, Try.ntmps24
      go_wp2_with (go_at_call 26; refine (hl _).mono ?_; rintro e w1 ⟨rfl, rfl⟩)
      go_ret
      exact ⟨rfl, (Keeps.refl _ w).alloc _⟩
    · rw [if_neg hn, Int.add_zero]
      go_enter Try.func24, Try.ntmps24
      go_wp2_with (go_at_call 26; refine (hl _).mono ?_; rintro e w1 ⟨rfl, rfl⟩)
      go_ret
      exact ⟨rfl, (Keeps.refl _ w).alloc _⟩
theorem rrule_any {k : Nat} (hk : k < 5) (hc : Cf.ok ⟨mine, theirs, born, enemy, flag, tr, waited, draw⟩) (hT : In64 T) (h0 : 0 ≤ T) : Calls Try.prog 24 #[.int .i64 (k : Int), .agg #[.int .i64 mine, .int .i64 theirs, .int .i64 born, .int .i64 enemy, .bool flag, .int .i64 tr, .int .i64 waited, .int .i64 draw], .int .i64 T] w fun e w' => e = .returned (.int .i64 (rnum (rulv k ⟨mine, theirs, born, enemy, flag, T, waited, draw⟩))) ∧ Keeps (fun _ => False) w w' := by
  obtain ⟨h1, h2, _, _, _, _, h7⟩ := hc
  match k, hk with
  | 0, _ => exact rrule0 h0 h7
  | 1, _ => exact rrule1 h1 h2 hT h0
  | 2, _ => exact rrule2 h1 h2 hT h0 h7
  | 3, _ => exact rrule3
  | 4, _ => exact rrule4 h7
end
end Go.Proofs.Ytmcchconnfoffab
