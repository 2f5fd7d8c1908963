import Derived.Test.YtgfjhogogajbjaaSchJ
import Derived.Test.YtgfjhogogajbjaaSchTail
namespace Go.Proofs.Ytgfjhogogajbjaa
open Go.RowKit

set_option maxHeartbeats 1600000 in
set_option maxRecDepth 1000000 in
theorem refused_any (w : World) (n : Int) (a : Option Addr) (m cap : Nat) : Calls Try.prog 17 #[.int .i64 n, .slice a m cap] w fun e w' => e = .returned (.int .i64 (rfz n m)) ∧ w' = w := by
  go_enter Try.func17, Try.ntmps17
  by_cases h1 : n < 1
  · have e : rfz n m = 40 := if_pos (.inl h1)
    go_wp2
    go_ret
    first | exact ⟨rfl, rfl⟩ | exact ⟨by rw [e]; rfl, rfl⟩
  · by_cases h2 : 6 < n
    · have e : rfz n m = 40 := if_pos (.inr h2)
      go_wp2
      go_ret
      first | exact ⟨rfl, rfl⟩ | exact ⟨by rw [e]; rfl, rfl⟩
    · by_cases h3 : 4096 < m
      · have e : rfz n m = 41 := by unfold rfz; rw [if_neg (by omega), if_pos h3]
        have h3' : (4096 : Int) < (m : Int) := by omega
        go_wp2
        go_ret
        first | exact ⟨rfl, rfl⟩ | exact ⟨by rw [e]; rfl, rfl⟩
      · have e : rfz n m = 0 := by unfold rfz; rw [if_neg (by omega), if_neg h3]
        have h3' : ¬ (4096 : Int) < (m : Int) := by omega
        go_wp2
        go_ret
        first | exact ⟨rfl, rfl⟩ | exact ⟨by rw [e]; rfl, rfl⟩

set_option maxHeartbeats 1600000 in
set_option maxRecDepth 1000000 in
theorem rnamed_any (w : World) (n : Nat) (hn : n ≤ 6) (p : Int) : Calls Try.prog 18 #[.int .i64 (n : Int), .int .i64 p] w fun e w' => e = .returned (.int .i64 (nmz n p)) ∧ w' = w := by
  go_enter Try.func18, Try.ntmps18
  obtain ⟨q, hq⟩ : ∃ q, Hid (q = nmz n p) := ⟨_, rfl⟩
  rw [← hq.out]
  go_wp2_with fail
  go_loopw [5] (fun i wr => ∃ t : Nat, t ≤ n ∧ i = .int .i64 (t : Int) ∧ (∀ t' : Nat, t' < t → p ≠ (t' : Int)) ∧ wr = w) (fun i _ => n - (intOf i).toNat)
  case atStart => exact ⟨0, Nat.zero_le _, rfl, (fun t' h => by omega), rfl⟩
  case round =>
    obtain ⟨t, ht, rfl, hts, rfl⟩ := hrel
    by_cases hlt : t < n
    · have h1 : decide ((t : Int) < (n : Int)) = true := decide_eq_true (by omega)
      have h1n : decide (t < n) = true := decide_eq_true hlt
      by_cases he : p = (t : Int)
      · have hb : (p == (t : Int)) = true := by simp [he]
        have HE := (show Hid _ from he)
        clear he
        go_wp2_with fail
        go_ret
        have e1 := hq.out
        have e2 := HE.out
        refine ⟨?_, rfl⟩
        have : q = (t : Int) := by rw [e1, e2]; unfold nmz; rw [if_neg (by omega)]
        rw [this]; rfl
      · have hb : (p == (t : Int)) = false := by simp [he]
        have HE := (show Hid _ from he)
        clear he
        go_wp2_with fail
        go_roundw
        case rel => exact ⟨t + 1, by omega, by go_num, fun t' h => (by
          by_cases e : t' = t
          · rw [e]; exact HE.out
          · exact hts t' (by omega)), by simp⟩
        case measure => simp [intOf]; omega
    · have h1 : decide ((t : Int) < (n : Int)) = false := decide_eq_false (by omega)
      have h1n : decide (t < n) = false := decide_eq_false hlt
      go_wp2_with fail
      go_ret
      refine ⟨?_, rfl⟩
      have e1 := hq.out
      have : q = -1 := by
        rw [e1]
        unfold nmz
        rw [if_pos]
        by_cases h : p < 0
        · exact .inl h
        · refine .inr ?_
          by_cases h2 : p < (n : Int)
          · exact absurd (by omega : p = ((p.toNat : Nat) : Int)) (hts p.toNat (by omega))
          · omega
      rw [this]; rfl

/-- Behind i picks no window of k picks is without t; the last c of them are. -/
structure Run (f : Nat → Int) (t i k c : Nat) : Prop where
  le : c ≤ i
  lt : c < k
  not : ∀ j, i - c ≤ j → j < i → f j ≠ (t : Int)
  last : c = i ∨ f (i - c - 1) = (t : Int)
  none_ : ∀ a l, a + l ≤ i → (∀ j, a ≤ j → j < a + l → f j ≠ (t : Int)) → l < k
theorem Run.zero {f : Nat → Int} {t k : Nat} (hk : 0 < k) : Run f t 0 k 0 := ⟨Nat.le_refl _, hk, fun j h1 h2 => by omega, .inl rfl, fun a l h1 h2 => by omega⟩
theorem Run.hit {f : Nat → Int} {t i k c : Nat} (h : Run f t i k c) (he : f i = (t : Int)) : Run f t (i + 1) k 0 := by
  have hk := h.lt
  refine ⟨by omega, by omega, fun j h1 h2 => by omega, .inr (by simpa using he), fun a l h1 h2 => ?_⟩
  by_cases e : a + l ≤ i
  · exact h.none_ a l e h2
  · rcases Nat.eq_zero_or_pos l with h0 | h0
    · omega
    · exact absurd he (h2 i (by omega) (by omega))
theorem Run.miss {f : Nat → Int} {t i k c : Nat} (h : Run f t i k c) (he : f i ≠ (t : Int)) (hk : c + 1 < k) : Run f t (i + 1) k (c + 1) := by
  have h1 := h.le
  refine ⟨by omega, hk, fun j j1 j2 => ?_, ?_, fun a l a1 a2 => ?_⟩
  · by_cases e : j = i
    · rw [e]; exact he
    · exact h.not j (by omega) (by omega)
  · rcases h.last with h2 | h2
    · exact .inl (by omega)
    · exact .inr (by rw [show i + 1 - (c + 1) - 1 = i - c - 1 by omega]; exact h2)
  · by_cases e : a + l ≤ i
    · exact h.none_ a l e a2
    · rcases h.last with h2 | h2
      · omega
      · by_cases e2 : a ≤ i - c - 1
        · by_cases e3 : c = i
          · omega
          · exact absurd h2 (a2 (i - c - 1) e2 (by omega))
        · omega
theorem Run.bad {f : Nat → Int} {t i k c : Nat} (h : Run f t i k c) (he : f i ≠ (t : Int)) (hk : ¬ c + 1 < k) : ∃ a, a + k ≤ i + 1 ∧ ∀ j, a ≤ j → j < a + k → f j ≠ (t : Int) := by
  have h1 := h.le
  have h2 := h.lt
  refine ⟨i - c, by omega, fun j j1 j2 => ?_⟩
  by_cases e : j = i
  · rw [e]; exact he
  · exact h.not j j1 (by omega)

end Go.Proofs.Ytgfjhogogajbjaa
