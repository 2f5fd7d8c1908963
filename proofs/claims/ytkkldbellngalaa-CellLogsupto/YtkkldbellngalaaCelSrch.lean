import Derived.Test.YtkkldbellngalaaCelLog
namespace Go.Proofs.Ytkkldbellngalaa
open Go.RowKit

/-- The steps of the rows rise. -/
def Rises (L : List Rw) : Prop := ∀ i j, i < j → j < L.length → (ra L i).step < (ra L j).step

set_option maxHeartbeats 1600000 in
set_option maxRecDepth 1000000 in
/-- Whether a row is behind a step. -/
theorem behind_any {w : World} {B1 B2 mb : Nat} {a : Option Addr} {cap : Nat} {L : List Rw} {step : Int} (hB1 : w.cell? ⟨B1, 0, none⟩ = some (.pointer (some ⟨mb, 0, none⟩))) (hB2 : w.cell? ⟨B2, 0, none⟩ = some (.int .i64 step)) (hl : w.cell? ⟨mb, 1, none⟩ = some (.slice a L.length cap)) (hr : RowsAt w a L) {i : Nat} (hi : i < L.length) :
    Calls Try.prog 55 #[.int .i64 (i : Int), .pointer (some ⟨B1, 0, none⟩), .pointer (some ⟨B2, 0, none⟩)] w fun e w' => e = .returned (.bool (decide (step < (ra L i).step))) ∧ ∃ n, w' = w.drewN n := by
  rcases hr with hr | ⟨g, rfl, hg, hr⟩
  · omega
  have r0 := (hr i hi).r0
  have hiI : (i : Int) < (L.length : Int) := by omega
  generalize ra L i = r at *
  clear hr
  go_enter Try.func55, Try.ntmps55
  go_wp2_with fail
  go_quiet (fail)
  go_wp2_with fail
  go_ret
  exact ⟨rfl, _, rfl⟩

set_option maxHeartbeats 1600000 in
set_option maxRecDepth 1000000 in
theorem search_any {w : World} {B1 B2 mb : Nat} {a : Option Addr} {cap : Nat} {L : List Rw} {step : Int} (hB1 : w.cell? ⟨B1, 0, none⟩ = some (.pointer (some ⟨mb, 0, none⟩))) (hB2 : w.cell? ⟨B2, 0, none⟩ = some (.int .i64 step)) (hl : w.cell? ⟨mb, 1, none⟩ = some (.slice a L.length cap)) (hr : RowsAt w a L) (hL : L.length ≤ 4611686018427387903) (hR : Rises L) :
    Calls Try.prog 54 #[.int .i64 (L.length : Int), .func (.func 55) #[] #[.pointer (some ⟨B1, 0, none⟩), .pointer (some ⟨B2, 0, none⟩)]] w fun e w' =>
      ∃ n : Nat, e = .returned (.int .i64 (n : Int)) ∧ n ≤ L.length ∧ (∀ i, i < n → (ra L i).step ≤ step) ∧ (∀ i, n ≤ i → i < L.length → step < (ra L i).step) ∧ Keeps (fun _ => False) w w' := by
  have HB : Hid (∀ W, Keeps (fun _ => False) w W → ∀ i, i < L.length → Calls Try.prog 55 #[.int .i64 (i : Int), .pointer (some ⟨B1, 0, none⟩), .pointer (some ⟨B2, 0, none⟩)] W fun e w' => e = .returned (.bool (decide (step < (ra L i).step))) ∧ ∃ n, w' = W.drewN n) := fun W k i hi =>
    behind_any (k.cell hB1 (fun e => e)) (k.cell hB2 (fun e => e)) (k.cell hl (fun e => e)) (hr.below (k.below (Nat.le_refl _) (fun _ _ e => e)) rfl) hi
  clear hB1 hB2 hl hr
  go_enter Try.func54, Try.ntmps54
  go_wp2_with fail
  go_loopw [5, 6] (fun iv jv wr => ∃ i j : Nat, iv = .int .i64 i ∧ jv = .int .i64 j ∧ i ≤ j ∧ j ≤ L.length ∧ (∀ k, k < i → (ra L k).step ≤ step) ∧ (∀ k, j ≤ k → k < L.length → step < (ra L k).step) ∧ Keeps (fun _ => False) w wr) (fun iv jv _ => (intOf jv).toNat - (intOf iv).toNat)
  case atStart => exact ⟨0, L.length, rfl, rfl, Nat.zero_le _, Nat.le_refl _, fun k hk => by omega, fun k h1 h2 => by omega, Keeps.refl _ _⟩
  case round =>
    obtain ⟨i, j, rfl, rfl, hij, hj, hlo, hhi, K⟩ := hrel
    by_cases hlt : i < j
    · have hltI : (i : Int) < (j : Int) := by omega
      go_wp2_with fail
      obtain ⟨m, hm, hm1, hm2⟩ : ∃ m : Nat, ((i : Int) + (j : Int)) / 2 = (m : Int) ∧ i ≤ m ∧ m < j := ⟨(i + j) / 2, by omega, by omega, by omega⟩
      rw [hm]
      refine (HB.out wr K m (by omega)).mono ?_
      rintro e w2 ⟨rfl, n, hw2⟩
      have K2 : Keeps (fun _ => False) w w2 := by rw [hw2]; exact K.drewN n
      clear hw2 hm
      by_cases hs : step < (ra L m).step
      · have hs' : decide (step < (ra L m).step) = true := by simp [hs]
        rw [hs']
        have hhi' : Hid (∀ k, m ≤ k → k < L.length → step < (ra L k).step) := fun k h1 h2 => by
          by_cases e : m = k
          · subst e; exact hs
          · have := hR m k (by omega) h2; omega
        clear hs hs'
        go_wp2_with fail
        go_roundw
        case rel => exact ⟨i, m, rfl, rfl, hm1, by omega, hlo, hhi'.out, K2⟩
        case measure => simp [intOf]; omega
      · have hs' : decide (step < (ra L m).step) = false := by simp [hs]
        rw [hs']
        have hlo' : Hid (∀ k, k < m + 1 → (ra L k).step ≤ step) := fun k h1 => by
          by_cases e : k = m
          · subst e; omega
          · have := hR k m (by omega) (by omega); omega
        clear hs hs'
        go_wp2_with fail
        go_roundw
        case rel => exact ⟨m + 1, j, by go_num, rfl, by omega, hj, hlo'.out, hhi, K2⟩
        case measure => simp [intOf]; omega
    · have hltI : ¬ (i : Int) < (j : Int) := by omega
      have e : i = j := by omega
      subst e
      go_wp2_with fail
      go_ret
      exact ⟨i, rfl, hj, hlo, hhi, K⟩

/-- The last row of a cell has the last word on it. -/
def lastOf (c : Int) (d : Int) : List Rw → Int
  | [] => d
  | r :: l => lastOf c (if r.cell = c then r.wrote else d) l
theorem lastOf_snoc (c : Int) : ∀ (l : List Rw) (d : Int) (r : Rw), lastOf c d (l ++ [r]) = if r.cell = c then r.wrote else lastOf c d l
  | [], _, _ => rfl
  | _ :: l, _, r => lastOf_snoc c l _ r
theorem take_snoc {L : List Rw} {i : Nat} (h : i < L.length) : L.take (i + 1) = L.take i ++ [ra L i] := by
  rw [List.take_add_one, ra_get h]; rfl

/-- The rows from a number back. -/
def brs (L : List Rw) (n j : Nat) : Rw := ra L (n - 1 - j)
def benc (x : Rw) : Array Value := #[.agg #[.int .i64 x.step, .int .i64 x.thread, .int .i64 x.kind, .int .i64 x.cell, .int .i64 x.seen, .int .i64 x.wrote, .bool x.done]]
end Go.Proofs.Ytkkldbellngalaa
