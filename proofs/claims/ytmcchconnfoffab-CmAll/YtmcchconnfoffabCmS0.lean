import Derived.Test.YtmcchconnfoffabCmR4
import Derived.Test.YtmcchconnfoffabCmOpen
namespace Go.Proofs.Ytmcchconnfoffab
open Go.RowKit
theorem rname_in (w : World) {k : Nat} (hk : k < 5) : Calls Try.prog 25 #[.int .i64 (k : Int)] w fun e w' => (∃ s : ByteArray, e = .returned (.string s) ∧ (s.toList == []) = false) ∧ w' = w := by
  match k, hk with
  | 0, _ | 1, _ | 2, _ | 3, _ | 4, _ =>
    go_enter Try.func25, Try.ntmps25
    go_wp2
    go_ret
    exact ⟨⟨_, rfl, by rw [ByteArray.toList_eq]; rfl⟩, rfl⟩
theorem rname_out (w : World) {k : Int} (hk : k < 0 ∨ 5 ≤ k) : Calls Try.prog 25 #[.int .i64 k] w fun e w' => e = .returned (.string ⟨#[]⟩) ∧ w' = w := by
  have h0 : (k == 0) = false := by simp; omega
  have h1 : (k == 1) = false := by simp; omega
  have h2 : (k == 2) = false := by simp; omega
  have h3 : (k == 3) = false := by simp; omega
  have h4 : (k == 4) = false := by simp; omega
  go_enter Try.func25, Try.ntmps25
  go_wp2
  go_ret
  exact ⟨rfl, rfl⟩
theorem rmay_in (w : World) {k : Nat} (hk : k < 5) {p : Int} (hp : Pat p) : Calls Try.prog 22 #[.int .i64 (k : Int), .int .i64 p] w fun e w' => e = .returned (.int .i64 0) ∧ w' = w := by
  have h1 := hp.1
  have h2 := hp.2
  go_enter Try.func22, Try.ntmps22
  go_wp2_with (go_at_call 25; refine (rname_in _ hk).mono ?_; rintro e w1 ⟨⟨s, rfl, hs⟩, rfl⟩)
  go_ret
  exact ⟨rfl, rfl⟩
theorem rmay_no1 (w : World) {k p : Int} (hk : k < 0 ∨ 5 ≤ k) : Calls Try.prog 22 #[.int .i64 k, .int .i64 p] w fun e w' => e = .returned (.int .i64 60) ∧ w' = w := by
  go_enter Try.func22, Try.ntmps22
  go_wp2_with (go_at_call 25; refine (rname_out _ hk).mono ?_; rintro e w1 ⟨rfl, rfl⟩)
  go_ret
  exact ⟨rfl, rfl⟩
theorem rmay_no2 (w : World) {k : Nat} (hk : k < 5) {p : Int} (hp : p < 1 ∨ (¬ p < 1 ∧ 4096 < p)) : Calls Try.prog 22 #[.int .i64 (k : Int), .int .i64 p] w fun e w' => e = .returned (.int .i64 61) ∧ w' = w := by
  rcases hp with h | ⟨h, h2⟩
  all_goals
    go_enter Try.func22, Try.ntmps22
    go_wp2_with (go_at_call 25; refine (rname_in _ hk).mono ?_; rintro e w1 ⟨⟨s, rfl, hs⟩, rfl⟩)
    go_ret
    exact ⟨rfl, rfl⟩
/-- A manager that may be. -/
def okMk (q : Mk) : Prop := 0 ≤ q.kind ∧ q.kind < 5 ∧ Pat q.pat
set_option maxHeartbeats 1600000 in
theorem made_ok (w : World) {k : Nat} (hk : k < 5) {p : Int} (hp : Pat p) : Calls Try.prog 19 #[.agg #[.int .i64 (k : Int), .int .i64 p]] w fun e w' => ∃ b, e = .returned (.tuple #[.pointer (some ⟨b, 0, none⟩), .bool true]) ∧ w.heap.size ≤ b ∧ Mg w' b k p ∧ Keeps (fun _ => False) w w' := by
  obtain ⟨w0, hw0⟩ : ∃ w0, w0 = w.alloc (.cells #[.int .i64 (k : Int), .int .i64 p] 52) := ⟨_, rfl⟩
  have K0 : Keeps (fun _ => False) w w0 := by rw [hw0]; exact (Keeps.refl _ w).alloc _
  have d0 : w0.cell? ⟨w.heap.size, 0, none⟩ = some (.int .i64 (k : Int)) := by rw [hw0]; simp
  have d1 : w0.cell? ⟨w.heap.size, 1, none⟩ = some (.int .i64 p) := by rw [hw0]; simp
  have hn := new_any w0 hk hp
  have hmay := fun W => rmay_in W hk hp
  clear hk hp
  go_enter Try.func19, Try.ntmps19
  go_wp2_with fail
  rw [← hw0]
  clear hw0
  refine hn.mono ?_
  clear hn
  rintro e w1 ⟨b, rfl, hb, M, k1⟩
  have hs := K0.size
  have e0 := k1.cell d0 id
  have e1 := k1.cell d1 id
  have K1 := K0.trans k1
  clear d0 d1 K0 k1
  go_wp2_with (first | (go_at_call 22; refine (hmay _).mono ?_; rintro e w2 ⟨rfl, rfl⟩) | (go_at_call 15; refine (num_any _ _).mono ?_; rintro e w2 ⟨rfl, rfl⟩))
  go_ret2
  exact ⟨b, rfl, by omega, M, K1⟩
set_option maxHeartbeats 1600000 in
theorem made_no (w : World) {q : Mk} (hq : ¬ okMk q) : Calls Try.prog 19 #[.agg #[.int .i64 q.kind, .int .i64 q.pat]] w fun e w' => e = .returned (.tuple #[.pointer none, .bool true]) ∧ Keeps (fun _ => False) w w' := by
  obtain ⟨k, p⟩ := q
  simp only
  obtain ⟨n, hn, hmay, hn0⟩ : ∃ n : Int, (∀ W, Calls Try.prog 14 #[.int .i64 k, .int .i64 p] W fun e w' => e = .returned (.tuple #[.pointer none, .int .i64 n]) ∧ w' = W) ∧ (∀ W, Calls Try.prog 22 #[.int .i64 k, .int .i64 p] W fun e w' => e = .returned (.int .i64 n) ∧ w' = W) ∧ (n != 0) = true := by
    by_cases hk : k < 0 ∨ 5 ≤ k
    · exact ⟨60, fun W => new_no1 W hk, fun W => rmay_no1 W hk, rfl⟩
    · obtain ⟨m, rfl⟩ := Int.eq_ofNat_of_zero_le (show 0 ≤ k by omega)
      have hp : p < 1 ∨ (¬ p < 1 ∧ 4096 < p) := by
        by_cases h : p < 1
        · exact .inl h
        · by_cases h2 : 4096 < p
          · exact .inr ⟨h, h2⟩
          · exact absurd ⟨by simp, by simp; omega, ⟨by simp; omega, by simp; omega⟩⟩ hq
      exact ⟨61, fun W => new_no2 W (by omega) (by omega) (by omega), fun W => rmay_no2 W (by omega) hp, rfl⟩
  obtain ⟨w0, hw0⟩ : ∃ w0, w0 = w.alloc (.cells #[.int .i64 k, .int .i64 p] 52) := ⟨_, rfl⟩
  have K0 : Keeps (fun _ => False) w w0 := by rw [hw0]; exact (Keeps.refl _ w).alloc _
  have d0 : w0.cell? ⟨w.heap.size, 0, none⟩ = some (.int .i64 k) := by rw [hw0]; simp
  have d1 : w0.cell? ⟨w.heap.size, 1, none⟩ = some (.int .i64 p) := by rw [hw0]; simp
  clear hq
  go_enter Try.func19, Try.ntmps19
  go_wp2_with fail
  rw [← hw0]
  clear hw0
  refine (hn _).mono ?_
  clear hn
  rintro e w1 ⟨rfl, rfl⟩
  go_wp2_with (first | (go_at_call 22; refine (hmay _).mono ?_; rintro e w2 ⟨rfl, rfl⟩) | (go_at_call 15; refine (num_any _ _).mono ?_; rintro e w2 ⟨rfl, rfl⟩))
  go_ret2
  exact ⟨rfl, K0⟩
end Go.Proofs.Ytmcchconnfoffab
