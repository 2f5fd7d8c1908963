import Derived.Test.YtmcchconnfoffabCmC
namespace Go.Proofs.Ytmcchconnfoffab
open Go.RowKit
set_option maxHeartbeats 1600000 in
set_option maxRecDepth 1000000 in
theorem ruleOf0 (w : World) (p : Int) : Calls Try.prog 23 #[.int .i64 0, .int .i64 p] w fun e w' => e = .returned (.iface 65 (.agg #[.int .i64 p])) ∧ Keeps (fun _ => False) w w' := by
  go_enter Try.func23, Try.ntmps23
  go_wp2
  go_ret
  refine ⟨rfl, ?_⟩
  first | exact (Keeps.refl _ w).alloc _ | exact ((Keeps.refl _ w).alloc _).alloc _ | exact (((Keeps.refl _ w).alloc _).alloc _).alloc _
set_option maxHeartbeats 1600000 in
set_option maxRecDepth 1000000 in
theorem ruleOf1 (w : World) (p : Int) : Calls Try.prog 23 #[.int .i64 1, .int .i64 p] w fun e w' => e = .returned (.iface 66 (.agg #[.int .i64 p])) ∧ Keeps (fun _ => False) w w' := by
  go_enter Try.func23, Try.ntmps23
  go_wp2
  go_ret
  refine ⟨rfl, ?_⟩
  first | exact (Keeps.refl _ w).alloc _ | exact ((Keeps.refl _ w).alloc _).alloc _ | exact (((Keeps.refl _ w).alloc _).alloc _).alloc _
set_option maxHeartbeats 1600000 in
set_option maxRecDepth 1000000 in
theorem ruleOf2 (w : World) (p : Int) : Calls Try.prog 23 #[.int .i64 2, .int .i64 p] w fun e w' => e = .returned (.iface 67 (.agg #[.int .i64 p])) ∧ Keeps (fun _ => False) w w' := by
  go_enter Try.func23, Try.ntmps23
  go_wp2
  go_ret
  refine ⟨rfl, ?_⟩
  first | exact (Keeps.refl _ w).alloc _ | exact ((Keeps.refl _ w).alloc _).alloc _ | exact (((Keeps.refl _ w).alloc _).alloc _).alloc _
set_option maxHeartbeats 1600000 in
set_option maxRecDepth 1000000 in
theorem ruleOf3 (w : World) (p : Int) : Calls Try.prog 23 #[.int .i64 3, .int .i64 p] w fun e w' => e = .returned (.iface 68 (.agg #[.int .i64 p])) ∧ Keeps (fun _ => False) w w' := by
  go_enter Try.func23, Try.ntmps23
  go_wp2
  go_ret
  refine ⟨rfl, ?_⟩
  first | exact (Keeps.refl _ w).alloc _ | exact ((Keeps.refl _ w).alloc _).alloc _ | exact (((Keeps.refl _ w).alloc _).alloc _).alloc _
set_option maxHeartbeats 1600000 in
set_option maxRecDepth 1000000 in
theorem ruleOf4 (w : World) (p : Int) : Calls Try.prog 23 #[.int .i64 4, .int .i64 p] w fun e w' => e = .returned (.iface 70 (.agg #[.int .i64 p])) ∧ Keeps (fun _ => False) w w' := by
  go_enter Try.func23, Try.ntmps23
  go_wp2
  go_ret
  refine ⟨rfl, ?_⟩
  first | exact (Keeps.refl _ w).alloc _ | exact ((Keeps.refl _ w).alloc _).alloc _ | exact (((Keeps.refl _ w).alloc _).alloc _).alloc _
set_option maxHeartbeats 1600000 in
set_option maxRecDepth 1000000 in
theorem new0 (w : World) {p : Int} (hp : Pat p) : Calls Try.prog 14 #[.int .i64 0, .int .i64 p] w fun e w' => ∃ b, e = .returned (.tuple #[.pointer (some ⟨b, 0, none⟩), .int .i64 0]) ∧ w.heap.size ≤ b ∧ Mg w' b 0 p ∧ Keeps (fun _ => False) w w' := by
  have hr := ruleOf0 w p
  have h1 := hp.1
  have h2 := hp.2
  go_enter Try.func14, Try.ntmps14
  go_wp2_with (go_at_call 23; refine hr.mono ?_; rintro e w1 ⟨rfl, k1⟩; have := k1.size)
  go_ret2
  exact ⟨w1.heap.size, rfl, this, ⟨by omega, hp, by simp [kt]⟩, k1.alloc _⟩
set_option maxHeartbeats 1600000 in
set_option maxRecDepth 1000000 in
theorem new1 (w : World) {p : Int} (hp : Pat p) : Calls Try.prog 14 #[.int .i64 1, .int .i64 p] w fun e w' => ∃ b, e = .returned (.tuple #[.pointer (some ⟨b, 0, none⟩), .int .i64 0]) ∧ w.heap.size ≤ b ∧ Mg w' b 1 p ∧ Keeps (fun _ => False) w w' := by
  have hr := ruleOf1 w p
  have h1 := hp.1
  have h2 := hp.2
  go_enter Try.func14, Try.ntmps14
  go_wp2_with (go_at_call 23; refine hr.mono ?_; rintro e w1 ⟨rfl, k1⟩; have := k1.size)
  go_ret2
  exact ⟨w1.heap.size, rfl, this, ⟨by omega, hp, by simp [kt]⟩, k1.alloc _⟩
set_option maxHeartbeats 1600000 in
set_option maxRecDepth 1000000 in
theorem new2 (w : World) {p : Int} (hp : Pat p) : Calls Try.prog 14 #[.int .i64 2, .int .i64 p] w fun e w' => ∃ b, e = .returned (.tuple #[.pointer (some ⟨b, 0, none⟩), .int .i64 0]) ∧ w.heap.size ≤ b ∧ Mg w' b 2 p ∧ Keeps (fun _ => False) w w' := by
  have hr := ruleOf2 w p
  have h1 := hp.1
  have h2 := hp.2
  go_enter Try.func14, Try.ntmps14
  go_wp2_with (go_at_call 23; refine hr.mono ?_; rintro e w1 ⟨rfl, k1⟩; have := k1.size)
  go_ret2
  exact ⟨w1.heap.size, rfl, this, ⟨by omega, hp, by simp [kt]⟩, k1.alloc _⟩
set_option maxHeartbeats 1600000 in
set_option maxRecDepth 1000000 in
theorem new3 (w : World) {p : Int} (hp : Pat p) : Calls Try.prog 14 #[.int .i64 3, .int .i64 p] w fun e w' => ∃ b, e = .returned (.tuple #[.pointer (some ⟨b, 0, none⟩), .int .i64 0]) ∧ w.heap.size ≤ b ∧ Mg w' b 3 p ∧ Keeps (fun _ => False) w w' := by
  have hr := ruleOf3 w p
  have h1 := hp.1
  have h2 := hp.2
  go_enter Try.func14, Try.ntmps14
  go_wp2_with (go_at_call 23; refine hr.mono ?_; rintro e w1 ⟨rfl, k1⟩; have := k1.size)
  go_ret2
  exact ⟨w1.heap.size, rfl, this, ⟨by omega, hp, by simp [kt]⟩, k1.alloc _⟩
set_option maxHeartbeats 1600000 in
set_option maxRecDepth 1000000 in
theorem new4 (w : World) {p : Int} (hp : Pat p) : Calls Try.prog 14 #[.int .i64 4, .int .i64 p] w fun e w' => ∃ b, e = .returned (.tuple #[.pointer (some ⟨b, 0, none⟩), .int .i64 0]) ∧ w.heap.size ≤ b ∧ Mg w' b 4 p ∧ Keeps (fun _ => False) w w' := by
  have hr := ruleOf4 w p
  have h1 := hp.1
  have h2 := hp.2
  go_enter Try.func14, Try.ntmps14
  go_wp2_with (go_at_call 23; refine hr.mono ?_; rintro e w1 ⟨rfl, k1⟩; have := k1.size)
  go_ret2
  exact ⟨w1.heap.size, rfl, this, ⟨by omega, hp, by simp [kt]⟩, k1.alloc _⟩
set_option maxHeartbeats 1600000 in
set_option maxRecDepth 1000000 in
theorem new_no1 (w : World) {k p : Int} (hk : k < 0 ∨ 5 ≤ k) : Calls Try.prog 14 #[.int .i64 k, .int .i64 p] w fun e w' => e = .returned (.tuple #[.pointer none, .int .i64 60]) ∧ w' = w := by
  rcases hk with h | h
  · go_enter Try.func14, Try.ntmps14
    go_wp2
    go_ret2
    exact ⟨rfl, rfl⟩
  · have h' : ¬ k < 0 := by omega
    go_enter Try.func14, Try.ntmps14
    go_wp2
    go_ret2
    exact ⟨rfl, rfl⟩
theorem new_no2 (w : World) {k p : Int} (hk0 : 0 ≤ k) (hk5 : k < 5) (hp : p < 1 ∨ 4096 < p) : Calls Try.prog 14 #[.int .i64 k, .int .i64 p] w fun e w' => e = .returned (.tuple #[.pointer none, .int .i64 61]) ∧ w' = w := by
  have g1 : ¬ k < 0 := by omega
  have g2 : ¬ 5 ≤ k := by omega
  rcases hp with h | h
  · go_enter Try.func14, Try.ntmps14
    go_wp2
    go_ret2
    exact ⟨rfl, rfl⟩
  · have h' : ¬ p < 1 := by omega
    go_enter Try.func14, Try.ntmps14
    go_wp2
    go_ret2
    exact ⟨rfl, rfl⟩
set_option maxHeartbeats 1600000 in
set_option maxRecDepth 1000000 in
theorem new_any (w : World) {k : Nat} {p : Int} (hk : k < 5) (hp : Pat p) : Calls Try.prog 14 #[.int .i64 (k : Int), .int .i64 p] w fun e w' => ∃ b, e = .returned (.tuple #[.pointer (some ⟨b, 0, none⟩), .int .i64 0]) ∧ w.heap.size ≤ b ∧ Mg w' b k p ∧ Keeps (fun _ => False) w w' := by
  match k, hk with
  | 0, _ => exact new0 w hp
  | 1, _ => exact new1 w hp
  | 2, _ => exact new2 w hp
  | 3, _ => exact new3 w hp
  | 4, _ => exact new4 w hp
theorem num_any (w : World) (n : Int) : Calls Try.prog 15 #[.int .i64 n] w fun e w' => e = .returned (.int .i64 n) ∧ w' = w := by
  go_enter Try.func15, Try.ntmps15
  go_wp2
  go_ret
  exact ⟨rfl, rfl⟩
set_option maxHeartbeats 1600000 in
theorem manager_any (w : World) {k : Nat} {p : Int} (hk : k < 5) (hp : Pat p) : Calls Try.prog 8 #[.int .i64 (k : Int), .int .i64 p] w fun e w' => ∃ b, e = .returned (.pointer (some ⟨b, 0, none⟩)) ∧ w.heap.size ≤ b ∧ Mg w' b k p ∧ Keeps (fun _ => False) w w' := by
  have hn := new_any w hk hp
  clear hk hp
  go_enter Try.func8, Try.ntmps8
  go_wp2_with (first | (go_at_call 14; refine hn.mono ?_; rintro e w1 ⟨b, rfl, hb, hm, k1⟩) | (go_at_call 15; refine (num_any _ _).mono ?_; rintro e w2 ⟨rfl, rfl⟩))
  go_ret
  exact ⟨b, rfl, hb, hm, k1⟩
/-- The longest wait of a kind. -/
def lng (k : Nat) : Int := match k with | 0 => 128 | 1 => 4 | 2 => 128 | 3 => 4 | _ => 16
theorem longest_any (w : World) {k : Nat} (hk : k < 5) : Calls Try.prog 18 #[.int .i64 (k : Int)] w fun e w' => e = .returned (.int .i64 (lng k)) ∧ w' = w := by
  match k, hk with
  | 0, _ | 1, _ | 2, _ | 3, _ | 4, _ =>
    go_enter Try.func18, Try.ntmps18
    go_wp2
    go_ret
    exact ⟨rfl, rfl⟩
end Go.Proofs.Ytmcchconnfoffab
