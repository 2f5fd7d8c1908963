import Derived.Test.YteomlhcllmlkpaaGreatDoorKeepSt
namespace Go.Proofs.YteomlhcllmlkpaaGreatDoor
open Go.RowKit
/-- Patience. -/
def Pat (p : Int) : Prop := 1 ≤ p ∧ p ≤ 4096
theorem isNone_no {w : World} {mb : Nat} {t : TypeId} {v : Value} (hm : w.cell? ⟨mb, 0, none⟩ = some (.iface t v)) : Calls Tryz.prog 69 #[.pointer (some ⟨mb, 0, none⟩)] w fun e w' => e = .returned (.bool false) ∧ w' = w := by
  go_enter Tryz.func69, Tryz.ntmps69
  go_wp2
  go_ret
  exact ⟨rfl, rfl⟩
/-- A manager in memory. -/
def kt (k : Nat) : TypeId := match k with | 0 => 154 | 1 => 155 | 2 => 156 | 3 => 157 | _ => 159
def Mg (w : World) (b k : Nat) (p : Int) : Prop := k < 5 ∧ Pat p ∧ w.cell? ⟨b, 0, none⟩ = some (.iface (kt k) (.agg #[.int .i64 p]))
theorem Mg.keep {w w' : World} {b k : Nat} {p : Int} (h : Mg w b k p) (K : Keeps (fun _ => False) w w') : Mg w' b k p := ⟨h.1, h.2.1, K.cell h.2.2 id⟩
set_option maxHeartbeats 1600000 in
set_option maxRecDepth 1000000 in
theorem ruleOf0 (w : World) (p : Int) : Calls Tryz.prog 43 #[.int .i64 0, .int .i64 p] w fun e w' => e = .returned (.iface 154 (.agg #[.int .i64 p])) ∧ Keeps (fun _ => False) w w' := by
  go_enter Tryz.func43, Tryz.ntmps43
  go_wp2
  go_ret
  refine ⟨rfl, ?_⟩
  first | exact (Keeps.refl _ w).alloc _ | exact ((Keeps.refl _ w).alloc _).alloc _ | exact (((Keeps.refl _ w).alloc _).alloc _).alloc _
set_option maxHeartbeats 1600000 in
set_option maxRecDepth 1000000 in
theorem ruleOf1 (w : World) (p : Int) : Calls Tryz.prog 43 #[.int .i64 1, .int .i64 p] w fun e w' => e = .returned (.iface 155 (.agg #[.int .i64 p])) ∧ Keeps (fun _ => False) w w' := by
  go_enter Tryz.func43, Tryz.ntmps43
  go_wp2
  go_ret
  refine ⟨rfl, ?_⟩
  first | exact (Keeps.refl _ w).alloc _ | exact ((Keeps.refl _ w).alloc _).alloc _ | exact (((Keeps.refl _ w).alloc _).alloc _).alloc _
set_option maxHeartbeats 1600000 in
set_option maxRecDepth 1000000 in
theorem ruleOf2 (w : World) (p : Int) : Calls Tryz.prog 43 #[.int .i64 2, .int .i64 p] w fun e w' => e = .returned (.iface 156 (.agg #[.int .i64 p])) ∧ Keeps (fun _ => False) w w' := by
  go_enter Tryz.func43, Tryz.ntmps43
  go_wp2
  go_ret
  refine ⟨rfl, ?_⟩
  first | exact (Keeps.refl _ w).alloc _ | exact ((Keeps.refl _ w).alloc _).alloc _ | exact (((Keeps.refl _ w).alloc _).alloc _).alloc _
set_option maxHeartbeats 1600000 in
set_option maxRecDepth 1000000 in
theorem ruleOf3 (w : World) (p : Int) : Calls Tryz.prog 43 #[.int .i64 3, .int .i64 p] w fun e w' => e = .returned (.iface 157 (.agg #[.int .i64 p])) ∧ Keeps (fun _ => False) w w' := by
  go_enter Tryz.func43, Tryz.ntmps43
  go_wp2
  go_ret
  refine ⟨rfl, ?_⟩
  first | exact (Keeps.refl _ w).alloc _ | exact ((Keeps.refl _ w).alloc _).alloc _ | exact (((Keeps.refl _ w).alloc _).alloc _).alloc _
set_option maxHeartbeats 1600000 in
set_option maxRecDepth 1000000 in
theorem ruleOf4 (w : World) (p : Int) : Calls Tryz.prog 43 #[.int .i64 4, .int .i64 p] w fun e w' => e = .returned (.iface 159 (.agg #[.int .i64 p])) ∧ Keeps (fun _ => False) w w' := by
  go_enter Tryz.func43, Tryz.ntmps43
  go_wp2
  go_ret
  refine ⟨rfl, ?_⟩
  first | exact (Keeps.refl _ w).alloc _ | exact ((Keeps.refl _ w).alloc _).alloc _ | exact (((Keeps.refl _ w).alloc _).alloc _).alloc _
set_option maxHeartbeats 1600000 in
set_option maxRecDepth 1000000 in
theorem new0 (w : World) {p : Int} (hp : Pat p) : Calls Tryz.prog 18 #[.int .i64 0, .int .i64 p] w fun e w' => ∃ b, e = .returned (.tuple #[.pointer (some ⟨b, 0, none⟩), .int .i64 0]) ∧ w.heap.size ≤ b ∧ Mg w' b 0 p ∧ Keeps (fun _ => False) w w' := by
  have hr := ruleOf0 w p
  have h1 := hp.1
  have h2 := hp.2
  go_enter Tryz.func18, Tryz.ntmps18
  go_wp2_with (go_at_call 43; refine hr.mono ?_; rintro e w1 ⟨rfl, k1⟩; have := k1.size)
  go_ret2
  exact ⟨w1.heap.size, rfl, this, ⟨by omega, hp, by simp [kt]⟩, k1.alloc _⟩
set_option maxHeartbeats 1600000 in
set_option maxRecDepth 1000000 in
theorem new1 (w : World) {p : Int} (hp : Pat p) : Calls Tryz.prog 18 #[.int .i64 1, .int .i64 p] w fun e w' => ∃ b, e = .returned (.tuple #[.pointer (some ⟨b, 0, none⟩), .int .i64 0]) ∧ w.heap.size ≤ b ∧ Mg w' b 1 p ∧ Keeps (fun _ => False) w w' := by
  have hr := ruleOf1 w p
  have h1 := hp.1
  have h2 := hp.2
  go_enter Tryz.func18, Tryz.ntmps18
  go_wp2_with (go_at_call 43; refine hr.mono ?_; rintro e w1 ⟨rfl, k1⟩; have := k1.size)
  go_ret2
  exact ⟨w1.heap.size, rfl, this, ⟨by omega, hp, by simp [kt]⟩, k1.alloc _⟩
set_option maxHeartbeats 1600000 in
set_option maxRecDepth 1000000 in
theorem new2 (w : World) {p : Int} (hp : Pat p) : Calls Tryz.prog 18 #[.int .i64 2, .int .i64 p] w fun e w' => ∃ b, e = .returned (.tuple #[.pointer (some ⟨b, 0, none⟩), .int .i64 0]) ∧ w.heap.size ≤ b ∧ Mg w' b 2 p ∧ Keeps (fun _ => False) w w' := by
  have hr := ruleOf2 w p
  have h1 := hp.1
  have h2 := hp.2
  go_enter Tryz.func18, Tryz.ntmps18
  go_wp2_with (go_at_call 43; refine hr.mono ?_; rintro e w1 ⟨rfl, k1⟩; have := k1.size)
  go_ret2
  exact ⟨w1.heap.size, rfl, this, ⟨by omega, hp, by simp [kt]⟩, k1.alloc _⟩
set_option maxHeartbeats 1600000 in
set_option maxRecDepth 1000000 in
theorem new3 (w : World) {p : Int} (hp : Pat p) : Calls Tryz.prog 18 #[.int .i64 3, .int .i64 p] w fun e w' => ∃ b, e = .returned (.tuple #[.pointer (some ⟨b, 0, none⟩), .int .i64 0]) ∧ w.heap.size ≤ b ∧ Mg w' b 3 p ∧ Keeps (fun _ => False) w w' := by
  have hr := ruleOf3 w p
  have h1 := hp.1
  have h2 := hp.2
  go_enter Tryz.func18, Tryz.ntmps18
  go_wp2_with (go_at_call 43; refine hr.mono ?_; rintro e w1 ⟨rfl, k1⟩; have := k1.size)
  go_ret2
  exact ⟨w1.heap.size, rfl, this, ⟨by omega, hp, by simp [kt]⟩, k1.alloc _⟩
set_option maxHeartbeats 1600000 in
set_option maxRecDepth 1000000 in
theorem new4 (w : World) {p : Int} (hp : Pat p) : Calls Tryz.prog 18 #[.int .i64 4, .int .i64 p] w fun e w' => ∃ b, e = .returned (.tuple #[.pointer (some ⟨b, 0, none⟩), .int .i64 0]) ∧ w.heap.size ≤ b ∧ Mg w' b 4 p ∧ Keeps (fun _ => False) w w' := by
  have hr := ruleOf4 w p
  have h1 := hp.1
  have h2 := hp.2
  go_enter Tryz.func18, Tryz.ntmps18
  go_wp2_with (go_at_call 43; refine hr.mono ?_; rintro e w1 ⟨rfl, k1⟩; have := k1.size)
  go_ret2
  exact ⟨w1.heap.size, rfl, this, ⟨by omega, hp, by simp [kt]⟩, k1.alloc _⟩
set_option maxHeartbeats 1600000 in
set_option maxRecDepth 1000000 in
theorem new_no1 (w : World) {k p : Int} (hk : k < 0 ∨ 5 ≤ k) : Calls Tryz.prog 18 #[.int .i64 k, .int .i64 p] w fun e w' => e = .returned (.tuple #[.pointer none, .int .i64 60]) ∧ w' = w := by
  rcases hk with h | h
  · go_enter Tryz.func18, Tryz.ntmps18
    go_wp2
    go_ret2
    exact ⟨rfl, rfl⟩
  · have h' : ¬ k < 0 := by omega
    go_enter Tryz.func18, Tryz.ntmps18
    go_wp2
    go_ret2
    exact ⟨rfl, rfl⟩
theorem new_no2 (w : World) {k p : Int} (hk0 : 0 ≤ k) (hk5 : k < 5) (hp : p < 1 ∨ 4096 < p) : Calls Tryz.prog 18 #[.int .i64 k, .int .i64 p] w fun e w' => e = .returned (.tuple #[.pointer none, .int .i64 61]) ∧ w' = w := by
  have g1 : ¬ k < 0 := by omega
  have g2 : ¬ 5 ≤ k := by omega
  rcases hp with h | h
  · go_enter Tryz.func18, Tryz.ntmps18
    go_wp2
    go_ret2
    exact ⟨rfl, rfl⟩
  · have h' : ¬ p < 1 := by omega
    go_enter Tryz.func18, Tryz.ntmps18
    go_wp2
    go_ret2
    exact ⟨rfl, rfl⟩
set_option maxHeartbeats 1600000 in
set_option maxRecDepth 1000000 in
theorem mgr_new (w : World) {k : Nat} {p : Int} (hk : k < 5) (hp : Pat p) : Calls Tryz.prog 18 #[.int .i64 (k : Int), .int .i64 p] w fun e w' => ∃ b, e = .returned (.tuple #[.pointer (some ⟨b, 0, none⟩), .int .i64 0]) ∧ w.heap.size ≤ b ∧ Mg w' b k p ∧ Keeps (fun _ => False) w w' := by
  match k, hk with
  | 0, _ => exact new0 w hp
  | 1, _ => exact new1 w hp
  | 2, _ => exact new2 w hp
  | 3, _ => exact new3 w hp
  | 4, _ => exact new4 w hp
end Go.Proofs.YteomlhcllmlkpaaGreatDoor
