import Derived.Test.YtmcchconnfoffabCmC
namespace Go.Proofs.Ytmcchconnfoffab
open Go.RowKit
theorem kindOf0 (w : World) (p : Int) : Calls Try.prog 46 #[.agg #[.int .i64 p]] w fun e w' => e = .returned (.int .i64 0) ∧ Keeps (fun _ => False) w w' := by
  go_enter Try.func46, Try.ntmps46
  go_wp2
  go_ret
  exact ⟨rfl, by first | exact (Keeps.refl _ w).alloc _ | exact Keeps.refl _ w⟩
set_option maxHeartbeats 1600000 in
set_option maxRecDepth 1000000 in
theorem kind0 {w : World} {mb : Nat} {p : Int} (hm : w.cell? ⟨mb, 0, none⟩ = some (.iface 65 (.agg #[.int .i64 p]))) :
    Calls Try.prog 9 #[.pointer (some ⟨mb, 0, none⟩)] w fun e w' => e = .returned (.int .i64 0) ∧ Keeps (fun _ => False) w w' := by
  have hi := isNone_no hm
  have hme : ∀ w : World, (method 195 65 (.agg #[.int .i64 p]) "braid/cm.kind").run Try.prog w = .ok (46, .agg #[.int .i64 p]) w := fun _ => by kernel_rfl
  go_enter Try.func9, Try.ntmps9
  go_wp2_with (first | (go_at_call 16; refine hi.mono ?_; rintro e w1 ⟨rfl, rfl⟩) | (go_at_call 46; refine (kindOf0 _ _).mono ?_; rintro e w2 ⟨rfl, k2⟩))
  go_ret
  exact ⟨rfl, k2⟩
theorem kindOf1 (w : World) (p : Int) : Calls Try.prog 52 #[.agg #[.int .i64 p]] w fun e w' => e = .returned (.int .i64 1) ∧ Keeps (fun _ => False) w w' := by
  go_enter Try.func52, Try.ntmps52
  go_wp2
  go_ret
  exact ⟨rfl, by first | exact (Keeps.refl _ w).alloc _ | exact Keeps.refl _ w⟩
set_option maxHeartbeats 1600000 in
set_option maxRecDepth 1000000 in
theorem kind1 {w : World} {mb : Nat} {p : Int} (hm : w.cell? ⟨mb, 0, none⟩ = some (.iface 66 (.agg #[.int .i64 p]))) :
    Calls Try.prog 9 #[.pointer (some ⟨mb, 0, none⟩)] w fun e w' => e = .returned (.int .i64 1) ∧ Keeps (fun _ => False) w w' := by
  have hi := isNone_no hm
  have hme : ∀ w : World, (method 195 66 (.agg #[.int .i64 p]) "braid/cm.kind").run Try.prog w = .ok (52, .agg #[.int .i64 p]) w := fun _ => by kernel_rfl
  go_enter Try.func9, Try.ntmps9
  go_wp2_with (first | (go_at_call 16; refine hi.mono ?_; rintro e w1 ⟨rfl, rfl⟩) | (go_at_call 52; refine (kindOf1 _ _).mono ?_; rintro e w2 ⟨rfl, k2⟩))
  go_ret
  exact ⟨rfl, k2⟩
theorem kindOf2 (w : World) (p : Int) : Calls Try.prog 56 #[.agg #[.int .i64 p]] w fun e w' => e = .returned (.int .i64 2) ∧ Keeps (fun _ => False) w w' := by
  go_enter Try.func56, Try.ntmps56
  go_wp2
  go_ret
  exact ⟨rfl, by first | exact (Keeps.refl _ w).alloc _ | exact Keeps.refl _ w⟩
set_option maxHeartbeats 1600000 in
set_option maxRecDepth 1000000 in
theorem kind2 {w : World} {mb : Nat} {p : Int} (hm : w.cell? ⟨mb, 0, none⟩ = some (.iface 67 (.agg #[.int .i64 p]))) :
    Calls Try.prog 9 #[.pointer (some ⟨mb, 0, none⟩)] w fun e w' => e = .returned (.int .i64 2) ∧ Keeps (fun _ => False) w w' := by
  have hi := isNone_no hm
  have hme : ∀ w : World, (method 195 67 (.agg #[.int .i64 p]) "braid/cm.kind").run Try.prog w = .ok (56, .agg #[.int .i64 p]) w := fun _ => by kernel_rfl
  go_enter Try.func9, Try.ntmps9
  go_wp2_with (first | (go_at_call 16; refine hi.mono ?_; rintro e w1 ⟨rfl, rfl⟩) | (go_at_call 56; refine (kindOf2 _ _).mono ?_; rintro e w2 ⟨rfl, k2⟩))
  go_ret
  exact ⟨rfl, k2⟩
theorem kindOf3 (w : World) (p : Int) : Calls Try.prog 58 #[.agg #[.int .i64 p]] w fun e w' => e = .returned (.int .i64 3) ∧ Keeps (fun _ => False) w w' := by
  go_enter Try.func58, Try.ntmps58
  go_wp2
  go_ret
  exact ⟨rfl, by first | exact (Keeps.refl _ w).alloc _ | exact Keeps.refl _ w⟩
set_option maxHeartbeats 1600000 in
set_option maxRecDepth 1000000 in
theorem kind3 {w : World} {mb : Nat} {p : Int} (hm : w.cell? ⟨mb, 0, none⟩ = some (.iface 68 (.agg #[.int .i64 p]))) :
    Calls Try.prog 9 #[.pointer (some ⟨mb, 0, none⟩)] w fun e w' => e = .returned (.int .i64 3) ∧ Keeps (fun _ => False) w w' := by
  have hi := isNone_no hm
  have hme : ∀ w : World, (method 195 68 (.agg #[.int .i64 p]) "braid/cm.kind").run Try.prog w = .ok (58, .agg #[.int .i64 p]) w := fun _ => by kernel_rfl
  go_enter Try.func9, Try.ntmps9
  go_wp2_with (first | (go_at_call 16; refine hi.mono ?_; rintro e w1 ⟨rfl, rfl⟩) | (go_at_call 58; refine (kindOf3 _ _).mono ?_; rintro e w2 ⟨rfl, k2⟩))
  go_ret
  exact ⟨rfl, k2⟩
theorem kindOf4 (w : World) (p : Int) : Calls Try.prog 60 #[.agg #[.int .i64 p]] w fun e w' => e = .returned (.int .i64 4) ∧ Keeps (fun _ => False) w w' := by
  go_enter Try.func60, Try.ntmps60
  go_wp2
  go_ret
  exact ⟨rfl, by first | exact (Keeps.refl _ w).alloc _ | exact Keeps.refl _ w⟩
set_option maxHeartbeats 1600000 in
set_option maxRecDepth 1000000 in
theorem kind4 {w : World} {mb : Nat} {p : Int} (hm : w.cell? ⟨mb, 0, none⟩ = some (.iface 70 (.agg #[.int .i64 p]))) :
    Calls Try.prog 9 #[.pointer (some ⟨mb, 0, none⟩)] w fun e w' => e = .returned (.int .i64 4) ∧ Keeps (fun _ => False) w w' := by
  have hi := isNone_no hm
  have hme : ∀ w : World, (method 195 70 (.agg #[.int .i64 p]) "braid/cm.kind").run Try.prog w = .ok (60, .agg #[.int .i64 p]) w := fun _ => by kernel_rfl
  go_enter Try.func9, Try.ntmps9
  go_wp2_with (first | (go_at_call 16; refine hi.mono ?_; rintro e w1 ⟨rfl, rfl⟩) | (go_at_call 60; refine (kindOf4 _ _).mono ?_; rintro e w2 ⟨rfl, k2⟩))
  go_ret
  exact ⟨rfl, k2⟩
theorem kind_any {w : World} {mb k : Nat} {p : Int} (h : Mg w mb k p) : Calls Try.prog 9 #[.pointer (some ⟨mb, 0, none⟩)] w fun e w' => e = .returned (.int .i64 (k : Int)) ∧ Keeps (fun _ => False) w w' := by
  obtain ⟨hk, _, hm⟩ := h
  match k, hk with
  | 0, _ => exact kind0 hm
  | 1, _ => exact kind1 hm
  | 2, _ => exact kind2 hm
  | 3, _ => exact kind3 hm
  | 4, _ => exact kind4 hm
end Go.Proofs.Ytmcchconnfoffab
