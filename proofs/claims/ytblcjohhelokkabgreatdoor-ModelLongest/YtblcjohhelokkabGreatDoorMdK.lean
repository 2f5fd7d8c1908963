import Derived.Test.YtblcjohhelokkabGreatDoorMdJ
namespace Go.Proofs.YtblcjohhelokkabGreatDoor
open Go.RowKit
attribute [local go_sem] Oper.semAt_some run_store_nf run_store_f
theorem num11 (w : World) (n : Int) : Calls Tryz.prog 7 #[.int .i64 n] w fun e w' => e = .returned (.int .i64 n) ∧ w' = w := by
  go_enter Tryz.func7, Tryz.ntmps7
  go_wp2
  go_ret
  exact ⟨rfl, rfl⟩
set_option maxHeartbeats 800000 in
set_option maxRecDepth 1000000 in
theorem sameNums_ok {w : World} {a b : Option Addr} {xs : List Int} (ca cb : Nat) (ha : NUM w a xs) (hb : NUM w b xs) (hn : xs.length ≤ 4611686018427387904) : Calls Tryz.prog 16 #[.slice a xs.length ca, .slice b xs.length cb] w fun e w' => e = .returned (.bool true) ∧ Keeps (fun _ => False) w w' := by
  have hnn : ((xs.length : Int) != (xs.length : Int)) = false := by simp
  generalize hN : xs.length = N at *
  go_enter Tryz.func16, Tryz.ntmps16
  go_wp2
  go_loopw [5] (fun iv Wr => ∃ k : Nat, iv = .int .i64 (k : Int) ∧ k ≤ N ∧ Keeps (fun _ => False) w Wr) (fun iv _ => N - (intOf iv).toNat)
  case atStart => exact ⟨0, rfl, Nat.zero_le _, Keeps.refl _ w⟩
  case round =>
    obtain ⟨k, rfl, hk, kr⟩ := hrel
    by_cases hlt : k < N
    · have hltI : decide ((k : Int) < (N : Int)) = true := by simp; omega
      have hltJ : (k : Int) < (N : Int) := by omega
      have hk0 : (0 : Int) ≤ (k : Int) := by omega
      have hw1 : IntKind.i64.wrap ((k : Int) + 1) = (k : Int) + 1 := by rw [IntKind.wrap_i64]; omega
      obtain ⟨ba, oa, rfl, c1⟩ := ha k _ (List.getElem?_eq_getElem (by omega))
      obtain ⟨bb, ob, rfl, c2⟩ := hb k _ (List.getElem?_eq_getElem (by omega))
      have d1 := kr.cell c1 (fun e => e)
      have d2 := kr.cell c2 (fun e => e)
      generalize xs[k]'(by omega) = x at *
      have hxx : (x != x) = false := by simp
      clear c1 c2 ha hb
      go_wp2
      go_quiet (fail)
      go_wp2
      go_roundw
      case rel => exact ⟨k + 1, by go_num, by omega, kr.drewN _⟩
      case measure => simp [intOf]; omega
    · have hltI : decide ((k : Int) < (N : Int)) = false := by simp; omega
      clear ha hb
      go_wp2
      go_ret
      exact ⟨rfl, kr⟩
set_option maxHeartbeats 800000 in
set_option maxRecDepth 1000000 in
theorem same_ok {w : World} {a b : Option Addr} {xs : List Int} (ca cb : Nat) (oc rs n : Int) (ha : NUM w a xs) (hb : NUM w b xs) (hn : xs.length ≤ 4611686018427387904) : Calls Tryz.prog 9 #[.agg #[.int .i64 oc, .int .i64 rs, .slice a xs.length ca, .int .i64 n], .agg #[.int .i64 oc, .int .i64 rs, .slice b xs.length cb, .int .i64 n]] w fun e w' => e = .returned (.bool true) ∧ Keeps (fun _ => False) w w' := by
  obtain ⟨W, hW⟩ : ∃ W, W = (w.alloc (.cells #[.int .i64 oc, .int .i64 rs, .slice a xs.length ca, .int .i64 n] 33)).alloc (.cells #[.int .i64 oc, .int .i64 rs, .slice b xs.length cb, .int .i64 n] 33) := ⟨_, rfl⟩
  have K : Keeps (fun _ => False) w W := by rw [hW]; exact ((Keeps.refl _ w).alloc _).alloc _
  have hs := sameNums_ok ca cb (ha.keep K) (hb.keep K) hn
  have HW : Hid (_ = _) := hW
  clear hW ha hb
  generalize xs.length = N at *
  go_enter Tryz.func9, Tryz.ntmps9
  go_wp2_with (go_at_call 16; rw [← HW.out]; refine hs.mono ?_; clear hs; rintro e w1 ⟨rfl, k1⟩)
  go_ret
  exact ⟨rfl, K.trans k1⟩
theorem NUM.ofCL {w : World} {b : Nat} {xs : List Int} (h : CL w b (nvs xs)) : NUM w (some ⟨b, 0, none⟩) xs := fun i x hx => ⟨b, 0, rfl, by
  rw [Nat.zero_add]
  exact h.c i _ (by unfold nvs; rw [List.getElem?_map, hx]; rfl)⟩
end Go.Proofs.YtblcjohhelokkabGreatDoor
