import Derived.Test.YtmcchconnfoffabDoorCmTrC
import Derived.Test.YtmcchconnfoffabDoorCmX
import Derived.Test.YtmcchconnfoffabDoorCmD
namespace Go.Proofs.YtmcchconnfoffabDoor
open Go.RowKit
theorem clamp_id {x : Int} (h : In64 x) : clamp (x + 0) = x := by unfold In64 at h; unfold clamp; rw [if_neg (by omega), if_neg (by omega)]; omega
/-- Two that meet. -/
theorem duel_v {K : Nat} (h1 : 1 ≤ K) (h3 : K ≤ 3) {x y : Int} (hx : In64 x) (d : Int) : ∃ va vn, judgev K 100 (Cf.norm ⟨x, y, y, x, false, 0, 0, d⟩) = ⟨va, false, vn⟩ ∧ va = decide (y < x) := by
  rw [judge_rul (by omega)]
  have e : Cf.norm ⟨x, y, y, x, false, 0, 0, d⟩ = ⟨x, y, y, x, false, 0, 0, d⟩ := by simp [Cf.norm]
  rw [e]
  have hq : rulv K ⟨x, y, y, x, false, 0, 0, d⟩ = none ↔ y < x := by
    have hc := clamp_id hx
    match K, h1, h3 with
    | 1, _, _ => by_cases h : y < x <;> simp [rulv, outr] <;> rw [Int.add_zero] at hc <;> simp_all
    | 2, _, _ => by_cases h : y < x <;> simp [rulv, outr] <;> rw [Int.add_zero] at hc <;> simp_all
    | 3, _, _ => by_cases h : y < x <;> simp [rulv, h]
  cases hr : rulv K ⟨x, y, y, x, false, 0, 0, d⟩ with
  | none => exact ⟨true, 0, rfl, by simp [hq.1 hr]⟩
  | some n =>
    have hn : ¬ y < x := fun h => by rw [hq.2 h] at hr; cases hr
    have hf := rul_form (by omega) (by simp) hr
    have h4 : K < 4 := by omega
    simp only [h4, if_true]
    rw [cut_wt (by simp)]
    exact ⟨false, _, rfl, by simp [hn]⟩
set_option maxHeartbeats 1600000 in
set_option maxRecDepth 1000000 in
theorem duelWalk (w : World) (hT : TR w) (x : Int) (hx : I64 x) (y : Int) (hy : I64 y) (d : Int) (hd : I64 d) : Calls Tryd.prog 3 #[.int .i64 x, .int .i64 y, .int .i64 d] w fun e w' => e = .returned (.bool true) ∧ Below w.heap.size w w' := by
  go_enter Tryd.func3, Tryd.ntmps3
  go_wp2_with fail
  go_loopw [7] (fun iv W => ∃ k : Nat, 1 ≤ k ∧ k ≤ 4 ∧ iv = .int .i64 (k : Int) ∧ Keeps (fun _ => False) w W) (fun iv _ => 4 - (intOf iv).toNat)
  case atStart => exact ⟨1, by omega, by omega, rfl, Keeps.refl _ w⟩
  case round =>
    obtain ⟨k, hk1, hk4, rfl, K1⟩ := hrel
    match k, hk1, hk4 with
    | 1, _, _ =>
      simp only [show ((1 : Nat) : Int) = 1 from rfl]
      have hma : ∀ W, Calls Tryd.prog 4 #[.int .i64 1, .int .i64 100] W fun e w' => ∃ b, e = .returned (.pointer (some ⟨b, 0, none⟩)) ∧ W.heap.size ≤ b ∧ Mg w' b 1 100 ∧ Keeps (fun _ => False) W w' := fun W => manager_any W (k := 1) (by omega) ⟨by omega, by omega⟩
      obtain ⟨va, vn, hV, eva⟩ := duel_v (K := 1) (by omega) (by omega) (y := y) hx d
      obtain ⟨ua, un, hU, eua⟩ := duel_v (K := 1) (by omega) (by omega) (x := y) (y := x) hy d
      have hj1 := fun W b (M : Mg W b 1 100) => judge_x M (show Cf.ok ⟨x, y, y, x, false, 0, 0, d⟩ from ⟨hx, hy, hy, hx, ⟨by simp, by simp⟩, ⟨by simp, by simp⟩, hd⟩) hV
      have hj2 := fun W b (M : Mg W b 1 100) => judge_x M (show Cf.ok ⟨y, x, x, y, false, 0, 0, d⟩ from ⟨hy, hx, hx, hy, ⟨by simp, by simp⟩, ⟨by simp, by simp⟩, hd⟩) hU
      have EV : Hid (va = decide (y < x) ∧ ua = decide (x < y)) := ⟨eva, eua⟩
      clear hV hU eva eua
      go_wp2_with fail
      refine (hma _).mono ?_
      clear hma
      rintro e w2 ⟨b, rfl, hb, M2, k2⟩
      have K2 := K1.trans k2
      have hlo : Calls Tryd.prog 5 #[.pointer (some ⟨b, 0, none⟩)] w2 fun e w' => e = .returned (.int .i64 1) ∧ Keeps (fun _ => False) w2 w' := mLook M2 (hT.keep K2)
      clear k2 K1 hb
      go_wp2_with fail
      refine hlo.mono ?_
      clear hlo
      rintro e w3 ⟨rfl, k3⟩
      have M3 := M2.keep k3
      have K3 := K2.trans k3
      clear M2 K2 k3
      go_wp2_with fail
      refine (hj1 _ b M3).mono ?_
      clear hj1
      rintro e w4 ⟨rfl, k4⟩
      have M4 := M3.keep k4
      have K4 := K3.trans k4
      clear M3 K3 k4
      go_wp2_with fail
      refine (hj2 _ b (M4.keep ((Keeps.refl _ w4).alloc _))).mono ?_
      clear hj2
      rintro e w6 ⟨rfl, k6⟩
      have V6 := (VB.mk w4 ⟨va, false, vn⟩).keep k6
      have K6 := (K4.alloc (.cells #[.bool va, .bool false, .int .i64 vn] 26)).trans k6
      have v0 := fun ob => (V6.keep ((Keeps.refl _ w6).alloc ob)).1
      have v1 := fun ob => (V6.keep ((Keeps.refl _ w6).alloc ob)).2.1
      simp only at v0 v1
      clear k6 V6 M4 K4
      obtain ⟨ev, eu⟩ := EV.out
      clear EV
      rcases Int.lt_trichotomy x y with h | h | h
      · have h' : ¬ y < x := by omega
        obtain rfl : va = false := by rw [ev]; simpa using h'
        obtain rfl : ua = true := by rw [eu]; simpa using h
        clear ev eu
        go_wp2_with fail
        go_roundw
        case rel => exact ⟨1 + 1, by omega, by omega, by go_num, K6.alloc _⟩
        case measure => simp [intOf]
      · have h' : ¬ y < x := by omega
        have h2' : ¬ x < y := by omega
        obtain rfl : va = false := by rw [ev]; simpa using h'
        obtain rfl : ua = false := by rw [eu]; simpa using h2'
        clear ev eu h
        go_wp2_with fail
        go_roundw
        case rel => exact ⟨1 + 1, by omega, by omega, by go_num, K6.alloc _⟩
        case measure => simp [intOf]
      · have h' : ¬ x < y := by omega
        obtain rfl : va = true := by rw [ev]; simpa using h
        obtain rfl : ua = false := by rw [eu]; simpa using h'
        clear ev eu
        go_wp2_with fail
        go_roundw
        case rel => exact ⟨1 + 1, by omega, by omega, by go_num, K6.alloc _⟩
        case measure => simp [intOf]
    | 2, _, _ =>
      simp only [show ((2 : Nat) : Int) = 2 from rfl]
      have hma : ∀ W, Calls Tryd.prog 4 #[.int .i64 2, .int .i64 100] W fun e w' => ∃ b, e = .returned (.pointer (some ⟨b, 0, none⟩)) ∧ W.heap.size ≤ b ∧ Mg w' b 2 100 ∧ Keeps (fun _ => False) W w' := fun W => manager_any W (k := 2) (by omega) ⟨by omega, by omega⟩
      obtain ⟨va, vn, hV, eva⟩ := duel_v (K := 2) (by omega) (by omega) (y := y) hx d
      obtain ⟨ua, un, hU, eua⟩ := duel_v (K := 2) (by omega) (by omega) (x := y) (y := x) hy d
      have hj1 := fun W b (M : Mg W b 2 100) => judge_x M (show Cf.ok ⟨x, y, y, x, false, 0, 0, d⟩ from ⟨hx, hy, hy, hx, ⟨by simp, by simp⟩, ⟨by simp, by simp⟩, hd⟩) hV
      have hj2 := fun W b (M : Mg W b 2 100) => judge_x M (show Cf.ok ⟨y, x, x, y, false, 0, 0, d⟩ from ⟨hy, hx, hx, hy, ⟨by simp, by simp⟩, ⟨by simp, by simp⟩, hd⟩) hU
      have EV : Hid (va = decide (y < x) ∧ ua = decide (x < y)) := ⟨eva, eua⟩
      clear hV hU eva eua
      go_wp2_with fail
      refine (hma _).mono ?_
      clear hma
      rintro e w2 ⟨b, rfl, hb, M2, k2⟩
      have K2 := K1.trans k2
      have hlo : Calls Tryd.prog 5 #[.pointer (some ⟨b, 0, none⟩)] w2 fun e w' => e = .returned (.int .i64 1) ∧ Keeps (fun _ => False) w2 w' := mLook M2 (hT.keep K2)
      clear k2 K1 hb
      go_wp2_with fail
      refine hlo.mono ?_
      clear hlo
      rintro e w3 ⟨rfl, k3⟩
      have M3 := M2.keep k3
      have K3 := K2.trans k3
      clear M2 K2 k3
      go_wp2_with fail
      refine (hj1 _ b M3).mono ?_
      clear hj1
      rintro e w4 ⟨rfl, k4⟩
      have M4 := M3.keep k4
      have K4 := K3.trans k4
      clear M3 K3 k4
      go_wp2_with fail
      refine (hj2 _ b (M4.keep ((Keeps.refl _ w4).alloc _))).mono ?_
      clear hj2
      rintro e w6 ⟨rfl, k6⟩
      have V6 := (VB.mk w4 ⟨va, false, vn⟩).keep k6
      have K6 := (K4.alloc (.cells #[.bool va, .bool false, .int .i64 vn] 26)).trans k6
      have v0 := fun ob => (V6.keep ((Keeps.refl _ w6).alloc ob)).1
      have v1 := fun ob => (V6.keep ((Keeps.refl _ w6).alloc ob)).2.1
      simp only at v0 v1
      clear k6 V6 M4 K4
      obtain ⟨ev, eu⟩ := EV.out
      clear EV
      rcases Int.lt_trichotomy x y with h | h | h
      · have h' : ¬ y < x := by omega
        obtain rfl : va = false := by rw [ev]; simpa using h'
        obtain rfl : ua = true := by rw [eu]; simpa using h
        clear ev eu
        go_wp2_with fail
        go_roundw
        case rel => exact ⟨2 + 1, by omega, by omega, by go_num, K6.alloc _⟩
        case measure => simp [intOf]
      · have h' : ¬ y < x := by omega
        have h2' : ¬ x < y := by omega
        obtain rfl : va = false := by rw [ev]; simpa using h'
        obtain rfl : ua = false := by rw [eu]; simpa using h2'
        clear ev eu h
        go_wp2_with fail
        go_roundw
        case rel => exact ⟨2 + 1, by omega, by omega, by go_num, K6.alloc _⟩
        case measure => simp [intOf]
      · have h' : ¬ x < y := by omega
        obtain rfl : va = true := by rw [ev]; simpa using h
        obtain rfl : ua = false := by rw [eu]; simpa using h'
        clear ev eu
        go_wp2_with fail
        go_roundw
        case rel => exact ⟨2 + 1, by omega, by omega, by go_num, K6.alloc _⟩
        case measure => simp [intOf]
    | 3, _, _ =>
      simp only [show ((3 : Nat) : Int) = 3 from rfl]
      have hma : ∀ W, Calls Tryd.prog 4 #[.int .i64 3, .int .i64 100] W fun e w' => ∃ b, e = .returned (.pointer (some ⟨b, 0, none⟩)) ∧ W.heap.size ≤ b ∧ Mg w' b 3 100 ∧ Keeps (fun _ => False) W w' := fun W => manager_any W (k := 3) (by omega) ⟨by omega, by omega⟩
      obtain ⟨va, vn, hV, eva⟩ := duel_v (K := 3) (by omega) (by omega) (y := y) hx d
      obtain ⟨ua, un, hU, eua⟩ := duel_v (K := 3) (by omega) (by omega) (x := y) (y := x) hy d
      have hj1 := fun W b (M : Mg W b 3 100) => judge_x M (show Cf.ok ⟨x, y, y, x, false, 0, 0, d⟩ from ⟨hx, hy, hy, hx, ⟨by simp, by simp⟩, ⟨by simp, by simp⟩, hd⟩) hV
      have hj2 := fun W b (M : Mg W b 3 100) => judge_x M (show Cf.ok ⟨y, x, x, y, false, 0, 0, d⟩ from ⟨hy, hx, hx, hy, ⟨by simp, by simp⟩, ⟨by simp, by simp⟩, hd⟩) hU
      have EV : Hid (va = decide (y < x) ∧ ua = decide (x < y)) := ⟨eva, eua⟩
      clear hV hU eva eua
      go_wp2_with fail
      refine (hma _).mono ?_
      clear hma
      rintro e w2 ⟨b, rfl, hb, M2, k2⟩
      have K2 := K1.trans k2
      have hlo : Calls Tryd.prog 5 #[.pointer (some ⟨b, 0, none⟩)] w2 fun e w' => e = .returned (.int .i64 2) ∧ Keeps (fun _ => False) w2 w' := mLook M2 (hT.keep K2)
      clear k2 K1 hb
      go_wp2_with fail
      refine hlo.mono ?_
      clear hlo
      rintro e w3 ⟨rfl, k3⟩
      have M3 := M2.keep k3
      have K3 := K2.trans k3
      clear M2 K2 k3
      go_wp2_with fail
      refine (hj1 _ b M3).mono ?_
      clear hj1
      rintro e w4 ⟨rfl, k4⟩
      have M4 := M3.keep k4
      have K4 := K3.trans k4
      clear M3 K3 k4
      go_wp2_with fail
      refine (hj2 _ b (M4.keep ((Keeps.refl _ w4).alloc _))).mono ?_
      clear hj2
      rintro e w6 ⟨rfl, k6⟩
      have V6 := (VB.mk w4 ⟨va, false, vn⟩).keep k6
      have K6 := (K4.alloc (.cells #[.bool va, .bool false, .int .i64 vn] 26)).trans k6
      have v0 := fun ob => (V6.keep ((Keeps.refl _ w6).alloc ob)).1
      have v1 := fun ob => (V6.keep ((Keeps.refl _ w6).alloc ob)).2.1
      simp only at v0 v1
      clear k6 V6 M4 K4
      obtain ⟨ev, eu⟩ := EV.out
      clear EV
      rcases Int.lt_trichotomy x y with h | h | h
      · have h' : ¬ y < x := by omega
        obtain rfl : va = false := by rw [ev]; simpa using h'
        obtain rfl : ua = true := by rw [eu]; simpa using h
        clear ev eu
        go_wp2_with fail
        go_roundw
        case rel => exact ⟨3 + 1, by omega, by omega, by go_num, K6.alloc _⟩
        case measure => simp [intOf]
      · have h' : ¬ y < x := by omega
        have h2' : ¬ x < y := by omega
        obtain rfl : va = false := by rw [ev]; simpa using h'
        obtain rfl : ua = false := by rw [eu]; simpa using h2'
        clear ev eu h
        go_wp2_with fail
        go_roundw
        case rel => exact ⟨3 + 1, by omega, by omega, by go_num, K6.alloc _⟩
        case measure => simp [intOf]
      · have h' : ¬ x < y := by omega
        obtain rfl : va = true := by rw [ev]; simpa using h
        obtain rfl : ua = false := by rw [eu]; simpa using h'
        clear ev eu
        go_wp2_with fail
        go_roundw
        case rel => exact ⟨3 + 1, by omega, by omega, by go_num, K6.alloc _⟩
        case measure => simp [intOf]
    | 4, _, _ =>
      go_wp2_with fail
      go_ret
      exact ⟨rfl, K1.below (Nat.le_refl _) (fun _ _ e => e)⟩
end Go.Proofs.YtmcchconnfoffabDoor
