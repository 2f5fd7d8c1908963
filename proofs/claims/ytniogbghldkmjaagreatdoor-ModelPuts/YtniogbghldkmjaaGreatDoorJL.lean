import Derived.Test.YtniogbghldkmjaaGreatDoorJK
namespace Go.Proofs.YtniogbghldkmjaaGreatDoor
open Go.RowKit Go.Deep Go.ChangeShapes Go.WideShapes Go.ChangeAt
attribute [local go_sem] Oper.semAt_some run_store_nf run_store_f
theorem NUM.take {w : World} {a : Option Addr} {os : List Int} (h : NUM w a os) (n : Nat) : NUM w a (os.take n) := fun i x hx => by
  rw [List.getElem?_take] at hx
  split at hx
  · exact h i x hx
  · cases hx
set_option maxHeartbeats 3200000 in
set_option maxRecDepth 1000000 in
theorem puts_any {w : World} {a ao : Option Addr} {cap co : Nat} {L : List (Int × Int)} {os : List Int} (hT : PT w) (hNT : NT w) (hS : SETS w a L) (hc : L.length ≤ cap) (hO : NUM w ao os) (hco : os.length ≤ co) (hz : ao = none → co = 0) : Calls Tryz.prog 3 #[.slice a L.length cap, .slice ao os.length co] w fun e w' => e = .returned (.bool true) ∧ Below w.heap.size w w' := by
  have hH := head11 hT hNT
  have hLT0 := hT.lt
  clear hT hNT
  obtain ⟨K, hLl⟩ : ∃ K, L.length = K := ⟨_, rfl⟩
  obtain ⟨N, hol⟩ : ∃ N, os.length = N := ⟨_, rfl⟩
  rw [hLl] at hc ⊢
  rw [hol] at hco ⊢
  by_cases hK : K ≤ 64
  · have b1 : decide ((64 : Int) < (K : Int)) = false := decide_eq_false (by omega)
    have b2 : decide (64 < K) = false := decide_eq_false (by omega)
    by_cases hN : N ≤ 16
    · have b3 : decide ((16 : Int) < (N : Int)) = false := decide_eq_false (by omega)
      have b4 : decide (16 < N) = false := decide_eq_false (by omega)
      go_enter Tryz.func3, Tryz.ntmps3
      refine wp_seq_k (fun KK hKK => ?_)
      have hKH : Hid _ := hKK
      clear hKK
      go_wp2_with fail
      refine hKH.out _ _ ?_
      clear hKH KK
      refine wp_seq_k (fun KK hKK => ?_)
      have hKH : Hid _ := hKK
      clear hKK
      go_wp2_with (go_at_call 5; refine hH.mono ?_; clear hH; rintro e w1 ⟨rfl, k1⟩)
      refine hKH.out _ _ ?_
      clear hKH KK
      refine wp_seq_k (fun KK hKK => ?_)
      have hKH : Hid _ := hKK
      clear hKK
      go_wp2_with fail
      refine hKH.out _ _ ?_
      clear hKH KK
      refine wp_seq_k (fun KK hKK => ?_)
      have hKH : Hid _ := hKK
      clear hKK
      go_wp2_with fail
      refine hKH.out _ _ ?_
      clear hKH KK
      exact puts_tail (hLT0.keep k1) (hS.keep k1) hLl (by omega) (hO.keep k1) hol (by omega) (fun e => by exact hz e) (fun w' kw => ⟨rfl, (k1.trans kw).below (Nat.le_refl _) (fun _ _ e => e)⟩)
    · have b3 : decide ((16 : Int) < (N : Int)) = true := decide_eq_true (by omega)
      have b4 : decide (16 < N) = true := decide_eq_true (by omega)
      have b5 : 16 ≤ co := by omega
      obtain ⟨x0, hx0⟩ : ∃ x, os[0]? = some x := ⟨_, List.getElem?_eq_getElem (by omega)⟩
      obtain ⟨bo, oo, rfl, _⟩ := hO 0 _ hx0
      go_enter Tryz.func3, Tryz.ntmps3
      refine wp_seq_k (fun KK hKK => ?_)
      have hKH : Hid _ := hKK
      clear hKK
      go_wp2_with fail
      refine hKH.out _ _ ?_
      clear hKH KK
      refine wp_seq_k (fun KK hKK => ?_)
      have hKH : Hid _ := hKK
      clear hKK
      go_wp2_with (go_at_call 5; refine hH.mono ?_; clear hH; rintro e w1 ⟨rfl, k1⟩)
      refine hKH.out _ _ ?_
      clear hKH KK
      refine wp_seq_k (fun KK hKK => ?_)
      have hKH : Hid _ := hKK
      clear hKK
      go_wp2_with fail
      refine hKH.out _ _ ?_
      clear hKH KK
      refine wp_seq_k (fun KK hKK => ?_)
      have hKH : Hid _ := hKK
      clear hKK
      go_wp2_with fail
      refine hKH.out _ _ ?_
      clear hKH KK
      exact puts_tail (hLT0.keep k1) (hS.keep k1) hLl (by omega) ((NUM.take hO 16).keep k1) (by rw [List.length_take]; omega) (by omega) (fun e => by cases e) (fun w' kw => ⟨rfl, (k1.trans kw).below (Nat.le_refl _) (fun _ _ e => e)⟩)
  · have b1 : decide ((64 : Int) < (K : Int)) = true := decide_eq_true (by omega)
    have b2 : decide (64 < K) = true := decide_eq_true (by omega)
    have b0 : 64 ≤ cap := by omega
    obtain ⟨y0, hy0⟩ : ∃ x, L[0]? = some x := ⟨_, List.getElem?_eq_getElem (by omega)⟩
    obtain ⟨ba, oa, rfl, _⟩ := hS 0 _ hy0
    by_cases hN : N ≤ 16
    · have b3 : decide ((16 : Int) < (N : Int)) = false := decide_eq_false (by omega)
      have b4 : decide (16 < N) = false := decide_eq_false (by omega)
      go_enter Tryz.func3, Tryz.ntmps3
      refine wp_seq_k (fun KK hKK => ?_)
      have hKH : Hid _ := hKK
      clear hKK
      go_wp2_with fail
      refine hKH.out _ _ ?_
      clear hKH KK
      refine wp_seq_k (fun KK hKK => ?_)
      have hKH : Hid _ := hKK
      clear hKK
      go_wp2_with (go_at_call 5; refine hH.mono ?_; clear hH; rintro e w1 ⟨rfl, k1⟩)
      refine hKH.out _ _ ?_
      clear hKH KK
      refine wp_seq_k (fun KK hKK => ?_)
      have hKH : Hid _ := hKK
      clear hKK
      go_wp2_with fail
      refine hKH.out _ _ ?_
      clear hKH KK
      refine wp_seq_k (fun KK hKK => ?_)
      have hKH : Hid _ := hKK
      clear hKK
      go_wp2_with fail
      refine hKH.out _ _ ?_
      clear hKH KK
      exact puts_tail (hLT0.keep k1) ((SETS.take hS 64).keep k1) (by rw [List.length_take]; omega) (by omega) (hO.keep k1) hol (by omega) (fun e => by exact hz e) (fun w' kw => ⟨rfl, (k1.trans kw).below (Nat.le_refl _) (fun _ _ e => e)⟩)
    · have b3 : decide ((16 : Int) < (N : Int)) = true := decide_eq_true (by omega)
      have b4 : decide (16 < N) = true := decide_eq_true (by omega)
      have b5 : 16 ≤ co := by omega
      obtain ⟨x0, hx0⟩ : ∃ x, os[0]? = some x := ⟨_, List.getElem?_eq_getElem (by omega)⟩
      obtain ⟨bo, oo, rfl, _⟩ := hO 0 _ hx0
      go_enter Tryz.func3, Tryz.ntmps3
      refine wp_seq_k (fun KK hKK => ?_)
      have hKH : Hid _ := hKK
      clear hKK
      go_wp2_with fail
      refine hKH.out _ _ ?_
      clear hKH KK
      refine wp_seq_k (fun KK hKK => ?_)
      have hKH : Hid _ := hKK
      clear hKK
      go_wp2_with (go_at_call 5; refine hH.mono ?_; clear hH; rintro e w1 ⟨rfl, k1⟩)
      refine hKH.out _ _ ?_
      clear hKH KK
      refine wp_seq_k (fun KK hKK => ?_)
      have hKH : Hid _ := hKK
      clear hKK
      go_wp2_with fail
      refine hKH.out _ _ ?_
      clear hKH KK
      refine wp_seq_k (fun KK hKK => ?_)
      have hKH : Hid _ := hKK
      clear hKK
      go_wp2_with fail
      refine hKH.out _ _ ?_
      clear hKH KK
      exact puts_tail (hLT0.keep k1) ((SETS.take hS 64).keep k1) (by rw [List.length_take]; omega) (by omega) ((NUM.take hO 16).keep k1) (by rw [List.length_take]; omega) (by omega) (fun e => by cases e) (fun w' kw => ⟨rfl, (k1.trans kw).below (Nat.le_refl _) (fun _ _ e => e)⟩)
end Go.Proofs.YtniogbghldkmjaaGreatDoor
