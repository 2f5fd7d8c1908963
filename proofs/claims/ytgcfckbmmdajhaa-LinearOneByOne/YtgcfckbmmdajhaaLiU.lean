import Derived.Test.YtgcfckbmmdajhaaLiT
import Derived.Great.BuildSlice
import Derived.Great.FillDense
namespace Go.Proofs.Ytgcfckbmmdajhaa
open Go.RowKit
theorem num_any (x : Int) (w : World) : Calls Try.prog 9 #[.int .i64 x] w fun e w' => e = .returned (.int .i64 x) ∧ w' = w := by
  go_enter Try.func9, Try.ntmps9
  go_wp2
  go_ret
  exact ⟨rfl, rfl⟩
def iOf (L : List Nat) : List Int := L.map (fun i : Nat => (i : Int))
theorem PM.kl {w : World} {a : Option Addr} {L : List Nat} (h : PM w a L) : KL w a (iOf L) := fun i hi => by
  unfold iOf at hi
  rw [List.length_map] at hi
  obtain ⟨b, off, e, hc⟩ := h i hi
  refine ⟨b, off, e, ?_⟩
  rw [hc]
  unfold iOf
  rw [List.getD_eq_getElem?_getD, List.getD_eq_getElem?_getD, List.getElem?_map, List.getElem?_eq_getElem hi]
  rfl
theorem iOf_len (L : List Nat) : (iOf L).length = L.length := by unfold iOf; rw [List.length_map]
theorem iOf_inj {L M : List Nat} (h : iOf L = iOf M) : L = M := List.map_inj_right (fun a b e => by omega) |>.1 h
set_option maxHeartbeats 600000 in
set_option maxRecDepth 100000 in
theorem sameP_any {w : World} {a b : Option Addr} {ca cb : Nat} {S T : List Int} (hS : KL w a S) (hT : KL w b T) (hn : S.length ≤ 9223372036854775806) : Calls Try.prog 11 #[.slice a S.length ca, .slice b T.length cb] w fun e w' => e = .returned (.bool (decide (S = T))) ∧ Keeps (fun _ => False) w w' := by
  have HS : Hid (KL w a S) := hS
  have HT : Hid (KL w b T) := hT
  clear hS hT
  obtain ⟨R, hR⟩ : ∃ R, R = decide (S = T) := ⟨_, rfl⟩
  have HR : Hid (R = decide (S = T)) := hR
  rw [← hR]
  clear hR
  by_cases hlen : S.length = T.length
  · have HLT : Hid (T.length = S.length) := hlen.symm
    rw [← hlen]
    clear hlen
    generalize hN : S.length = N at *
    have HN : Hid (S.length = N) := hN
    clear hN
    have q1 : ((N : Int) != (N : Int)) = false := by simp
    have q2 : (N != N) = false := by simp
    go_enter Try.func11, Try.ntmps11
    go_wp2_with fail
    go_loopw [5] (fun iv Wr => ∃ (k : Nat), iv = .int .i64 (k : Int) ∧ k ≤ N ∧ (∀ i, i < k → S.getD i 0 = T.getD i 0) ∧ Keeps (fun _ => False) w Wr) (fun iv _ => N - (intOf iv).toNat)
    case atStart => exact ⟨0, rfl, Nat.zero_le _, fun i hi => absurd hi (by omega), Keeps.refl _ _⟩
    case round =>
      obtain ⟨k, rfl, hk, hal, kr⟩ := hrel
      have HAL : Hid (∀ i, i < k → S.getD i 0 = T.getD i 0) := hal
      clear hal
      by_cases hlt : k < N
      · have j1 : decide ((k : Int) < (N : Int)) = true := decide_eq_true (by omega)
        have j2 : decide (k < N) = true := decide_eq_true hlt
        have j3 : (k : Int) < (N : Int) := by omega
        have j4 : (0 : Int) ≤ (k : Int) := by omega
        have hwi : IntKind.i64.wrap ((k : Int) + 1) = (k : Int) + 1 := by rw [IntKind.wrap_i64]; omega
        have hkS : k < S.length := by rw [HN.out]; exact hlt
        have hkT : k < T.length := by rw [HLT.out]; exact hlt
        obtain ⟨b1, o1, rfl, hc1⟩ := HS.out k hkS
        obtain ⟨b2, o2, rfl, hc2⟩ := HT.out k hkT
        have p1 : ∀ u : KS wr, u.1.cell? ⟨b1, o1 + k, none⟩ = some (.int .i64 (S.getD k 0)) := ks_cell (kr.cell hc1 (fun e => e))
        have p2 : ∀ u : KS wr, u.1.cell? ⟨b2, o2 + k, none⟩ = some (.int .i64 (T.getD k 0)) := ks_cell (kr.cell hc2 (fun e => e))
        have HNX : Hid (S.getD k 0 = T.getD k 0 → ∀ i, i < k + 1 → S.getD i 0 = T.getD i 0) := fun h i hi => by
          by_cases e : i = k
          · rw [e]; exact h
          · exact HAL.out i (by omega)
        have HNO : Hid (S.getD k 0 ≠ T.getD k 0 → R = false) := fun h => by rw [HR.out]; exact decide_eq_false (fun e => h (by rw [e]))
        clear hc1 hc2 hkS hkT
        generalize S.getD k 0 = x at *
        generalize T.getD k 0 = y at *
        haveI : Nonempty (KS wr) := ⟨⟨wr, Keeps.refl _ _⟩⟩
        go_wp2_with fail
        refine wp_region_ks (by kernel_rfl) (by kernel_rfl) ?_
        (repeat (first | go_big_quiet_skip | go_big_quiet_step (fail)))
        refine wpQuiet_nil ?_
        rintro _ ⟨u, rfl⟩
        have ku := kr.trans u.property
        generalize u.val = wu at *
        by_cases hx : x = y
        · have s1 : (x != y) = false := by simp [hx]
          have HX : Hid (∀ i, i < k + 1 → S.getD i 0 = T.getD i 0) := HNX.out hx
          clear hx HNO HNX
          go_wp2
          go_roundw
          case rel => exact ⟨k + 1, by go_num, by omega, HX.out, ku⟩
          case measure => simp [intOf]; omega
        · have s1 : (x != y) = true := by simp [hx]
          have HRF : Hid (R = false) := HNO.out hx
          clear hx HNO HNX
          go_wp2
          go_ret
          exact ⟨by rw [HRF.out]; rfl, ku⟩
      · have j1 : decide ((k : Int) < (N : Int)) = false := decide_eq_false (by omega)
        have j2 : decide (k < N) = false := decide_eq_false hlt
        have HRT : Hid (R = true) := by
          show _ = _
          rw [HR.out]
          refine decide_eq_true (List.ext_getElem (HN.out.trans HLT.out.symm) (fun i h1 h2 => ?_))
          have := HAL.out i (by rw [HN.out] at h1; omega)
          rw [List.getD_eq_getElem?_getD, List.getElem?_eq_getElem h1, List.getD_eq_getElem?_getD, List.getElem?_eq_getElem h2] at this
          exact this
        go_wp2_with fail
        go_ret
        exact ⟨by rw [HRT.out]; rfl, kr⟩
  · have HRF : Hid (R = false) := by show _ = _; rw [HR.out]; exact decide_eq_false (fun e => hlen (by rw [e]))
    have q1 : ((S.length : Int) != (T.length : Int)) = true := by simp; omega
    have q2 : (S.length != T.length) = true := by simp; omega
    have q3 : ((S.length : Int) == (T.length : Int)) = false := by simp; omega
    have q4 : (S.length == T.length) = false := by simp; omega
    clear hlen hn
    generalize S.length = N at *
    generalize T.length = M at *
    go_enter Try.func11, Try.ntmps11
    go_wp2_with fail
    go_ret
    exact ⟨by rw [HRF.out]; rfl, Keeps.refl _ _⟩
set_option maxHeartbeats 600000 in
set_option maxRecDepth 100000 in
theorem sameK_any {w : World} {a b : Option Addr} {ca cb : Nat} {S T : List Int} (hS : KL w a S) (hT : KL w b T) (hn : S.length ≤ 9223372036854775806) : Calls Try.prog 12 #[.slice a S.length ca, .slice b T.length cb] w fun e w' => e = .returned (.bool (decide (S = T))) ∧ Keeps (fun _ => False) w w' := by
  have HS : Hid (KL w a S) := hS
  have HT : Hid (KL w b T) := hT
  clear hS hT
  obtain ⟨R, hR⟩ : ∃ R, R = decide (S = T) := ⟨_, rfl⟩
  have HR : Hid (R = decide (S = T)) := hR
  rw [← hR]
  clear hR
  by_cases hlen : S.length = T.length
  · have HLT : Hid (T.length = S.length) := hlen.symm
    rw [← hlen]
    clear hlen
    generalize hN : S.length = N at *
    have HN : Hid (S.length = N) := hN
    clear hN
    have q1 : ((N : Int) != (N : Int)) = false := by simp
    have q2 : (N != N) = false := by simp
    go_enter Try.func12, Try.ntmps12
    go_wp2_with fail
    go_loopw [5] (fun iv Wr => ∃ (k : Nat), iv = .int .i64 (k : Int) ∧ k ≤ N ∧ (∀ i, i < k → S.getD i 0 = T.getD i 0) ∧ Keeps (fun _ => False) w Wr) (fun iv _ => N - (intOf iv).toNat)
    case atStart => exact ⟨0, rfl, Nat.zero_le _, fun i hi => absurd hi (by omega), Keeps.refl _ _⟩
    case round =>
      obtain ⟨k, rfl, hk, hal, kr⟩ := hrel
      have HAL : Hid (∀ i, i < k → S.getD i 0 = T.getD i 0) := hal
      clear hal
      by_cases hlt : k < N
      · have j1 : decide ((k : Int) < (N : Int)) = true := decide_eq_true (by omega)
        have j2 : decide (k < N) = true := decide_eq_true hlt
        have j3 : (k : Int) < (N : Int) := by omega
        have j4 : (0 : Int) ≤ (k : Int) := by omega
        have hwi : IntKind.i64.wrap ((k : Int) + 1) = (k : Int) + 1 := by rw [IntKind.wrap_i64]; omega
        have hkS : k < S.length := by rw [HN.out]; exact hlt
        have hkT : k < T.length := by rw [HLT.out]; exact hlt
        obtain ⟨b1, o1, rfl, hc1⟩ := HS.out k hkS
        obtain ⟨b2, o2, rfl, hc2⟩ := HT.out k hkT
        have p1 : ∀ u : KS wr, u.1.cell? ⟨b1, o1 + k, none⟩ = some (.int .i64 (S.getD k 0)) := ks_cell (kr.cell hc1 (fun e => e))
        have p2 : ∀ u : KS wr, u.1.cell? ⟨b2, o2 + k, none⟩ = some (.int .i64 (T.getD k 0)) := ks_cell (kr.cell hc2 (fun e => e))
        have HNX : Hid (S.getD k 0 = T.getD k 0 → ∀ i, i < k + 1 → S.getD i 0 = T.getD i 0) := fun h i hi => by
          by_cases e : i = k
          · rw [e]; exact h
          · exact HAL.out i (by omega)
        have HNO : Hid (S.getD k 0 ≠ T.getD k 0 → R = false) := fun h => by rw [HR.out]; exact decide_eq_false (fun e => h (by rw [e]))
        clear hc1 hc2 hkS hkT
        generalize S.getD k 0 = x at *
        generalize T.getD k 0 = y at *
        haveI : Nonempty (KS wr) := ⟨⟨wr, Keeps.refl _ _⟩⟩
        go_wp2_with fail
        refine wp_region_ks (by kernel_rfl) (by kernel_rfl) ?_
        (repeat (first | go_big_quiet_skip | go_big_quiet_step (fail)))
        refine wpQuiet_nil ?_
        rintro _ ⟨u, rfl⟩
        have ku := kr.trans u.property
        generalize u.val = wu at *
        by_cases hx : x = y
        · have s1 : (x != y) = false := by simp [hx]
          have HX : Hid (∀ i, i < k + 1 → S.getD i 0 = T.getD i 0) := HNX.out hx
          clear hx HNO HNX
          go_wp2
          go_roundw
          case rel => exact ⟨k + 1, by go_num, by omega, HX.out, ku⟩
          case measure => simp [intOf]; omega
        · have s1 : (x != y) = true := by simp [hx]
          have HRF : Hid (R = false) := HNO.out hx
          clear hx HNO HNX
          go_wp2
          go_ret
          exact ⟨by rw [HRF.out]; rfl, ku⟩
      · have j1 : decide ((k : Int) < (N : Int)) = false := decide_eq_false (by omega)
        have j2 : decide (k < N) = false := decide_eq_false hlt
        have HRT : Hid (R = true) := by
          show _ = _
          rw [HR.out]
          refine decide_eq_true (List.ext_getElem (HN.out.trans HLT.out.symm) (fun i h1 h2 => ?_))
          have := HAL.out i (by rw [HN.out] at h1; omega)
          rw [List.getD_eq_getElem?_getD, List.getElem?_eq_getElem h1, List.getD_eq_getElem?_getD, List.getElem?_eq_getElem h2] at this
          exact this
        go_wp2_with fail
        go_ret
        exact ⟨by rw [HRT.out]; rfl, kr⟩
  · have HRF : Hid (R = false) := by show _ = _; rw [HR.out]; exact decide_eq_false (fun e => hlen (by rw [e]))
    have q1 : ((S.length : Int) != (T.length : Int)) = true := by simp; omega
    have q2 : (S.length != T.length) = true := by simp; omega
    have q3 : ((S.length : Int) == (T.length : Int)) = false := by simp; omega
    have q4 : (S.length == T.length) = false := by simp; omega
    clear hlen hn
    generalize S.length = N at *
    generalize T.length = M at *
    go_enter Try.func12, Try.ntmps12
    go_wp2_with fail
    go_ret
    exact ⟨by rw [HRF.out]; rfl, Keeps.refl _ _⟩
end Go.Proofs.Ytgcfckbmmdajhaa
