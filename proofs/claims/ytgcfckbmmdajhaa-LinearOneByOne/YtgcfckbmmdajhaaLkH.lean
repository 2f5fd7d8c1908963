import Derived.Test.YtgcfckbmmdajhaaLkG
namespace Go.Proofs.Ytgcfckbmmdajhaa
open Go.RowKit
set_option maxHeartbeats 2000000 in
set_option maxRecDepth 100000 in
theorem rising_any {base : Nat} {w : World} {sb : Nat} {U S : List Int} {v : Value} {ka : Option Addr} {kc : Nat} (h : SU base w sb U v) (hU : US U S) (hS : Rise S) (hk : KL w ka S) (hn : U.length ≤ 1000) : Calls Try.prog 10 #[.pointer (some ⟨sb, 0, none⟩), .slice ka S.length kc] w fun e w' => e = .returned (.bool true) ∧ Keeps (fun _ => False) w w' := by
  have HH : Hid (∀ W, Keeps (fun _ => False) w W → ∀ x, x ∈ S → Calls Try.prog 13 #[.pointer (some ⟨sb, 0, none⟩), .int .i64 x] W fun e w' => e = .returned (.bool true) ∧ Keeps (fun _ => False) W w') := fun W kW x hx => by
    have q := uhas_any (h.keep kW) (by omega) x
    rw [hU.has, decide_eq_true hx] at q
    exact q
  obtain ⟨ua, uc, rfl, -⟩ := h.form
  have e0 := h.c.c 0 _ rfl
  have eN := hU.len hS
  have HK : Hid (KL w ka S) := hk
  have HS : Hid (Rise S) := hS
  rw [eN] at e0 hn
  clear hk h hU hS eN
  generalize hN : S.length = N at *
  have HN : Hid (S.length = N) := hN
  clear hN
  have n0 : (N != N) = false := by simp
  go_enter Try.func10, Try.ntmps10
  go_wp2_with fail
  go_loopg [5] N (fun g iv Wx => ∃ (i : Nat), i + g = N ∧ iv = .int .i64 (i : Int) ∧ Keeps (fun _ => False) w Wx)
  case atStart => exact ⟨0, by omega, rfl, Keeps.refl _ _⟩
  case round =>
    obtain ⟨i, hig, rfl, k5⟩ := hrel
    cases gk with
    | zero =>
      have m1a : decide ((i : Int) < (N : Int)) = false := decide_eq_false (by omega)
      have m2a : decide (i < N) = false := decide_eq_false (by omega)
      go_wp2_with fail
      go_ret
      exact ⟨rfl, k5⟩
    | succ g =>
      have m1a : decide ((i : Int) < (N : Int)) = true := decide_eq_true (by omega)
      have m2a : decide (i < N) = true := decide_eq_true (by omega)
      have m3a : (i : Int) < (N : Int) := by omega
      have m4a : (0 : Int) ≤ (i : Int) := by omega
      have m5a : IntKind.i64.wrap ((i : Int) + 1) = (i : Int) + 1 := by rw [IntKind.wrap_i64]; omega
      have hiS : i < S.length := by rw [HN.out]; omega
      obtain ⟨b3, o3, e3, hc3⟩ := HK.out i hiS
      subst e3
      haveI : Nonempty (KS wr) := ⟨⟨wr, Keeps.refl _ _⟩⟩
      have hmem : S.getD i 0 ∈ S := by
        rw [List.getD_eq_getElem?_getD, List.getElem?_eq_getElem hiS]
        exact List.getElem_mem hiS
      have p1 : ∀ u : KS wr, u.1.cell? ⟨b3, o3 + i, none⟩ = some (.int .i64 (S.getD i 0)) := ks_cell (k5.cell hc3 (fun e => e))
      have hh : ∀ u : KS wr, Calls Try.prog 13 #[.pointer (some ⟨sb, 0, none⟩), .int .i64 (S.getD i 0)] u.1 fun e w' => e = .returned (.bool true) ∧ Keeps (fun _ => False) u.1 w' := fun u => HH.out u.1 (k5.trans u.property) _ hmem
      by_cases h0 : i = 0
      · have d1 : decide ((0 : Int) < (i : Int)) = false := decide_eq_false (by omega)
        have d2 : decide (0 < i) = false := decide_eq_false (by omega)
        have d3 : decide ((i : Int) > 0) = false := decide_eq_false (by omega)
        clear h0 hmem hc3 hiS
        generalize S.getD i 0 = x at *
        go_wp2_with fail
        refine wp_region_ks (by kernel_rfl) (by kernel_rfl) ?_
        (repeat (first | go_big_quiet_skip | go_big_quiet_step ((go_at_call 13; with_reducible refine (hh _).mono ?_; rintro e w9 ⟨rfl, k9⟩; exact ⟨rfl, ⟨_, (KS.property _).trans k9⟩, rfl⟩))))
        refine wpQuiet_nil ?_
        rintro _ ⟨u, rfl⟩
        have ku := k5.trans u.property
        generalize u.val = wu at *
        go_wp2
        go_roundg g
        case measure => omega
        case rel => exact ⟨i + 1, by omega, by go_num, ku⟩
      · have d1 : decide ((0 : Int) < (i : Int)) = true := decide_eq_true (by omega)
        have d2 : decide (0 < i) = true := decide_eq_true (by omega)
        have d3 : decide ((i : Int) > 0) = true := decide_eq_true (by omega)
        obtain ⟨j, hj⟩ : ∃ j, i = j + 1 := ⟨i - 1, by omega⟩
        have hwj : IntKind.i64.wrap ((i : Int) - 1) = (j : Int) := by rw [IntKind.wrap_i64]; omega
        have j1 : (j : Int) < (N : Int) := by omega
        have j2 : (0 : Int) ≤ (j : Int) := by omega
        have hjS : j < S.length := by omega
        obtain ⟨b4, o4, e4, hc4⟩ := HK.out j hjS
        injection e4 with e4
        injection e4 with e41 e42 _
        subst e41 e42
        have p2 : ∀ u : KS wr, u.1.cell? ⟨b3, o3 + j, none⟩ = some (.int .i64 (S.getD j 0)) := ks_cell (k5.cell hc4 (fun e => e))
        have hlt : S.getD j 0 < S.getD i 0 := by
          rw [List.getD_eq_getElem?_getD, List.getD_eq_getElem?_getD, List.getElem?_eq_getElem hiS, List.getElem?_eq_getElem hjS]
          exact List.pairwise_iff_getElem.1 HS.out j i hjS hiS (by omega)
        have t1 : decide (S.getD i 0 ≤ S.getD j 0) = false := decide_eq_false (by omega)
        clear h0 hmem hc3 hc4 hiS hjS hlt hj
        generalize S.getD i 0 = x at *
        generalize S.getD j 0 = y at *
        go_wp2_with fail
        refine wp_region_ks (by kernel_rfl) (by kernel_rfl) ?_
        (repeat (first | go_big_quiet_skip | go_big_quiet_step ((go_at_call 13; with_reducible refine (hh _).mono ?_; rintro e w9 ⟨rfl, k9⟩; exact ⟨rfl, ⟨_, (KS.property _).trans k9⟩, rfl⟩))))
        refine wpQuiet_nil ?_
        rintro _ ⟨u, rfl⟩
        have ku := k5.trans u.property
        generalize u.val = wu at *
        go_wp2
        go_roundg g
        case measure => omega
        case rel => exact ⟨i + 1, by omega, by go_num, ku⟩
end Go.Proofs.Ytgcfckbmmdajhaa
