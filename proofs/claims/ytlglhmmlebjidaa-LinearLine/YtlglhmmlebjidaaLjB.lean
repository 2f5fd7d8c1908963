import Derived.Test.YtlglhmmlebjidaaLjA
namespace Go.Proofs.Ytlglhmmlebjidaa
open Go.RowKit
theorem wpList_stopL {P : Program} {ops : Array Oper} {rest : List Oper} {o : Oper} {a : Act} {w : World} {Q : Exit → Act → World → Prop} (d : Tmp) (_ : o.dst = some d) (h : Hid (wpList P ops Q (o :: rest) a w)) : wpList P ops Q (o :: rest) a w := h.out
/-- What May answers. -/
def MaP (l : List Cl) (w : World) (e : Ending) (w' : World) : Prop := ∃ b, e = .returned (.bool b) ∧ (b = true ↔ MayL l) ∧ Keeps (fun _ => False) w w'
set_option maxHeartbeats 1000000 in
set_option maxRecDepth 100000 in
theorem rmay_any {w : World} {a : Option Addr} {cap : Nat} {l : List Cl} (hl : CSL w a l) (hn : l.length ≤ 2199023255552) : Calls Try.prog 30 #[.slice a l.length cap] w (MaP l w) := by
  have HL : Hid (CSL w a l) := hl
  clear hl
  generalize hN : l.length = N at *
  have HN : Hid (l.length = N) := hN
  clear hN
  go_enter Try.func30, Try.ntmps30
  go_wp2_with fail
  go_loopg [3] N (fun g iv Wr => ∃ (k : Nat), k + g = N ∧ iv = .int .i64 (k : Int) ∧ (∀ i, i < k → mayP (l.getD i cl0) = true) ∧ Apt l k ∧ Keeps (fun _ => False) w Wr)
  case atStart => exact ⟨0, by omega, rfl, fun i hi => absurd hi (by omega), fun i j _ hj => absurd hj (by omega), Keeps.refl _ _⟩
  case round =>
    obtain ⟨k, hkg, rfl, hal, hap, kr0⟩ := hrel
    have HAL : Hid ((∀ i, i < k → mayP (l.getD i cl0) = true) ∧ Apt l k) := ⟨hal, hap⟩
    clear hal hap
    cases gk with
    | zero =>
      have j1 : decide ((k : Int) < (N : Int)) = false := decide_eq_false (by omega)
      have j2 : decide (k < N) = false := decide_eq_false (by omega)
      obtain rfl : k = N := by omega
      go_wp2_with fail
      go_ret
      exact ⟨true, rfl, ⟨fun _ => ⟨by rw [HN.out]; exact HAL.out.1, by rw [HN.out]; exact HAL.out.2⟩, fun _ => rfl⟩, kr0⟩
    | succ g =>
      have j1 : decide ((k : Int) < (N : Int)) = true := decide_eq_true (by omega)
      have j2 : decide (k < N) = true := decide_eq_true (by omega)
      have j3 : (k : Int) < (N : Int) := by omega
      have j4 : (0 : Int) ≤ (k : Int) := by omega
      have hwi : IntKind.i64.wrap ((k : Int) + 1) = (k : Int) + 1 := by rw [IntKind.wrap_i64]; omega
      have hkL : k < l.length := by rw [HN.out]; omega
      obtain ⟨b, off, rfl, hc⟩ := HL.out k hkL
      have hR := run_cl (W := wr) (fun j v e => kr0.cell (hc j v e) (fun e => e))
      have HPT0 : ptOf l k = (l.getD k cl0).point := rfl
      have HNO0 : mayD (l.getD k cl0) = false → ¬ MayL l := fun h hM => by
        rw [may_eq, hM.1 k hkL] at h
        cases h
      have HYE0 : mayD (l.getD k cl0) = true → mayP (l.getD k cl0) = true := fun h => by rw [← may_eq]; exact h
      obtain ⟨c, hcd⟩ : ∃ c, c = l.getD k cl0 := ⟨_, rfl⟩
      rw [← hcd] at hR HPT0 HNO0
      have HYE1 : mayD c = true → mayP (l.getD k cl0) = true := by rw [hcd]; exact HYE0
      clear hcd hc hkL HYE0
      obtain ⟨kd, ky, ot, ye, re, fr, pt, to⟩ := c
      have HPT : Hid (ptOf l k = pt) := HPT0
      have HNO : Hid (mayD ⟨kd, ky, ot, ye, re, fr, pt, to⟩ = false → ¬ MayL l) := HNO0
      have HYE : Hid (mayD ⟨kd, ky, ot, ye, re, fr, pt, to⟩ = true → mayP (l.getD k cl0) = true) := HYE1
      clear HPT0 HNO0 HYE1
      obtain ⟨c, hcd⟩ : ∃ c : Cl, c = ⟨kd, ky, ot, ye, re, fr, pt, to⟩ := ⟨_, rfl⟩
      rw [← hcd] at hR
      have hOC := all_oneCell_cl c
      have HCD : Hid (c = ⟨kd, ky, ot, ye, re, fr, pt, to⟩) := hcd
      clear hcd
      obtain ⟨W4, hW4⟩ : ∃ W4, W4 = wr.alloc (.cells #[.int .i64 0, .int .i64 0, .int .i64 0, .bool false, .int .i64 0, .int .i64 0, .int .i64 0, .int .i64 0] 40) := ⟨_, rfl⟩
      have k4 : Keeps (fun _ => False) wr W4 := by rw [hW4]; exact (Keeps.refl _ wr).alloc _
      have hU4 : CL W4 wr.heap.size cl0.cells := by rw [hW4]; exact CL.made wr cl0.cells _
      have HW4 : Hid (W4 = wr.alloc (.cells #[.int .i64 0, .int .i64 0, .int .i64 0, .bool false, .int .i64 0, .int .i64 0, .int .i64 0, .int .i64 0] 40)) := hW4
      clear hW4
      refine wp_seq_k (fun KK hKK => ?_)
      have hKH : Hid _ := hKK
      clear hKK
      go_wp2_with fail
      refine hKH.out _ _ ?_
      clear hKH KK
      refine wp_seq_k (fun KK hKK => ?_)
      have hKR : Hid _ := hKK
      clear hKK
      refine wp_block ?_
      refine wp_seq_k (fun KK2 hKK2 => ?_)
      have hKH : Hid _ := hKK2
      clear hKK2
      go_wp2_with (first | (refine wpList_load_runL rfl 40 _ rfl ⟨b, off + k * 8, none⟩ rfl _ hR ?_; clear hR) | (rw [← HW4.out]; clear HW4; refine wpList_store_cl rfl 40 _ _ rfl wr.heap.size 0 8 _ rfl rfl rfl hU4 (by show 8 ≤ 8; decide) iCl hOC ?_; intro w5 hc5 k5 hsz5; clear hsz5; have hI5 : CL w5 wr.heap.size c.cells := hc5; clear hc5; rw [HCD.out] at hI5; have K45 : Keeps (fun _ => False) wr w5 := k4.trans' k5 (fun _ _ e => e) (fun i hi e => (by have e : i = wr.heap.size := e; omega)); clear k4 k5 hU4; have c0 : w5.cell? ⟨wr.heap.size, 0, none⟩ = some (.int .i64 kd) := hI5.c 0 _ rfl; have c5 : w5.cell? ⟨wr.heap.size, 5, none⟩ = some (.int .i64 fr) := hI5.c 5 _ rfl; have c6 : w5.cell? ⟨wr.heap.size, 6, none⟩ = some (.int .i64 pt) := hI5.c 6 _ rfl; have c7 : w5.cell? ⟨wr.heap.size, 7, none⟩ = some (.int .i64 to) := hI5.c 7 _ rfl))
      refine hKH.out _ _ ?_
      clear hKH KK2
      by_cases g1 : kd < 1
      · have d1 : decide (kd < 1) = true := decide_eq_true g1
        go_wp2_with fail
        go_ret
        exact ⟨false, rfl, ⟨(fun e => by cases e), fun h => absurd h (HNO.out (by unfold mayD; simp [g1]))⟩, kr0.trans K45⟩
      have d1 : decide (kd < 1) = false := decide_eq_false g1
      by_cases g2 : 6 < kd
      · have d2 : decide (6 < kd) = true := decide_eq_true g2
        have d2' : decide (kd > 6) = true := decide_eq_true g2
        go_wp2_with fail
        go_ret
        exact ⟨false, rfl, ⟨(fun e => by cases e), fun h => absurd h (HNO.out (by unfold mayD; simp [g2]))⟩, kr0.trans K45⟩
      have d2 : decide (6 < kd) = false := decide_eq_false g2
      have d2' : decide (kd > 6) = false := decide_eq_false g2
      by_cases g3 : fr < 0
      · have d3 : decide (fr < 0) = true := decide_eq_true g3
        go_wp2_with fail
        go_ret
        exact ⟨false, rfl, ⟨(fun e => by cases e), fun h => absurd h (HNO.out (by unfold mayD; simp [g3]))⟩, kr0.trans K45⟩
      have d3 : decide (fr < 0) = false := decide_eq_false g3
      by_cases g4 : pt = -1
      · have d4 : (pt == -1) = true := by simp [g4]
        have d4' : (pt != -1) = false := by simp [g4]
        have HPM : Hid (pt = -1) := g4
        by_cases g5 : to = -1
        · have d5 : (to != -1) = false := by simp [g5]
          have HG : Hid (¬ kd < 1 ∧ ¬ 6 < kd ∧ ¬ fr < 0 ∧ pt = -1 ∧ to = -1) := ⟨g1, g2, g3, g4, g5⟩
          clear g1 g2 g3 g4 g5
          have HMY : Hid (mayP (l.getD k cl0) = true) := HYE.out (by unfold mayD; simp [HG.out.1, HG.out.2.1, HG.out.2.2.1, HG.out.2.2.2.1, HG.out.2.2.2.2])
          clear HNO HYE
          go_wp2_with fail
          obtain ⟨wo, hwo⟩ : ∃ wo, wo = wr := ⟨_, rfl⟩
          subst hwo
          have kr1 := kr0.trans K45
          clear c0 c5 c7 hI5 K45
          go_loopg [5] k (fun g2 iv Wx => ∃ (j : Nat), j + g2 = k ∧ iv = .int .i64 (j : Int) ∧ (pt ≠ -1 → ∀ y, y < j → ptOf l y ≠ pt) ∧ Keeps (fun _ => False) w5 Wx)
          case atStart => exact ⟨0, by omega, rfl, fun _ y hy => absurd hy (by omega), Keeps.refl _ _⟩
          case round =>
            obtain ⟨j, hjg, rfl, hah, kx⟩ := hrel
            have HAH : Hid (pt ≠ -1 → ∀ y, y < j → ptOf l y ≠ pt) := hah
            clear hah
            cases gk with
            | succ g2 =>
              have m1 : decide ((j : Int) < (k : Int)) = true := decide_eq_true (by omega)
              have m2 : decide (j < k) = true := decide_eq_true (by omega)
              have m3 : (j : Int) < (N : Int) := by omega
              have m4 : (0 : Int) ≤ (j : Int) := by omega
              have hwj : IntKind.i64.wrap ((j : Int) + 1) = (j : Int) + 1 := by rw [IntKind.wrap_i64]; omega
              have p6 : ∀ u : KS wr, u.1.cell? ⟨wo.heap.size, 6, none⟩ = some (.int .i64 pt) := ks_cell (kx.cell c6 (fun e => e))
              haveI : Nonempty (KS wr) := ⟨⟨wr, Keeps.refl _ _⟩⟩
              go_wp2_with fail
              refine wp_region_ks (by kernel_rfl) (by kernel_rfl) ?_
              (repeat (first | go_big_quiet_skip | go_big_quiet_step (fail)))
              refine wpQuiet_nil ?_
              rintro _ ⟨u, rfl⟩
              have ku := kx.trans u.property
              generalize u.val = wu at *
              go_wp2
              go_roundg g2
              case measure => omega
              case rel => exact ⟨j + 1, by omega, by go_num, fun h => absurd HPM.out h, ku⟩
            | zero =>
              have m1 : decide ((j : Int) < (k : Int)) = false := decide_eq_false (by omega)
              have m2 : decide (j < k) = false := decide_eq_false (by omega)
              go_wp2_with fail
              refine hKR.out _ _ ?_
              go_wp2_with fail
              go_roundg g
              case measure => omega
              case rel =>
                refine ⟨k + 1, by omega, by go_num, fun x hx => ?_, fun x y hxy hy hp => ?_, kr1.trans kx⟩
                · by_cases e : x = k
                  · rw [e]; exact HMY.out
                  · exact HAL.out.1 x (by omega)
                · by_cases e : y = k
                  · subst e
                    have hpp : ptOf l y = pt := HPT.out
                    rw [hpp] at hp ⊢
                    exact HAH.out hp x (by omega)
                  · exact HAL.out.2 x y hxy (by omega) hp
        · have d5 : (to != -1) = true := by simp [g5]
          have HG : Hid (pt = -1 ∧ ¬ to = -1) := ⟨g4, g5⟩
          clear g4 g5
          go_wp2_with fail
          go_ret
          exact ⟨false, rfl, ⟨(fun e => by cases e), fun h => absurd h (HNO.out (by unfold mayD; simp [HG.out.1, HG.out.2]))⟩, kr0.trans K45⟩
      · have d4 : (pt == -1) = false := by simp [g4]
        have d4' : (pt != -1) = true := by simp [g4]
        have HPM : Hid (pt ≠ -1) := g4
        by_cases g6 : pt ≤ fr
        · have d6 : decide (pt ≤ fr) = true := decide_eq_true g6
          have HG : Hid (¬ pt = -1 ∧ pt ≤ fr) := ⟨g4, g6⟩
          clear g4 g6
          go_wp2_with fail
          go_ret
          exact ⟨false, rfl, ⟨(fun e => by cases e), fun h => absurd h (HNO.out (by unfold mayD; simp [HG.out.1, HG.out.2]))⟩, kr0.trans K45⟩
        · have d6 : decide (pt ≤ fr) = false := decide_eq_false g6
          by_cases g5 : to = -1
          · have d5 : (to != -1) = false := by simp [g5]
            have HG : Hid (¬ kd < 1 ∧ ¬ 6 < kd ∧ ¬ fr < 0 ∧ ¬ pt ≤ fr ∧ to = -1) := ⟨g1, g2, g3, g6, g5⟩
            clear g1 g2 g3 g4 g5 g6
            have HMY : Hid (mayP (l.getD k cl0) = true) := HYE.out (by unfold mayD; simp [HG.out.1, HG.out.2.1, HG.out.2.2.1, HG.out.2.2.2.1, HG.out.2.2.2.2])
            clear HNO HYE
            go_wp2_with fail
            obtain ⟨wo, hwo⟩ : ∃ wo, wo = wr := ⟨_, rfl⟩
            subst hwo
            have kr1 := kr0.trans K45
            clear c0 c5 c7 hI5 K45
            go_loopg [5] k (fun g2 iv Wx => ∃ (j : Nat), j + g2 = k ∧ iv = .int .i64 (j : Int) ∧ (pt ≠ -1 → ∀ y, y < j → ptOf l y ≠ pt) ∧ Keeps (fun _ => False) w5 Wx)
            case atStart => exact ⟨0, by omega, rfl, fun _ y hy => absurd hy (by omega), Keeps.refl _ _⟩
            case round =>
              obtain ⟨j, hjg, rfl, hah, kx⟩ := hrel
              have HAH : Hid (pt ≠ -1 → ∀ y, y < j → ptOf l y ≠ pt) := hah
              clear hah
              cases gk with
              | succ g2 =>
                have m1 : decide ((j : Int) < (k : Int)) = true := decide_eq_true (by omega)
                have m2 : decide (j < k) = true := decide_eq_true (by omega)
                have m3 : (j : Int) < (N : Int) := by omega
                have m4 : (0 : Int) ≤ (j : Int) := by omega
                have hwj : IntKind.i64.wrap ((j : Int) + 1) = (j : Int) + 1 := by rw [IntKind.wrap_i64]; omega
                have p6 : ∀ u : KS wr, u.1.cell? ⟨wo.heap.size, 6, none⟩ = some (.int .i64 pt) := ks_cell (kx.cell c6 (fun e => e))
                haveI : Nonempty (KS wr) := ⟨⟨wr, Keeps.refl _ _⟩⟩
                obtain ⟨b', off', eb, hcj⟩ := HL.out j (by rw [HN.out]; omega)
                injection eb with eb
                injection eb with eb1 eb2 _
                subst eb1 eb2
                have p7 : ∀ u : KS wr, u.1.cell? ⟨b, off + j * 8 + 6, none⟩ = some (.int .i64 (ptOf l j)) := ks_cell ((kr1.trans kx).cell (hcj 6 _ rfl) (fun e => e))
                clear hcj
                obtain ⟨x, hx⟩ : ∃ x, x = ptOf l j := ⟨_, rfl⟩
                have HX : Hid (x = ptOf l j) := hx
                rw [← hx] at p7
                clear hx
                go_wp2_with fail
                refine wp_region_ks (by kernel_rfl) (by kernel_rfl) ?_
                (repeat (first | go_big_quiet_skip | go_big_quiet_step (fail)))
                refine wpQuiet_nil ?_
                rintro _ ⟨u, rfl⟩
                have ku := kx.trans u.property
                generalize u.val = wu at *
                by_cases hxp : x = pt
                · have s1 : (x == pt) = true := by simp [hxp]
                  have HNM : Hid (¬ MayL l) := fun h => h.2 j k (by omega) (by rw [HN.out]; omega) (by rw [HPT.out]; exact HPM.out) (by rw [← HX.out, HPT.out]; exact hxp)
                  clear hxp
                  go_wp2
                  go_ret
                  exact ⟨false, rfl, ⟨(fun e => by cases e), fun h => absurd h HNM.out⟩, kr1.trans ku⟩
                · have s1 : (x == pt) = false := by simp [hxp]
                  have HXX : Hid (pt ≠ -1 → ∀ y, y < j + 1 → ptOf l y ≠ pt) := fun h y hy => by
                    by_cases e : y = j
                    · rw [e, ← HX.out]; exact hxp
                    · exact HAH.out h y (by omega)
                  clear hxp
                  go_wp2
                  go_roundg g2
                  case measure => omega
                  case rel => exact ⟨j + 1, by omega, by go_num, HXX.out, ku⟩
              | zero =>
                have m1 : decide ((j : Int) < (k : Int)) = false := decide_eq_false (by omega)
                have m2 : decide (j < k) = false := decide_eq_false (by omega)
                go_wp2_with fail
                refine hKR.out _ _ ?_
                go_wp2_with fail
                go_roundg g
                case measure => omega
                case rel =>
                  refine ⟨k + 1, by omega, by go_num, fun x hx => ?_, fun x y hxy hy hp => ?_, kr1.trans kx⟩
                  · by_cases e : x = k
                    · rw [e]; exact HMY.out
                    · exact HAL.out.1 x (by omega)
                  · by_cases e : y = k
                    · subst e
                      have hpp : ptOf l y = pt := HPT.out
                      rw [hpp] at hp ⊢
                      exact HAH.out hp x (by omega)
                    · exact HAL.out.2 x y hxy (by omega) hp
          · have d5 : (to != -1) = true := by simp [g5]
            by_cases g7 : to ≤ pt
            · have d7 : decide (to ≤ pt) = true := decide_eq_true g7
              have HG : Hid (¬ to = -1 ∧ to ≤ pt) := ⟨g5, g7⟩
              clear g4 g5 g6 g7
              go_wp2_with fail
              go_ret
              exact ⟨false, rfl, ⟨(fun e => by cases e), fun h => absurd h (HNO.out (by unfold mayD; simp [HG.out.1, HG.out.2]))⟩, kr0.trans K45⟩
            · have d7 : decide (to ≤ pt) = false := decide_eq_false g7
              have HG : Hid (¬ kd < 1 ∧ ¬ 6 < kd ∧ ¬ fr < 0 ∧ ¬ pt ≤ fr ∧ ¬ to ≤ pt ∧ ¬ pt = -1) := ⟨g1, g2, g3, g6, g7, g4⟩
              clear g1 g2 g3 g4 g5 g6 g7
              have HMY : Hid (mayP (l.getD k cl0) = true) := HYE.out (by unfold mayD; simp [HG.out.1, HG.out.2.1, HG.out.2.2.1, HG.out.2.2.2.1, HG.out.2.2.2.2.1, HG.out.2.2.2.2.2])
              clear HNO HYE
              go_wp2_with fail
              obtain ⟨wo, hwo⟩ : ∃ wo, wo = wr := ⟨_, rfl⟩
              subst hwo
              have kr1 := kr0.trans K45
              clear c0 c5 c7 hI5 K45
              go_loopg [5] k (fun g2 iv Wx => ∃ (j : Nat), j + g2 = k ∧ iv = .int .i64 (j : Int) ∧ (pt ≠ -1 → ∀ y, y < j → ptOf l y ≠ pt) ∧ Keeps (fun _ => False) w5 Wx)
              case atStart => exact ⟨0, by omega, rfl, fun _ y hy => absurd hy (by omega), Keeps.refl _ _⟩
              case round =>
                obtain ⟨j, hjg, rfl, hah, kx⟩ := hrel
                have HAH : Hid (pt ≠ -1 → ∀ y, y < j → ptOf l y ≠ pt) := hah
                clear hah
                cases gk with
                | succ g2 =>
                  have m1 : decide ((j : Int) < (k : Int)) = true := decide_eq_true (by omega)
                  have m2 : decide (j < k) = true := decide_eq_true (by omega)
                  have m3 : (j : Int) < (N : Int) := by omega
                  have m4 : (0 : Int) ≤ (j : Int) := by omega
                  have hwj : IntKind.i64.wrap ((j : Int) + 1) = (j : Int) + 1 := by rw [IntKind.wrap_i64]; omega
                  have p6 : ∀ u : KS wr, u.1.cell? ⟨wo.heap.size, 6, none⟩ = some (.int .i64 pt) := ks_cell (kx.cell c6 (fun e => e))
                  haveI : Nonempty (KS wr) := ⟨⟨wr, Keeps.refl _ _⟩⟩
                  obtain ⟨b', off', eb, hcj⟩ := HL.out j (by rw [HN.out]; omega)
                  injection eb with eb
                  injection eb with eb1 eb2 _
                  subst eb1 eb2
                  have p7 : ∀ u : KS wr, u.1.cell? ⟨b, off + j * 8 + 6, none⟩ = some (.int .i64 (ptOf l j)) := ks_cell ((kr1.trans kx).cell (hcj 6 _ rfl) (fun e => e))
                  clear hcj
                  obtain ⟨x, hx⟩ : ∃ x, x = ptOf l j := ⟨_, rfl⟩
                  have HX : Hid (x = ptOf l j) := hx
                  rw [← hx] at p7
                  clear hx
                  go_wp2_with fail
                  refine wp_region_ks (by kernel_rfl) (by kernel_rfl) ?_
                  (repeat (first | go_big_quiet_skip | go_big_quiet_step (fail)))
                  refine wpQuiet_nil ?_
                  rintro _ ⟨u, rfl⟩
                  have ku := kx.trans u.property
                  generalize u.val = wu at *
                  by_cases hxp : x = pt
                  · have s1 : (x == pt) = true := by simp [hxp]
                    have HNM : Hid (¬ MayL l) := fun h => h.2 j k (by omega) (by rw [HN.out]; omega) (by rw [HPT.out]; exact HPM.out) (by rw [← HX.out, HPT.out]; exact hxp)
                    clear hxp
                    go_wp2
                    go_ret
                    exact ⟨false, rfl, ⟨(fun e => by cases e), fun h => absurd h HNM.out⟩, kr1.trans ku⟩
                  · have s1 : (x == pt) = false := by simp [hxp]
                    have HXX : Hid (pt ≠ -1 → ∀ y, y < j + 1 → ptOf l y ≠ pt) := fun h y hy => by
                      by_cases e : y = j
                      · rw [e, ← HX.out]; exact hxp
                      · exact HAH.out h y (by omega)
                    clear hxp
                    go_wp2
                    go_roundg g2
                    case measure => omega
                    case rel => exact ⟨j + 1, by omega, by go_num, HXX.out, ku⟩
                | zero =>
                  have m1 : decide ((j : Int) < (k : Int)) = false := decide_eq_false (by omega)
                  have m2 : decide (j < k) = false := decide_eq_false (by omega)
                  go_wp2_with fail
                  refine hKR.out _ _ ?_
                  go_wp2_with fail
                  go_roundg g
                  case measure => omega
                  case rel =>
                    refine ⟨k + 1, by omega, by go_num, fun x hx => ?_, fun x y hxy hy hp => ?_, kr1.trans kx⟩
                    · by_cases e : x = k
                      · rw [e]; exact HMY.out
                      · exact HAL.out.1 x (by omega)
                    · by_cases e : y = k
                      · subst e
                        have hpp : ptOf l y = pt := HPT.out
                        rw [hpp] at hp ⊢
                        exact HAH.out hp x (by omega)
                      · exact HAL.out.2 x y hxy (by omega) hp
end Go.Proofs.Ytlglhmmlebjidaa
