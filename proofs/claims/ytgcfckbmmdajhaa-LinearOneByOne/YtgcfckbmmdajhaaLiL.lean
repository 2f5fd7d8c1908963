import Derived.Test.YtgcfckbmmdajhaaLiK
namespace Go.Proofs.Ytgcfckbmmdajhaa
open Go.RowKit
theorem all_oneCell_cl (c : Cl) : c.cells.toArray.all (·.oneCell') = true := all_oneCell_toArray (by simp [Cl.cells, Value.oneCell'])
set_option maxHeartbeats 600000 in
set_option maxRecDepth 100000 in
theorem ordered_any (hSo : SoP) {w : World} {a : Option Addr} {cap : Nat} {l : List Cl} (hl : CSL w a l) (hn : l.length ≤ 2199023255552) : Calls Try.prog 15 #[.slice a l.length cap] w fun e w' => ∃ v ec, e = .returned (.tuple #[v, .int .i64 ec]) ∧ OrdP l w w' v ec ∧ Keeps (fun _ => False) w w' := by
  obtain ⟨W0, e0⟩ : ∃ W0, W0 = w.alloc (.cells #[.slice a l.length cap] 28) := ⟨_, rfl⟩
  have k0 : Keeps (fun _ => False) w W0 := by rw [e0]; exact (Keeps.refl _ w).alloc _
  have hbx : W0.cell? ⟨w.heap.size, 0, none⟩ = some (.slice a l.length cap) := by rw [e0]; simp
  have z0 : W0.heap.size = w.heap.size + 1 := by rw [e0]; simp
  have HL : Hid (CSL w a l) := hl
  clear hl
  have hso := hSo
  unfold SoP at hso
  have HSO : Hid _ := hso
  clear hso hSo
  generalize hN : l.length = N at *
  have HN : Hid (l.length = N) := hN
  clear hN
  go_enter Try.func15, Try.ntmps15
  refine wp_seq_k (fun KK hKK => ?_)
  have hKH : Hid _ := hKK
  clear hKK
  go_wp2_with fail
  refine hKH.out _ _ ?_
  clear hKH KK
  rw [← e0]
  clear e0
  go_wp2_with fail
  go_loopw [4, 10] (fun lv iv Wr => ∃ (k m : Nat), iv = .int .i64 (k : Int) ∧ k ≤ N ∧ m ≤ k ∧ Wr.ownsRow (w.heap.size + 1) 3 1 lv m (pvs (plK l k)) ∧ m = (plK l k).length ∧ (∀ i, i < k → mayP (l.getD i cl0) = true) ∧ Keeps (fun _ => False) W0 Wr) (fun _ iv _ => N - (intOf iv).toNat)
  case atStart => exact ⟨0, 0, rfl, Nat.zero_le _, Nat.le_refl _, World.ownsRow_nil _ _ _ _, rfl, fun i hi => absurd hi (by omega), Keeps.refl _ _⟩
  case round =>
    obtain ⟨k, m, rfl, hk, hmk, hO, hm, hal, kr⟩ := hrel
    obtain ⟨al, cl, rfl, -⟩ := own_slice hO
    have HM : Hid (m = (plK l k).length) := hm
    have HAL : Hid (∀ i, i < k → mayP (l.getD i cl0) = true) := hal
    clear hm hal
    have hz := kr.size
    have K0r : Keeps (fun _ => False) w wr := k0.trans kr
    by_cases hlt : k < N
    · have j1 : decide ((k : Int) < (N : Int)) = true := decide_eq_true (by omega)
      have j2 : decide (k < N) = true := decide_eq_true hlt
      have j3 : (k : Int) < (N : Int) := by omega
      have j4 : (0 : Int) ≤ (k : Int) := by omega
      have hwi : IntKind.i64.wrap ((k : Int) + 1) = (k : Int) + 1 := by rw [IntKind.wrap_i64]; omega
      have hkL : k < l.length := by rw [HN.out]; exact hlt
      obtain ⟨b, off, rfl, hc⟩ := HL.out k hkL
      have hR := run_cl (W := wr) (fun j v e => K0r.cell (hc j v e) (fun e => e))
      have HPT : Hid (ptOf l k = (l.getD k cl0).point) := rfl
      have HALN : Hid (mayP (l.getD k cl0) = true → ∀ i, i < k + 1 → mayP (l.getD i cl0) = true) := fun h i hi => by
        by_cases e : i = k
        · subst e; exact h
        · exact HAL.out i (by omega)
      have HNO : Hid (mayP (l.getD k cl0) = false → ¬ MayL l) := fun h hM => by
        rw [hM.1 k hkL] at h
        cases h
      clear hc hkL HAL
      generalize l.getD k cl0 = c at *
      have hOC := all_oneCell_cl c
      obtain ⟨W4, hW4⟩ : ∃ W4, W4 = wr.alloc (.cells #[.int .i64 0, .int .i64 0, .int .i64 0, .bool false, .int .i64 0, .int .i64 0, .int .i64 0, .int .i64 0] 33) := ⟨_, rfl⟩
      have k4 : Keeps (fun _ => False) wr W4 := by rw [hW4]; exact (Keeps.refl _ wr).alloc _
      have hU4 : CL W4 wr.heap.size cl0.cells := by rw [hW4]; exact CL.made wr cl0.cells _
      have HW4 : Hid (W4 = wr.alloc (.cells #[.int .i64 0, .int .i64 0, .int .i64 0, .bool false, .int .i64 0, .int .i64 0, .int .i64 0, .int .i64 0] 33)) := hW4
      clear hW4
      cases hmy : mayP c with
      | false =>
        have HNM : Hid (¬ MayL l) := HNO.out hmy
        go_wp2_with (first | (refine wpList_load_runL rfl 33 _ rfl ⟨b, off + k * 8, none⟩ rfl _ hR ?_; clear hR) | (rw [← HW4.out]; clear HW4; refine wpList_store_cl rfl 33 _ _ rfl wr.heap.size 0 8 _ rfl rfl rfl hU4 (by show 8 ≤ 8; decide) iCl hOC ?_; intro w5 hc5 k5 hsz5; clear hsz5; have hI5 : CL w5 wr.heap.size c.cells := hc5; clear hc5; have K45 : Keeps (fun _ => False) wr w5 := k4.trans' k5 (fun _ _ e => e) (fun i hi e => (by have e : i = wr.heap.size := e; omega)); have HR5 := run_clB hI5; have hmb := mayBe_any w5 c; rw [hmy] at hmb) | (refine wpList_load_runL rfl 33 _ rfl ⟨wr.heap.size, 0, none⟩ rfl _ HR5 ?_; clear HR5) | (go_at_call 19; refine hmb.mono ?_; clear hmb; rintro e w6 ⟨rfl, k6⟩; have c6 : w6.cell? ⟨wr.heap.size, 6, none⟩ = some (.int .i64 c.point) := (hI5.keep (by show 0 < 8; decide) k6 (fun e => e)).c 6 _ rfl; have K6 := K45.trans k6))
        go_ret2
        exact ⟨_, _, rfl, .inr ⟨rfl, HNM.out, rfl⟩, K0r.trans K6⟩
      | true =>
        have HAL2 : Hid (∀ i, i < k + 1 → mayP (l.getD i cl0) = true) := HALN.out hmy
        clear HALN HNO
        by_cases hp : c.point = -1
        · have s1 : (c.point != -1) = false := by simp [hp]
          have s1' : (c.point == -1) = true := by simp [hp]
          have HPN : Hid (plK l (k + 1) = plK l k) := plK_none (by rw [HPT.out]; exact hp)
          have HO : Hid (wr.ownsRow (w.heap.size + 1) 3 1 (.slice al m cl) m (pvs (plK l k))) := hO
          clear hp hO HPT
          go_wp2_with (first | (refine wpList_load_runL rfl 33 _ rfl ⟨b, off + k * 8, none⟩ rfl _ hR ?_; clear hR) | (rw [← HW4.out]; clear HW4; refine wpList_store_cl rfl 33 _ _ rfl wr.heap.size 0 8 _ rfl rfl rfl hU4 (by show 8 ≤ 8; decide) iCl hOC ?_; intro w5 hc5 k5 hsz5; clear hsz5; have hI5 : CL w5 wr.heap.size c.cells := hc5; clear hc5; have K45 : Keeps (fun _ => False) wr w5 := k4.trans' k5 (fun _ _ e => e) (fun i hi e => (by have e : i = wr.heap.size := e; omega)); have HR5 := run_clB hI5; have hmb := mayBe_any w5 c; rw [hmy] at hmb) | (refine wpList_load_runL rfl 33 _ rfl ⟨wr.heap.size, 0, none⟩ rfl _ HR5 ?_; clear HR5) | (go_at_call 19; refine hmb.mono ?_; clear hmb; rintro e w6 ⟨rfl, k6⟩; have c6 : w6.cell? ⟨wr.heap.size, 6, none⟩ = some (.int .i64 c.point) := (hI5.keep (by show 0 < 8; decide) k6 (fun e => e)).c 6 _ rfl; have K6 := K45.trans k6))
          go_roundw
          case rel => exact ⟨k + 1, m, by go_num, by omega, by omega, by rw [HPN.out]; exact K6.owns HO.out (fun _ _ e => e), by rw [HPN.out]; exact HM.out, HAL2.out, kr.trans K6⟩
          case measure => simp [intOf]; omega
        · have s1 : (c.point != -1) = true := by simp [hp]
          have s1' : (c.point == -1) = false := by simp [hp]
          have HPS : Hid (plK l (k + 1) = plK l k ++ [k]) := plK_some (by rw [HPT.out]; exact hp)
          have HO : Hid (wr.ownsRow (w.heap.size + 1) 3 1 (.slice al m cl) m (pvs (plK l k))) := hO
          have HAP : Hid (∀ W, Keeps (fun _ => False) wr W → ∃ a' c' W', (Builtin.append_ #[29, 29] 29 #[.slice al m cl, .slice (some ⟨W.heap.size, 0, none⟩) 1 1]).run Try.prog (W.alloc (.cells #[.int .i64 (k : Int)] 3)) = .ok (.slice a' (m + 1) c') W' ∧ W'.ownsRow (w.heap.size + 1) 3 1 (.slice a' (m + 1) c') (m + 1) (pvs (plK l k ++ [k])) ∧ Keeps (fun _ => False) W0 W') := fun W kW => by
            obtain ⟨a', c', W', q1, q2, q3, -⟩ := append_pl (kW.owns HO.out (fun _ _ e => e)) (by have := kW.size; omega) (by omega) k
            exact ⟨a', c', W', q1, q2, (kr.trans kW).trans' q3 (fun _ _ e => e) (fun i hi e => by have := owns_baseT HO.out i e; omega)⟩
          clear hp hO HPT
          go_wp2_with (first | (refine wpList_load_runL rfl 33 _ rfl ⟨b, off + k * 8, none⟩ rfl _ hR ?_; clear hR) | (rw [← HW4.out]; clear HW4; refine wpList_store_cl rfl 33 _ _ rfl wr.heap.size 0 8 _ rfl rfl rfl hU4 (by show 8 ≤ 8; decide) iCl hOC ?_; intro w5 hc5 k5 hsz5; clear hsz5; have hI5 : CL w5 wr.heap.size c.cells := hc5; clear hc5; have K45 : Keeps (fun _ => False) wr w5 := k4.trans' k5 (fun _ _ e => e) (fun i hi e => (by have e : i = wr.heap.size := e; omega)); have HR5 := run_clB hI5; have hmb := mayBe_any w5 c; rw [hmy] at hmb) | (refine wpList_load_runL rfl 33 _ rfl ⟨wr.heap.size, 0, none⟩ rfl _ HR5 ?_; clear HR5) | (go_at_call 19; refine hmb.mono ?_; clear hmb; rintro e w6 ⟨rfl, k6⟩; have c6 : w6.cell? ⟨wr.heap.size, 6, none⟩ = some (.int .i64 c.point) := (hI5.keep (by show 0 < 8; decide) k6 (fun e => e)).c 6 _ rfl; have K6 := K45.trans k6; obtain ⟨a7, c7, W7, hr7, hO7, k7⟩ := HAP.out w6 K6; clear HAP) | (at_builtin; refine wpList_append_tL rfl _ _ _ rfl _ _ _ W7 rfl rfl hr7 ?_; clear hr7))
          go_roundw
          case rel => exact ⟨k + 1, m + 1, by go_num, by omega, by omega, by rw [HPS.out]; exact hO7, by rw [HPS.out, List.length_append, ← HM.out]; rfl, HAL2.out, k7⟩
          case measure => simp [intOf]; omega
    · have j1 : decide ((k : Int) < (N : Int)) = false := decide_eq_false (by omega)
      have j2 : decide (k < N) = false := decide_eq_false hlt
      obtain rfl : k = N := by omega
      have hso := HSO.out wr w.heap.size (w.heap.size + 1) a cap l (plK l k) (.slice al m cl) (HL.out.keep K0r) (by rw [HN.out]; exact kr.cell hbx (fun e => e)) (by omega) (fun hp b off e => by
        obtain ⟨b', off', e', h'⟩ := HL.out.lt hp
        rw [e'] at e
        injection e with e
        injection e with e1 _ _
        omega) (fun i hi => by rw [HN.out]; exact (mem_plK.1 hi).1) (by rw [HN.out, ← HM.out]; exact hmk) (by rw [HN.out]; omega) (by rw [← HM.out]; exact hO)
      rw [← HM.out] at hso
      clear HSO
      have HO : Hid (wr.ownsRow (w.heap.size + 1) 3 1 (.slice al m cl) m (pvs (plK l k))) := hO
      clear hO
      go_wp2_with (go_at_call 20; go_loud (refine hso.mono ?_; clear hso; rintro e w2 ⟨rfl, M, hp, hs, hO2, k2⟩; have HP : Hid ((plK l k).Perm M ∧ M.Pairwise (fun i j => ptOf l i ≤ ptOf l j)) := ⟨hp, hs⟩; clear hp hs; have HO2 : Hid (w2.ownsRow (w.heap.size + 1) 3 1 (.slice al m cl) m (pvs M)) := hO2; clear hO2))
      have K2 : Keeps (fun _ => False) W0 w2 := kr.trans' k2 (fun _ _ e => e) (fun i hi e => by have := owns_baseT HO.out i e; omega)
      clear k2
      have HML : Hid (M.length = m) := by show _ = _; rw [← HP.out.1.length_eq]; exact HM.out.symm
      have HB2 : Hid (m ≤ k) := hmk
      have K02 : Keeps (fun _ => False) w w2 := k0.trans K2
      have hbx2 := K2.cell hbx (fun e => e)
      clear hbx HO kr K0r hz K2 hmk
      go_loopw [7] (fun iv Wr => ∃ (i : Nat), iv = .int .i64 ((i : Int) + 1) ∧ (i + 1 ≤ m ∨ i = 0) ∧ (∀ j, j + 1 < i + 1 → ptOf l (M.getD j 0) ≠ ptOf l (M.getD (j + 1) 0)) ∧ Keeps (fun _ => False) w2 Wr) (fun iv _ => m - (intOf iv).toNat)
      case atStart => exact ⟨0, rfl, .inr rfl, fun j hj => absurd hj (by omega), Keeps.refl _ _⟩
      case round =>
        obtain ⟨i, rfl, him, hne, kr3⟩ := hrel
        have HNE : Hid (∀ j, j + 1 < i + 1 → ptOf l (M.getD j 0) ≠ ptOf l (M.getD (j + 1) 0)) := hne
        clear hne
        by_cases hlt : i + 1 < m
        · have j1 : decide ((i : Int) + 1 < (m : Int)) = true := decide_eq_true (by omega)
          have j2 : decide (i + 1 < m) = true := decide_eq_true hlt
          have j3 : (i : Int) + 1 < (m : Int) := by omega
          have j4 : (0 : Int) ≤ (i : Int) + 1 := by omega
          have j5 : (i : Int) < (m : Int) := by omega
          have j6 : i < m := by omega
          have HBm : m ≤ k := HB2.out
          have hwi : IntKind.i64.wrap ((i : Int) + 1 + 1) = (i : Int) + 1 + 1 := by rw [IntKind.wrap_i64]; omega
          have hwj : IntKind.i64.wrap ((i : Int) + 1 - 1) = (i : Int) := by rw [IntKind.wrap_i64]; omega
          obtain ⟨a9, c9, e9, hcell, -, -⟩ := own_slice HO2.out
          injection e9 with e91 _ e93
          subst e91 e93
          obtain ⟨g, eg, hg1⟩ := hcell i _ (pvs_get (by rw [HML.out]; omega))
          obtain ⟨g', eg', hg2⟩ := hcell (i + 1) _ (pvs_get (by rw [HML.out]; omega))
          rw [eg] at eg'
          injection eg' with eg'
          injection eg' with eg' _ _
          subst eg'
          subst eg
          have m1 : M.getD i 0 < l.length := by
            have : M.getD i 0 ∈ M := by rw [List.getD_eq_getElem?_getD, List.getElem?_eq_getElem (by rw [HML.out]; omega)]; exact List.getElem_mem _
            rw [HN.out]
            exact (mem_plK.1 (HP.out.1.symm.mem_iff.1 this)).1
          have m2 : M.getD (i + 1) 0 < l.length := by
            have : M.getD (i + 1) 0 ∈ M := by rw [List.getD_eq_getElem?_getD, List.getElem?_eq_getElem (by rw [HML.out]; omega)]; exact List.getElem_mem _
            rw [HN.out]
            exact (mem_plK.1 (HP.out.1.symm.mem_iff.1 this)).1
          have HNX : Hid (ptOf l (M.getD i 0) ≠ ptOf l (M.getD (i + 1) 0) → ∀ j, j + 1 < i + 1 + 1 → ptOf l (M.getD j 0) ≠ ptOf l (M.getD (j + 1) 0)) := fun h j hj => by
            by_cases e : j = i
            · subst e; exact h
            · exact HNE.out j (by omega)
          have HNO : Hid (ptOf l (M.getD i 0) = ptOf l (M.getD (i + 1) 0) → ¬ MayL l) := fun h => ord_no (by rw [HN.out]; exact HP.out.1) (by rw [HML.out]; omega) h
          have kw3 := K02.trans kr3
          obtain ⟨b, off, ea, hc1⟩ := HL.out _ m1
          obtain ⟨b', off', ea', hc2⟩ := HL.out _ m2
          rw [ea] at ea'
          injection ea' with ea'
          injection ea' with eb eo _
          subst eb eo ea
          have p1 : ∀ u : KS wr, u.1.cell? ⟨b, off + M.getD i 0 * 8 + 6, none⟩ = some (.int .i64 (ptOf l (M.getD i 0))) := ks_cell (kw3.cell (hc1 6 _ rfl) (fun e => e))
          have p2 : ∀ u : KS wr, u.1.cell? ⟨b, off + M.getD (i + 1) 0 * 8 + 6, none⟩ = some (.int .i64 (ptOf l (M.getD (i + 1) 0))) := ks_cell (kw3.cell (hc2 6 _ rfl) (fun e => e))
          have p3 : ∀ u : KS wr, u.1.cell? ⟨g, i, none⟩ = some (.int .i64 ((M.getD i 0 : Nat) : Int)) := ks_cell (kr3.cell hg1 (fun e => e))
          have p4 : ∀ u : KS wr, u.1.cell? ⟨g, i + 1, none⟩ = some (.int .i64 ((M.getD (i + 1) 0 : Nat) : Int)) := ks_cell (kr3.cell hg2 (fun e => e))
          have p5 : ∀ u : KS wr, u.1.cell? ⟨w.heap.size, 0, none⟩ = some (.slice (some ⟨b, off, none⟩) k cap) := ks_cell (kr3.cell hbx2 (fun e => e))
          rw [HN.out] at m1 m2
          clear hc1 hc2 hg1 hg2 hcell
          generalize ptOf l (M.getD i 0) = x1 at *
          generalize ptOf l (M.getD (i + 1) 0) = x2 at *
          generalize M.getD i 0 = q1 at *
          generalize M.getD (i + 1) 0 = q2 at *
          have n1 : (q1 : Int) < (k : Int) := by omega
          have n2 : (q2 : Int) < (k : Int) := by omega
          haveI : Nonempty (KS wr) := ⟨⟨wr, Keeps.refl _ _⟩⟩
          go_wp2_with fail
          refine wp_region_ks (by kernel_rfl) (by kernel_rfl) ?_
          (repeat (first | go_big_quiet_skip | go_big_quiet_step (fail)))
          refine wpQuiet_nil ?_
          rintro _ ⟨u, rfl⟩
          have ku := kr3.trans u.property
          generalize u.val = wu at *
          by_cases hx : x1 = x2
          · have s1 : (x1 == x2) = true := by simp [hx]
            have HNM : Hid (¬ MayL l) := HNO.out hx
            clear hx HNO HNX
            go_wp2
            go_ret2
            exact ⟨_, _, rfl, .inr ⟨rfl, HNM.out, rfl⟩, K02.trans ku⟩
          · have s1 : (x1 == x2) = false := by simp [hx]
            have HX : Hid (∀ j, j + 1 < i + 1 + 1 → ptOf l (M.getD j 0) ≠ ptOf l (M.getD (j + 1) 0)) := HNX.out hx
            clear hx HNO HNX
            go_wp2
            go_roundw
            case rel => exact ⟨i + 1, by go_num, .inl (by omega), HX.out, ku⟩
            case measure => simp [intOf]; omega
        · have j1 : decide ((i : Int) + 1 < (m : Int)) = false := decide_eq_false (by omega)
          have j2 : decide (i + 1 < m) = false := decide_eq_false hlt
          have HR : Hid (MayL l ∧ M = byP l k) := by
            obtain ⟨q1, q2⟩ := ord_ok (l := l) (M := M) (by rw [HN.out]; exact HAL.out) (by rw [HN.out]; exact HP.out.1) HP.out.2 (fun j hj => by
              rw [HML.out] at hj
              exact HNE.out j (by omega))
            rw [HN.out] at q2
            exact ⟨q1, q2⟩
          go_wp2_with fail
          go_ret2
          refine ⟨_, _, rfl, .inl ⟨rfl, HR.out.1, ?_⟩, K02.trans kr3⟩
          rw [HN.out, ← HR.out.2, HML.out]
          exact kr3.owns (owns_low HO2.out (by omega)) (fun _ _ e => e)
end Go.Proofs.Ytgcfckbmmdajhaa
