import Derived.Test.YtagplkgjdaojnaaTabFt
namespace Go.Proofs.Ytagplkgjdaojnaa
open Go.RowKit
attribute [local go_sem] Oper.semAt_some

theorem set_same {l : List Value} {m : Nat} {u : Value} (h : l[m]? = some u) : l.set m u = l := by
  obtain ⟨hm, e⟩ := List.getElem?_eq_some_iff.1 h
  subst e
  simp
theorem Ft.start {w w1 : World} {T : Tk} (h : TV w1 T []) (k : Keeps (fun _ => False) w w1) (hT : ∀ i, T.Blk i → w.heap.size ≤ i) : Ft w w1 T [] (sel (.slice none 0 0) (.slice none 0 0) (.slice none 0 0)) (sel [] [] []) := by
  have hs : ∀ i, i < 3 → sel (Value.slice none 0 0) (.slice none 0 0) (.slice none 0 0) i = .slice none 0 0 := fun i hi => by
    rcases (by omega : i = 0 ∨ i = 1 ∨ i = 2) with rfl | rfl | rfl <;> rfl
  have hs' : ∀ i, i < 3 → sel ([] : List Value) [] [] i = [] := fun i hi => by
    rcases (by omega : i = 0 ∨ i = 1 ∨ i = 2) with rfl | rfl | rfl <;> rfl
  refine ⟨h, fun i hi => ?_, fun i j g hi hj e => ?_, fun i g hi e => ?_, fun g e => ?_, k⟩
  · rw [hs i hi, hs' i hi]; exact World.ownsRow_nil _ _ _ _
  · rw [hs i hi] at e; cases e
  · rw [hs i hi] at e; cases e
  · rcases e with e | ⟨i, hi, e⟩
    · exact hT g e
    · rw [hs i hi] at e; cases e
theorem Ft.form {w W : World} {T : Tk} {rs : List Rd} {v : Nat → Value} {l : Nat → List Value} (h : Ft w W T rs v l) {i n : Nat} (hi : i < 3) {a : Option Addr} {c : Nat} (hv : v i = .slice a n c) (hl : (l i).length = n) {j : Nat} {u : Value} (hj : (l i)[j]? = some u) : ∃ g, a = some ⟨g, 0, none⟩ ∧ W.cell? ⟨g, j, none⟩ = some u ∧ W.frozen? ⟨g, j, none⟩ = false := by
  have ho := h.r i hi
  rw [hv, hl] at ho
  rcases ho.2 with ⟨e, e0⟩ | ⟨g, cap, cur, e, _⟩
  · subst e0
    rw [List.length_eq_zero_iff.1 hl] at hj
    simp at hj
  · cases e
    exact ⟨g, rfl, owns_cell ho rfl hj, ho.frozenAt j⟩

set_option maxHeartbeats 6400000 in
set_option maxRecDepth 1000000 in
theorem fates_walk {w : World} {a0 : Option Addr} {l : List Ac} (hl : AL w a0 l) (hok : ∀ q ∈ l, q.ok) (_hb : l.length ≤ 9223372036854775807) (cap0 : Nat) :
    Calls Try.prog 4 #[.slice a0 l.length cap0] w fun e w' => e = .returned (.bool true) ∧ Below w.heap.size w w' := by
  go_enter Try.func4, Try.ntmps4
  go_wp2_with fail
  refine (new_any _).mono ?_
  rintro e w1 ⟨rfl, h1, k1⟩
  have F1 := Ft.start h1 k1 (fun i e => by
    rcases e with e | e | e | e
    · simp only at e; omega
    · cases e
    · cases e
    · cases e)
  clear h1 k1
  go_wp2_with fail
  go_loopw [4, 5, 6, 7] (fun va vb vc iv W => ∃ (i : Nat) (rs : List Rd) (T : Tk) (a4 a5 a6 : Option Addr) (c4 c5 c6 : Nat), va = .slice a4 rs.length c4 ∧ vb = .slice a5 rs.length c5 ∧ vc = .slice a6 rs.length c6 ∧ iv = .int .i64 (i : Int) ∧ i ≤ 200 ∧ rs.length ≤ i ∧ T.tb = w.heap.size ∧ Ft w W T rs (sel (.slice a4 rs.length c4) (.slice a5 rs.length c5) (.slice a6 rs.length c6)) (sel (obs rs) (vers rs) (fcells rs))) (fun _ _ _ iv _ => 200 - (intOf iv).toNat)
  case atStart => exact ⟨0, [], _, none, none, none, 0, 0, 0, rfl, rfl, rfl, rfl, by omega, by simp, rfl, F1⟩
  case round =>
    obtain ⟨i, rs, T, a4, a5, a6, c4, c5, c6, rfl, rfl, rfl, rfl, hi2, hNi, htb, hF⟩ := hrel
    clear F1
    obtain ⟨N, hN⟩ : ∃ N, Hid (N = rs.length) := ⟨_, rfl⟩
    rw [← hN.out] at hF hNi ⊢
    by_cases hgo : i < l.length ∧ i < 200
    · have hltI : (i : Int) < (l.length : Int) := by omega
      have h2I : (i : Int) < 200 := by omega
      have hi0 : (0 : Int) ≤ (i : Int) := by omega
      have hl3 := hl.keep hF.kp (fun _ _ e => e)
      obtain ⟨b0, off, rfl, hb0, hc0⟩ := hl3.some (by omega)
      obtain ⟨d0, d1, d2, d3⟩ := hc0 i hgo.1
      have hq := hok (aa l i) (by unfold aa; rw [List.getD_eq_getElem?_getD, List.getElem?_eq_getElem hgo.1]; exact List.getElem_mem _)
      generalize aa l i = q at *
      obtain ⟨kd, who, ob, ver⟩ := q
      obtain ⟨qk, qw, qo, qv⟩ := hq
      simp only at d0 d1 d2 d3 qk qo qv
      clear hc0 hl3
      go_wp2_with fail
      obtain ⟨wo, rfl⟩ : ∃ wo, wo = wr := ⟨_, rfl⟩
      obtain ⟨W1, hW1⟩ : ∃ W1, Hid (W1 = wo.alloc (.cells #[.int .i64 kd, .int .i64 who, .int .i64 ob, .int .i64 ver] 34)) := ⟨_, rfl⟩
      rw [← hW1.out]
      have kW1 : Keeps (fun _ => False) wo W1 := by rw [hW1.out]; exact (Keeps.refl _ wo).alloc _
      have x0 : W1.cell? ⟨wo.heap.size, 0, none⟩ = some (.int .i64 kd) := by rw [hW1.out]; simp
      have x2 : W1.cell? ⟨wo.heap.size, 2, none⟩ = some (.int .i64 ob) := by rw [hW1.out]; simp
      have x3 : W1.cell? ⟨wo.heap.size, 3, none⟩ = some (.int .i64 ver) := by rw [hW1.out]; simp
      have hF1 := hF.new kW1
      have hN9 : N ≤ 200 := by omega
      have hop : Hid (∀ k, (T.Blk k ∨ ∃ a, a < 3 ∧ (sel (Value.slice a4 N c4) (.slice a5 N c5) (.slice a6 N c6) a).ownBlock = some k) → k < wo.heap.size) := fun k hk => hF.lt hk
      clear hW1 kW1 hF d0 d1 d2 d3
      go_loopw [9, 10] (fun av jv W => ∃ j : Nat, jv = .int .i64 (j : Int) ∧ av = .int .i64 (lh rs ob j) ∧ j ≤ N ∧ Keeps (fun _ => False) W1 W) (fun _ jv _ => N - (intOf jv).toNat)
      case atStart => exact ⟨0, rfl, rfl, Nat.zero_le _, Keeps.refl _ _⟩
      case round =>
        obtain ⟨j, rfl, rfl, hjN, kJ⟩ := hrel
        have hj0 : (0 : Int) ≤ (j : Int) := by omega
        by_cases hj : j < N
        · have hjI : (j : Int) < (N : Int) := by omega
          have hjr : j < rs.length := by rw [← hN.out]; exact hj
          obtain ⟨r, hr⟩ : ∃ r, Hid (rs[j]? = some r) := ⟨rs[j]'hjr, by show _ = _; simp⟩
          have hF2 := hF1.new kJ
          obtain ⟨g4, rfl, e4, _⟩ := hF2.form (i := 0) (by omega) rfl (by rw [hN.out]; simp [sel, obs]) (j := j) (u := .int .i64 r.ob) (by simp [sel, obs, hr.out])
          obtain ⟨g6, rfl, e6, _⟩ := hF2.form (i := 2) (by omega) rfl (by rw [hN.out]; simp [sel, fcells]) (j := j) (u := .int .i64 (r.fate : Int)) (by simp [sel, fcells, hr.out])
          have X2 := ks_cell (kJ.cell x2 (fun e => e))
          have E4 := ks_cell e4
          have E6 := ks_cell e6
          have hNE : Nonempty (KS wr) := ⟨⟨wr, Keeps.refl _ wr⟩⟩
          obtain ⟨LH, hLH⟩ : ∃ LH, Hid (LH = lh rs ob j) := ⟨_, rfl⟩
          rw [← hLH.out]
          have hrd : Hid (rs.getD j ⟨0, 0, 0⟩ = r) := by show _ = _; rw [List.getD_eq_getElem?_getD, hr.out]; rfl
          obtain ⟨fr, hfr⟩ : ∃ fr, Hid (fr = r.fate) := ⟨_, rfl⟩
          obtain ⟨obr, hobr⟩ : ∃ obr, Hid (obr = r.ob) := ⟨_, rfl⟩
          rw [← hobr.out] at E4
          rw [← hfr.out] at E6
          clear hF2 e4 e6 hF1 x0 x2 x3 hr htb
          by_cases c1 : obr = ob
          · have b1 : (obr == ob) = true := by simpa using c1
            by_cases c2 : fr = 1
            · have b2 : ((fr : Int) == 1) = true := by simp [c2]
              have HJ : Hid (lh rs ob (j + 1) = (j : Int)) := by show _ = _; simp only [lh]; rw [hrd.out, ← hobr.out, ← hfr.out, if_pos ⟨c1, c2⟩]
              clear c1 c2
              go_wp2_with fail
              refine wp_region_ks (by kernel_rfl) (by kernel_rfl) ?_
              repeat (go_big_quiet_step (fail))
              refine wpQuiet_nil ?_
              rintro _ ⟨U, rfl⟩
              go_wp2_with fail
              go_roundw
              case rel => exact ⟨j + 1, by go_num, by rw [HJ.out], by omega, kJ.trans U.property⟩
              case measure => simp [intOf]; omega
            · have b2 : ((fr : Int) == 1) = false := by simp; omega
              have HJ : Hid (lh rs ob (j + 1) = LH) := by show _ = _; simp only [lh]; rw [hrd.out, ← hobr.out, ← hfr.out, if_neg (fun e => c2 e.2), hLH.out]
              clear c1 c2
              go_wp2_with fail
              refine wp_region_ks (by kernel_rfl) (by kernel_rfl) ?_
              repeat (go_big_quiet_step (fail))
              refine wpQuiet_nil ?_
              rintro _ ⟨U, rfl⟩
              go_wp2_with fail
              go_roundw
              case rel => exact ⟨j + 1, by go_num, by rw [HJ.out], by omega, kJ.trans U.property⟩
              case measure => simp [intOf]; omega
          · have b1 : (obr == ob) = false := by simpa using c1
            have HJ : Hid (lh rs ob (j + 1) = LH) := by show _ = _; simp only [lh]; rw [hrd.out, ← hobr.out, ← hfr.out, if_neg (fun e => c1 e.1), hLH.out]
            clear c1
            go_wp2_with fail
            refine wp_region_ks (by kernel_rfl) (by kernel_rfl) ?_
            repeat (go_big_quiet_step (fail))
            refine wpQuiet_nil ?_
            rintro _ ⟨U, rfl⟩
            go_wp2_with fail
            go_roundw
            case rel => exact ⟨j + 1, by go_num, by rw [HJ.out], by omega, kJ.trans U.property⟩
            case measure => simp [intOf]; omega
        · rw [show j = N by omega]
          have hF2 := hF1.new kJ
          have y0 := kJ.cell x0 (fun e => e)
          have y2 := kJ.cell x2 (fun e => e)
          have y3 := kJ.cell x3 (fun e => e)
          have hsz : wo.heap.size < wr.heap.size := World.block_lt_of_cell? _ _ y0
          clear x0 x2 x3 hF1 kJ hj hj0 hjN
          have hnn : rs.length ≤ 4398046511200 := by rw [← hN.out]; omega
          have htv := hF2.tv
          have qk2 := hF2.kp.size
          rcases hld_dec rs ob with hh | hh
          · obtain ⟨m, r, m1, m2, m3⟩ := hh
            subst m3
            have hmN : m < N := by rw [hN.out]; exact (List.getElem?_eq_some_iff.1 m1).1
            have hlh : lh rs r.ob N = (m : Int) := by rw [lh_some htv.gd m1 m2 N (by rw [hN.out]; exact Nat.le_refl _), if_pos hmN]
            rw [hlh]
            clear hlh
            have hm0 : (0 : Int) ≤ (m : Int) := by omega
            have hmn : ¬ (m : Int) < 0 := by omega
            by_cases k2 : kd = 2
            · subst k2
              have C := add_no htv ver qo ⟨m, r, m1, m2, rfl⟩
              rw [htb] at C
              have HF2 : Hid (Ft w wr T rs (sel (.slice a4 N c4) (.slice a5 N c5) (.slice a6 N c6)) (sel (obs rs) (vers rs) (fcells rs))) := hF2
              clear hF2 htv m1 m2
              obtain ⟨ob, hob⟩ : ∃ ob, ob = r.ob := ⟨_, rfl⟩
              rw [← hob] at y2 C
              clear hob
              go_wp2_with fail
              refine C.mono ?_
              rintro e w5 ⟨rfl, rfl⟩
              clear C
              go_wp2_with fail
              go_roundw
              case rel => exact ⟨i + 1, rs, T, a4, a5, a6, c4, c5, c6, by rw [← hN.out], by rw [← hN.out], by rw [← hN.out], by go_num, by omega, by rw [← hN.out]; omega, htb, by rw [← hN.out]; exact HF2.out⟩
              case measure => simp [intOf]; omega
            · have k2b : (kd == 2) = false := by simpa using k2
              by_cases k6 : kd = 6
              · have k6b : (kd == 6) = true := by simpa using k6
                clear k2 k6
                have C := fun ob' => upgrade_ok (htv.new ((Keeps.refl (fun _ => False) wr).alloc ob')) m1 m2 hnn
                rw [htb] at C
                unfold ev Rd.en at C
                simp only at C
                have HF2 : Hid (Ft w wr T rs (sel (.slice a4 N c4) (.slice a5 N c5) (.slice a6 N c6)) (sel (obs rs) (vers rs) (fcells rs))) := hF2
                have y0a := fun ob' => ((Keeps.refl (fun _ => False) wr).alloc ob').cell y0 (fun e => e)
                have y2a := fun ob' => ((Keeps.refl (fun _ => False) wr).alloc ob').cell y2 (fun e => e)
                have htvk : Hid (∀ k, T.Blk k → k < wr.heap.size) := fun k hk => htv.lt hk
                have HM1 : Hid (rs[m]? = some r) := m1
                have hmI : (m : Int) < (N : Int) := by omega
                clear hF2 htv m1 m2
                obtain ⟨ob, hob⟩ : ∃ ob, Hid (ob = r.ob) := ⟨_, rfl⟩
                obtain ⟨rv, hrv⟩ : ∃ rv, Hid (rv = r.ver) := ⟨_, rfl⟩
                rw [← hob.out] at y2 y2a
                simp only [← hob.out, ← hrv.out] at C
                go_wp2_with fail
                refine (C _).mono ?_
                rintro e w5 ⟨rfl, T', hT', hL'⟩
                clear C
                have nX : ¬ T.Blk wr.heap.size := fun e => by have := htvk.out _ e; omega
                have X0 := hL'.kp.cell (p := ⟨wr.heap.size, 0, none⟩) (v := .int .i64 0) (by simp) nX
                have X1 := hL'.kp.cell (p := ⟨wr.heap.size, 1, none⟩) (v := .int .i64 0) (by simp) nX
                have X2 := hL'.kp.cell (p := ⟨wr.heap.size, 2, none⟩) (v := .int .i64 0) (by simp) nX
                have Z0 := (hL'.kp.frozen (p := ⟨wr.heap.size, 0, none⟩) (by simp) nX).trans (show _ = false by simp)
                have Z1 := (hL'.kp.frozen (p := ⟨wr.heap.size, 1, none⟩) (by simp) nX).trans (show _ = false by simp)
                have Z2 := (hL'.kp.frozen (p := ⟨wr.heap.size, 2, none⟩) (by simp) nX).trans (show _ = false by simp)
                have hF3 := (HF2.out.new ((Keeps.refl (fun _ => False) wr).alloc _)).call hT' hL'
                have nO : ¬ T.Blk wo.heap.size := fun e => by have := hop.out _ (.inl e); omega
                have z2 := hL'.kp.cell (y2a _) nO
                have htb' : Hid (T'.tb = w.heap.size) := hL'.tb.trans htb
                have hbk : Hid (∀ k, T'.Blk k → k ≠ wr.heap.size) := fun k hk e => by
                  rcases hL'.bk k hk with x | x
                  · exact nX (e ▸ x)
                  · simp at x; omega
                have sz5 : wr.heap.size < w5.heap.size := World.block_lt_of_cell? _ _ X0
                obtain ⟨W7, hW7⟩ : ∃ W7, Hid (W7 = ((w5.setCell ⟨wr.heap.size, 0, none⟩ (.int .i64 ob)).setCell ⟨wr.heap.size, 1, none⟩ (.int .i64 rv)).setCell ⟨wr.heap.size, 2, none⟩ (.int .i64 (m : Int))) := ⟨_, rfl⟩
                have k7 : Keeps (fun k => k = wr.heap.size) w5 W7 := by rw [hW7.out]; exact ((keeps_set w5 wr.heap.size 0 _).trans (keeps_set _ wr.heap.size 1 _)).trans (keeps_set _ wr.heap.size 2 _)
                have hF7 := hF3.keep k7 (fun k hk e => by
                  rcases hk with hk | ⟨a, ha, hk⟩
                  · exact hbk.out k hk e
                  · have := hop.out k (.inr ⟨a, ha, hk⟩); omega) (fun k hk e => by omega)
                have u2 := k7.cell z2 (fun e => by simp only at e; omega)
                have u0 : W7.cell? ⟨wr.heap.size, 0, none⟩ = some (.int .i64 ob) := by rw [hW7.out]; go_simp
                have u1 : W7.cell? ⟨wr.heap.size, 1, none⟩ = some (.int .i64 rv) := by rw [hW7.out]; go_simp
                have u3 : W7.cell? ⟨wr.heap.size, 2, none⟩ = some (.int .i64 (m : Int)) := by rw [hW7.out]; go_simp
                obtain ⟨g5, rfl, e5, _⟩ := hF7.form (i := 1) (by omega) rfl (by rw [hN.out]; simp [sel, vers]) (j := m) (u := .int .i64 rv) (by simp [sel, vers, HM1.out, hrv.out])
                obtain ⟨g6, rfl, e6, zf6⟩ := hF7.form (i := 2) (by omega) rfl (by rw [hN.out]; simp [sel, fcells]) (j := m) (u := .int .i64 (r.fate : Int)) (by simp [sel, fcells, HM1.out])
                have HF7 : Hid (Ft w W7 T' (rs.set m (r.to 3)) (sel (.slice a4 N c4) (.slice (some ⟨g5, 0, none⟩) N c5) (.slice (some ⟨g6, 0, none⟩) N c6)) (sel (obs rs) (vers rs) (fcells rs))) := hF7
                have hbo : (ob != ob) = false := by simp
                have hbv : (rv != rv) = false := by simp
                have hbm : ((m : Int) != (m : Int)) = false := by simp
                clear hF3 hF7 hT' hL' z2 y0 y2 y3 y0a y2a k7
                go_wp2_with fail
                rw [← hW7.out]
                have E5 := ks_cell e5
                have U0 := ks_cell u0
                have U1 := ks_cell u1
                have U2 := ks_cell u2
                have U3 := ks_cell u3
                have hNE : Nonempty (KS W7) := ⟨⟨W7, Keeps.refl _ W7⟩⟩
                refine wp_region_ks (by kernel_rfl) (by kernel_rfl) ?_
                repeat (go_big_quiet_step (fail))
                refine wpQuiet_nil ?_
                rintro _ ⟨U, rfl⟩
                have HF8 : Hid (Ft w U.val T' (rs.set m (r.to 3)) (sel (.slice a4 N c4) (.slice (some ⟨g5, 0, none⟩) N c5) (.slice (some ⟨g6, 0, none⟩) N c6)) (sel (obs rs) (vers rs) (fcells rs))) := HF7.out.new U.property
                have e6' := U.property.cell e6 (fun e => e)
                have zf6' := (U.property.frozen (p := ⟨g6, m, none⟩) (World.block_lt_of_cell? _ _ e6) (fun e => e)).trans zf6
                clear E5 U0 U1 U2 U3 hNE HF7 e6 zf6 u0 u1 u2 u3 e5
                generalize U.val = W8 at *
                have HF9 : Hid (Ft w (W8.setCell ⟨g6, m, none⟩ (.int .i64 3)) T' (rs.set m (r.to 3)) (sel (.slice a4 N c4) (.slice (some ⟨g5, 0, none⟩) N c5) (.slice (some ⟨g6, 0, none⟩) N c6)) (sel (obs (rs.set m (r.to 3))) (vers (rs.set m (r.to 3))) (fcells (rs.set m (r.to 3))))) := (HF8.out.set (i := 2) (by omega) rfl (by rw [hN.out]; simp [sel, fcells]) m (.int .i64 3)).congr (fun a ha => rfl) (fun a ha => by
                  have hob2 : obs (rs.set m (r.to 3)) = obs rs := by
                    unfold obs; rw [List.map_set]; exact set_same (by simp [HM1.out, Rd.to])
                  have hve2 : vers (rs.set m (r.to 3)) = vers rs := by
                    unfold vers; rw [List.map_set]; exact set_same (by simp [HM1.out, Rd.to])
                  rcases (by omega : a = 0 ∨ a = 1 ∨ a = 2) with rfl | rfl | rfl
                  · exact hob2.symm
                  · exact hve2.symm
                  · simp [put, sel, fcells, List.map_set, Rd.to])
                have hN1 : Hid (N = (rs.set m (r.to 3)).length) := by show _ = _; rw [List.length_set, hN.out]
                clear HF8
                go_wp2_with fail
                go_roundw
                case rel => exact ⟨i + 1, rs.set m (r.to 3), T', a4, some ⟨g5, 0, none⟩, some ⟨g6, 0, none⟩, c4, c5, c6, by rw [← hN1.out], by rw [← hN1.out], by rw [← hN1.out], by go_num, by omega, by rw [← hN1.out]; omega, htb'.out, by rw [← hN1.out]; exact HF9.out⟩
                case measure => simp [intOf]; omega
              · have k6b : (kd == 6) = false := by simpa using k6
                clear k2 k6
                have C := fun ob' => release_ok (htv.new ((Keeps.refl (fun _ => False) wr).alloc ob')) m1 m2 hnn
                rw [htb] at C
                unfold ev Rd.en at C
                simp only at C
                have HF2 : Hid (Ft w wr T rs (sel (.slice a4 N c4) (.slice a5 N c5) (.slice a6 N c6)) (sel (obs rs) (vers rs) (fcells rs))) := hF2
                have y0a := fun ob' => ((Keeps.refl (fun _ => False) wr).alloc ob').cell y0 (fun e => e)
                have y2a := fun ob' => ((Keeps.refl (fun _ => False) wr).alloc ob').cell y2 (fun e => e)
                have htvk : Hid (∀ k, T.Blk k → k < wr.heap.size) := fun k hk => htv.lt hk
                have HM1 : Hid (rs[m]? = some r) := m1
                have hmI : (m : Int) < (N : Int) := by omega
                clear hF2 htv m1 m2
                obtain ⟨ob, hob⟩ : ∃ ob, Hid (ob = r.ob) := ⟨_, rfl⟩
                obtain ⟨rv, hrv⟩ : ∃ rv, Hid (rv = r.ver) := ⟨_, rfl⟩
                rw [← hob.out] at y2 y2a
                simp only [← hob.out, ← hrv.out] at C
                go_wp2_with fail
                refine (C _).mono ?_
                rintro e w5 ⟨rfl, T', hT', hL'⟩
                clear C
                have nX : ¬ T.Blk wr.heap.size := fun e => by have := htvk.out _ e; omega
                have X0 := hL'.kp.cell (p := ⟨wr.heap.size, 0, none⟩) (v := .int .i64 0) (by simp) nX
                have X1 := hL'.kp.cell (p := ⟨wr.heap.size, 1, none⟩) (v := .int .i64 0) (by simp) nX
                have X2 := hL'.kp.cell (p := ⟨wr.heap.size, 2, none⟩) (v := .int .i64 0) (by simp) nX
                have Z0 := (hL'.kp.frozen (p := ⟨wr.heap.size, 0, none⟩) (by simp) nX).trans (show _ = false by simp)
                have Z1 := (hL'.kp.frozen (p := ⟨wr.heap.size, 1, none⟩) (by simp) nX).trans (show _ = false by simp)
                have Z2 := (hL'.kp.frozen (p := ⟨wr.heap.size, 2, none⟩) (by simp) nX).trans (show _ = false by simp)
                have hF3 := (HF2.out.new ((Keeps.refl (fun _ => False) wr).alloc _)).call hT' hL'
                have nO : ¬ T.Blk wo.heap.size := fun e => by have := hop.out _ (.inl e); omega
                have z2 := hL'.kp.cell (y2a _) nO
                have htb' : Hid (T'.tb = w.heap.size) := hL'.tb.trans htb
                have hbk : Hid (∀ k, T'.Blk k → k ≠ wr.heap.size) := fun k hk e => by
                  rcases hL'.bk k hk with x | x
                  · exact nX (e ▸ x)
                  · simp at x; omega
                have sz5 : wr.heap.size < w5.heap.size := World.block_lt_of_cell? _ _ X0
                obtain ⟨W7, hW7⟩ : ∃ W7, Hid (W7 = ((w5.setCell ⟨wr.heap.size, 0, none⟩ (.int .i64 ob)).setCell ⟨wr.heap.size, 1, none⟩ (.int .i64 rv)).setCell ⟨wr.heap.size, 2, none⟩ (.int .i64 (m : Int))) := ⟨_, rfl⟩
                have k7 : Keeps (fun k => k = wr.heap.size) w5 W7 := by rw [hW7.out]; exact ((keeps_set w5 wr.heap.size 0 _).trans (keeps_set _ wr.heap.size 1 _)).trans (keeps_set _ wr.heap.size 2 _)
                have hF7 := hF3.keep k7 (fun k hk e => by
                  rcases hk with hk | ⟨a, ha, hk⟩
                  · exact hbk.out k hk e
                  · have := hop.out k (.inr ⟨a, ha, hk⟩); omega) (fun k hk e => by omega)
                have u2 := k7.cell z2 (fun e => by simp only at e; omega)
                have u0 : W7.cell? ⟨wr.heap.size, 0, none⟩ = some (.int .i64 ob) := by rw [hW7.out]; go_simp
                have u1 : W7.cell? ⟨wr.heap.size, 1, none⟩ = some (.int .i64 rv) := by rw [hW7.out]; go_simp
                have u3 : W7.cell? ⟨wr.heap.size, 2, none⟩ = some (.int .i64 (m : Int)) := by rw [hW7.out]; go_simp
                obtain ⟨g5, rfl, e5, _⟩ := hF7.form (i := 1) (by omega) rfl (by rw [hN.out]; simp [sel, vers]) (j := m) (u := .int .i64 rv) (by simp [sel, vers, HM1.out, hrv.out])
                obtain ⟨g6, rfl, e6, zf6⟩ := hF7.form (i := 2) (by omega) rfl (by rw [hN.out]; simp [sel, fcells]) (j := m) (u := .int .i64 (r.fate : Int)) (by simp [sel, fcells, HM1.out])
                have HF7 : Hid (Ft w W7 T' (rs.set m (r.to 2)) (sel (.slice a4 N c4) (.slice (some ⟨g5, 0, none⟩) N c5) (.slice (some ⟨g6, 0, none⟩) N c6)) (sel (obs rs) (vers rs) (fcells rs))) := hF7
                have hbo : (ob != ob) = false := by simp
                have hbv : (rv != rv) = false := by simp
                have hbm : ((m : Int) != (m : Int)) = false := by simp
                clear hF3 hF7 hT' hL' z2 y0 y2 y3 y0a y2a k7
                go_wp2_with fail
                rw [← hW7.out]
                have E5 := ks_cell e5
                have U0 := ks_cell u0
                have U1 := ks_cell u1
                have U2 := ks_cell u2
                have U3 := ks_cell u3
                have hNE : Nonempty (KS W7) := ⟨⟨W7, Keeps.refl _ W7⟩⟩
                refine wp_region_ks (by kernel_rfl) (by kernel_rfl) ?_
                repeat (go_big_quiet_step (fail))
                refine wpQuiet_nil ?_
                rintro _ ⟨U, rfl⟩
                have HF8 : Hid (Ft w U.val T' (rs.set m (r.to 2)) (sel (.slice a4 N c4) (.slice (some ⟨g5, 0, none⟩) N c5) (.slice (some ⟨g6, 0, none⟩) N c6)) (sel (obs rs) (vers rs) (fcells rs))) := HF7.out.new U.property
                have e6' := U.property.cell e6 (fun e => e)
                have zf6' := (U.property.frozen (p := ⟨g6, m, none⟩) (World.block_lt_of_cell? _ _ e6) (fun e => e)).trans zf6
                clear E5 U0 U1 U2 U3 hNE HF7 e6 zf6 u0 u1 u2 u3 e5
                generalize U.val = W8 at *
                have HF9 : Hid (Ft w (W8.setCell ⟨g6, m, none⟩ (.int .i64 2)) T' (rs.set m (r.to 2)) (sel (.slice a4 N c4) (.slice (some ⟨g5, 0, none⟩) N c5) (.slice (some ⟨g6, 0, none⟩) N c6)) (sel (obs (rs.set m (r.to 2))) (vers (rs.set m (r.to 2))) (fcells (rs.set m (r.to 2))))) := (HF8.out.set (i := 2) (by omega) rfl (by rw [hN.out]; simp [sel, fcells]) m (.int .i64 2)).congr (fun a ha => rfl) (fun a ha => by
                  have hob2 : obs (rs.set m (r.to 2)) = obs rs := by
                    unfold obs; rw [List.map_set]; exact set_same (by simp [HM1.out, Rd.to])
                  have hve2 : vers (rs.set m (r.to 2)) = vers rs := by
                    unfold vers; rw [List.map_set]; exact set_same (by simp [HM1.out, Rd.to])
                  rcases (by omega : a = 0 ∨ a = 1 ∨ a = 2) with rfl | rfl | rfl
                  · exact hob2.symm
                  · exact hve2.symm
                  · simp [put, sel, fcells, List.map_set, Rd.to])
                have hN1 : Hid (N = (rs.set m (r.to 2)).length) := by show _ = _; rw [List.length_set, hN.out]
                clear HF8
                go_wp2_with fail
                go_roundw
                case rel => exact ⟨i + 1, rs.set m (r.to 2), T', a4, some ⟨g5, 0, none⟩, some ⟨g6, 0, none⟩, c4, c5, c6, by rw [← hN1.out], by rw [← hN1.out], by rw [← hN1.out], by go_num, by omega, by rw [← hN1.out]; omega, htb'.out, by rw [← hN1.out]; exact HF9.out⟩
                case measure => simp [intOf]; omega
          · rw [lh_none hh N (by rw [hN.out]; exact Nat.le_refl _)]
            by_cases k2 : kd = 2
            · subst k2
              have C := add_ok htv qo qv hh hnn
              rw [htb, ← hN.out] at C
              have HF2 : Hid (Ft w wr T rs (sel (.slice a4 N c4) (.slice a5 N c5) (.slice a6 N c6)) (sel (obs rs) (vers rs) (fcells rs))) := hF2
              clear hF2 htv hh
              go_wp2_with fail
              refine C.mono ?_
              rintro e w5 ⟨rfl, T', hT', hL'⟩
              clear C
              have hF3 := HF2.out.call hT' hL'
              have z2 := hL'.kp.cell y2 (fun e => by have := hop.out _ (.inl e); simp only at this; omega)
              have z3 := hL'.kp.cell y3 (fun e => by have := hop.out _ (.inl e); simp only at this; omega)
              have htb' : Hid (T'.tb = w.heap.size) := hL'.tb.trans htb
              clear HF2 hT' hL' y0 y2 y3
              obtain ⟨a4', c4', W6, r6, hF6, k6⟩ := hF3.app' (i := 0) (n := N) (by omega) rfl (by rw [hN.out]; simp [sel, obs]) (by omega) ob
              have q3 := k6.cell z3 (fun e => by have := hop.out _ (.inr ⟨0, by omega, e⟩); simp only at this; omega)
              obtain ⟨a5', c5', W7, r7, hF7, k7⟩ := hF6.app' (i := 1) (n := N) (by omega) (vi := .slice a5 N c5) rfl (by rw [hN.out]; simp [put, sel, vers]) (by omega) ver
              obtain ⟨a6', c6', W8, r8, hF8, k8⟩ := hF7.app' (i := 2) (n := N) (by omega) (vi := .slice a6 N c6) rfl (by rw [hN.out]; simp [put, sel, fcells]) (by omega) 1
              have HF8 : Hid (Ft w W8 T' (add rs ob ver) (sel (.slice a4' (N + 1) c4') (.slice a5' (N + 1) c5') (.slice a6' (N + 1) c6')) (sel (obs (add rs ob ver)) (vers (add rs ob ver)) (fcells (add rs ob ver)))) := hF8.congr (fun a ha => by rcases (by omega : a = 0 ∨ a = 1 ∨ a = 2) with rfl | rfl | rfl <;> rfl) (fun a ha => by rcases (by omega : a = 0 ∨ a = 1 ∨ a = 2) with rfl | rfl | rfl <;> simp [put, sel, obs, vers, fcells, add])
              have hN1 : Hid (N + 1 = (add rs ob ver).length) := by show _ = _; rw [add_len, hN.out]
              clear hF3 hF6 hF7 hF8 k6 k7 k8
              go_wp2_with (first | (at_builtin; refine wpList_append_run rfl _ _ _ rfl _ _ (.slice a4' (N + 1) c4') W6 rfl rfl r6 ?_; clear r6) | (at_builtin; refine wpList_append_run rfl _ _ _ rfl _ _ (.slice a5' (N + 1) c5') W7 rfl rfl r7 ?_; clear r7) | (at_builtin; refine wpList_append_run rfl _ _ _ rfl _ _ (.slice a6' (N + 1) c6') W8 rfl rfl r8 ?_; clear r8))
              go_roundw
              case rel => exact ⟨i + 1, add rs ob ver, T', a4', a5', a6', c4', c5', c6', by rw [← hN1.out], by rw [← hN1.out], by rw [← hN1.out], by go_num, by omega, by rw [← hN1.out]; omega, htb'.out, by rw [← hN1.out]; exact HF8.out⟩
              case measure => simp [intOf]; omega
            · have k2b : (kd == 2) = false := by simpa using k2
              by_cases k6 : kd = 6
              · have k6b : (kd == 6) = true := by simpa using k6
                clear k2 k6
                have C := fun ob' => upgrade_no (htv.new ((Keeps.refl (fun _ => False) wr).alloc ob')) qo hh
                rw [htb] at C
                unfold ev0 at C
                have HF2 : Hid (Ft w wr T rs (sel (.slice a4 N c4) (.slice a5 N c5) (.slice a6 N c6)) (sel (obs rs) (vers rs) (fcells rs))) := hF2
                have y0a := fun ob' => ((Keeps.refl (fun _ => False) wr).alloc ob').cell y0 (fun e => e)
                have y2a := fun ob' => ((Keeps.refl (fun _ => False) wr).alloc ob').cell y2 (fun e => e)
                clear hF2 htv hh
                go_wp2_with fail
                refine (C _).mono ?_
                rintro e w5 ⟨rfl, k5⟩
                clear C
                have X0 := k5.cell (p := ⟨wr.heap.size, 0, none⟩) (v := .int .i64 0) (by simp) (fun e => e)
                have X1 := k5.cell (p := ⟨wr.heap.size, 1, none⟩) (v := .int .i64 0) (by simp) (fun e => e)
                have X2 := k5.cell (p := ⟨wr.heap.size, 2, none⟩) (v := .int .i64 0) (by simp) (fun e => e)
                have Z0 := (k5.frozen (p := ⟨wr.heap.size, 0, none⟩) (by simp) (fun e => e)).trans (show _ = false by simp)
                have Z1 := (k5.frozen (p := ⟨wr.heap.size, 1, none⟩) (by simp) (fun e => e)).trans (show _ = false by simp)
                have Z2 := (k5.frozen (p := ⟨wr.heap.size, 2, none⟩) (by simp) (fun e => e)).trans (show _ = false by simp)
                have HK5 : Hid (Keeps (fun _ => False) wr w5) := ((Keeps.refl (fun _ => False) wr).alloc _).trans k5
                clear k5
                have HW6 : Hid (Ft w (((w5.setCell ⟨wr.heap.size, 0, none⟩ (.int .i64 0)).setCell ⟨wr.heap.size, 1, none⟩ (.int .i64 0)).setCell ⟨wr.heap.size, 2, none⟩ (.int .i64 0)) T rs (sel (.slice a4 N c4) (.slice a5 N c5) (.slice a6 N c6)) (sel (obs rs) (vers rs) (fcells rs))) := (HF2.out.new HK5.out).keep (((keeps_set w5 wr.heap.size 0 _).trans (keeps_set _ wr.heap.size 1 _)).trans (keeps_set _ wr.heap.size 2 _)) (fun k hk e => by have := hop.out k hk; omega) (fun k hk e => by omega)
                go_wp2_with fail
                go_roundw
                case rel => exact ⟨i + 1, rs, T, a4, a5, a6, c4, c5, c6, by rw [← hN.out], by rw [← hN.out], by rw [← hN.out], by go_num, by omega, by rw [← hN.out]; omega, htb, by rw [← hN.out]; exact HW6.out⟩
                case measure => simp [intOf]; omega
              · have k6b : (kd == 6) = false := by simpa using k6
                clear k2 k6
                have C := fun ob' => release_no (htv.new ((Keeps.refl (fun _ => False) wr).alloc ob')) qo hh
                rw [htb] at C
                unfold ev0 at C
                have HF2 : Hid (Ft w wr T rs (sel (.slice a4 N c4) (.slice a5 N c5) (.slice a6 N c6)) (sel (obs rs) (vers rs) (fcells rs))) := hF2
                have y0a := fun ob' => ((Keeps.refl (fun _ => False) wr).alloc ob').cell y0 (fun e => e)
                have y2a := fun ob' => ((Keeps.refl (fun _ => False) wr).alloc ob').cell y2 (fun e => e)
                clear hF2 htv hh
                go_wp2_with fail
                refine (C _).mono ?_
                rintro e w5 ⟨rfl, k5⟩
                clear C
                have X0 := k5.cell (p := ⟨wr.heap.size, 0, none⟩) (v := .int .i64 0) (by simp) (fun e => e)
                have X1 := k5.cell (p := ⟨wr.heap.size, 1, none⟩) (v := .int .i64 0) (by simp) (fun e => e)
                have X2 := k5.cell (p := ⟨wr.heap.size, 2, none⟩) (v := .int .i64 0) (by simp) (fun e => e)
                have Z0 := (k5.frozen (p := ⟨wr.heap.size, 0, none⟩) (by simp) (fun e => e)).trans (show _ = false by simp)
                have Z1 := (k5.frozen (p := ⟨wr.heap.size, 1, none⟩) (by simp) (fun e => e)).trans (show _ = false by simp)
                have Z2 := (k5.frozen (p := ⟨wr.heap.size, 2, none⟩) (by simp) (fun e => e)).trans (show _ = false by simp)
                have HK5 : Hid (Keeps (fun _ => False) wr w5) := ((Keeps.refl (fun _ => False) wr).alloc _).trans k5
                clear k5
                have HW6 : Hid (Ft w (((w5.setCell ⟨wr.heap.size, 0, none⟩ (.int .i64 0)).setCell ⟨wr.heap.size, 1, none⟩ (.int .i64 0)).setCell ⟨wr.heap.size, 2, none⟩ (.int .i64 0)) T rs (sel (.slice a4 N c4) (.slice a5 N c5) (.slice a6 N c6)) (sel (obs rs) (vers rs) (fcells rs))) := (HF2.out.new HK5.out).keep (((keeps_set w5 wr.heap.size 0 _).trans (keeps_set _ wr.heap.size 1 _)).trans (keeps_set _ wr.heap.size 2 _)) (fun k hk e => by have := hop.out k hk; omega) (fun k hk e => by omega)
                go_wp2_with fail
                go_roundw
                case rel => exact ⟨i + 1, rs, T, a4, a5, a6, c4, c5, c6, by rw [← hN.out], by rw [← hN.out], by rw [← hN.out], by go_num, by omega, by rw [← hN.out]; omega, htb, by rw [← hN.out]; exact HW6.out⟩
                case measure => simp [intOf]; omega
    · by_cases h1 : i < l.length
      · have hltI : (i : Int) < (l.length : Int) := by omega
        have h2I : ¬ (i : Int) < 200 := by omega
        go_wp2_with fail
        obtain ⟨wo, rfl⟩ : ∃ wo, wo = wr := ⟨_, rfl⟩
        go_loopw [16] (fun jv W => ∃ j : Nat, jv = .int .i64 (j : Int) ∧ j ≤ N ∧ Ft w W T rs (sel (.slice a4 N c4) (.slice a5 N c5) (.slice a6 N c6)) (sel (obs rs) (vers rs) (fcells rs))) (fun jv _ => N - (intOf jv).toNat)
        case atStart => exact ⟨0, rfl, Nat.zero_le _, hF⟩
        case round =>
          clear hF
          obtain ⟨j, rfl, hjN, hF⟩ := hrel
          have hj0 : (0 : Int) ≤ (j : Int) := by omega
          have hnn : rs.length ≤ 4398046511200 := by rw [← hN.out]; omega
          by_cases hj : j < N
          · have hjI : (j : Int) < (N : Int) := by omega
            have hjr : j < rs.length := by rw [← hN.out]; exact hj
            obtain ⟨r, hr⟩ : ∃ r, Hid (rs[j]? = some r) := ⟨rs[j]'hjr, by show _ = _; simp⟩
            have C := fateOf_any hF.tv (j : Int)
            have ef : fto rs (j : Int) = ((r.fate : Int), 0) := by unfold fto; rw [if_neg (by omega)]; simp [hr.out]
            rw [ef, htb] at C
            simp only at C
            obtain ⟨g6, rfl, e6, _⟩ := hF.form (i := 2) (by omega) rfl (by rw [hN.out]; simp [sel, fcells]) (j := j) (u := .int .i64 (r.fate : Int)) (by simp [sel, fcells, hr.out])
            have HF : Hid (Ft w wr T rs (sel (.slice a4 N c4) (.slice a5 N c5) (.slice (some ⟨g6, 0, none⟩) N c6)) (sel (obs rs) (vers rs) (fcells rs))) := hF
            clear hF ef hr
            obtain ⟨fr, hfr⟩ : ∃ fr : Int, fr = (r.fate : Int) := ⟨_, rfl⟩
            rw [← hfr] at C e6
            clear hfr
            have hbf : (fr != fr) = false := by simp
            go_wp2_with fail
            refine C.mono ?_
            rintro e w5 ⟨rfl, rfl⟩
            clear C
            go_wp2_with fail
            go_roundw
            case rel => exact ⟨j + 1, by go_num, by omega, HF.out⟩
            case measure => simp [intOf]; omega
          · rw [show j = N by omega]
            have hkp := hF.kp
            have hlo : Hid (∀ k, T.Blk k → w.heap.size ≤ k) := fun k hk => hF.lo k (.inl hk)
            rcases hld_dec rs 7 with hh | hh
            · have C := add_no hF.tv 7 (by constructor <;> decide) hh
              have C2 := added_any hF.tv
              rw [htb] at C C2
              rw [← hN.out] at C2
              clear hF hh
              go_wp2_with fail
              refine C.mono ?_
              rintro e w5 ⟨rfl, rfl⟩
              clear C
              go_wp2_with fail
              refine C2.mono ?_
              rintro e w6 ⟨rfl, rfl⟩
              clear C2
              go_wp2_with fail
              go_ret
              exact ⟨rfl, hkp.below (Nat.le_refl _) (fun _ _ e => e)⟩
            · have C := add_ok hF.tv (ob := 7) (ver := 7) (by constructor <;> decide) (by constructor <;> decide) hh hnn
              rw [htb, ← hN.out] at C
              clear hF hh
              go_wp2_with fail
              refine C.mono ?_
              rintro e w5 ⟨rfl, T', hT', hL'⟩
              clear C
              have C2 := added_any hT'
              rw [hL'.tb, htb, add_len, ← hN.out] at C2
              have hk5 : Keeps (fun _ => False) w w5 := hkp.trans' hL'.kp (fun _ _ e => e) (fun k hk e => by have := hlo.out k e; omega)
              clear hT' hL'
              have hge : (N : Int) ≤ ((N + 1 : Nat) : Int) := by omega
              have hgb : decide ((N : Int) ≤ ((N + 1 : Nat) : Int)) = true := by simpa using hge
              go_wp2_with fail
              refine C2.mono ?_
              rintro e w6 ⟨rfl, rfl⟩
              clear C2
              go_wp2_with fail
              go_ret
              exact ⟨rfl, hk5.below (Nat.le_refl _) (fun _ _ e => e)⟩
      · have hltI : ¬ (i : Int) < (l.length : Int) := by omega
        go_wp2_with fail
        obtain ⟨wo, rfl⟩ : ∃ wo, wo = wr := ⟨_, rfl⟩
        go_loopw [16] (fun jv W => ∃ j : Nat, jv = .int .i64 (j : Int) ∧ j ≤ N ∧ Ft w W T rs (sel (.slice a4 N c4) (.slice a5 N c5) (.slice a6 N c6)) (sel (obs rs) (vers rs) (fcells rs))) (fun jv _ => N - (intOf jv).toNat)
        case atStart => exact ⟨0, rfl, Nat.zero_le _, hF⟩
        case round =>
          clear hF
          obtain ⟨j, rfl, hjN, hF⟩ := hrel
          have hj0 : (0 : Int) ≤ (j : Int) := by omega
          have hnn : rs.length ≤ 4398046511200 := by rw [← hN.out]; omega
          by_cases hj : j < N
          · have hjI : (j : Int) < (N : Int) := by omega
            have hjr : j < rs.length := by rw [← hN.out]; exact hj
            obtain ⟨r, hr⟩ : ∃ r, Hid (rs[j]? = some r) := ⟨rs[j]'hjr, by show _ = _; simp⟩
            have C := fateOf_any hF.tv (j : Int)
            have ef : fto rs (j : Int) = ((r.fate : Int), 0) := by unfold fto; rw [if_neg (by omega)]; simp [hr.out]
            rw [ef, htb] at C
            simp only at C
            obtain ⟨g6, rfl, e6, _⟩ := hF.form (i := 2) (by omega) rfl (by rw [hN.out]; simp [sel, fcells]) (j := j) (u := .int .i64 (r.fate : Int)) (by simp [sel, fcells, hr.out])
            have HF : Hid (Ft w wr T rs (sel (.slice a4 N c4) (.slice a5 N c5) (.slice (some ⟨g6, 0, none⟩) N c6)) (sel (obs rs) (vers rs) (fcells rs))) := hF
            clear hF ef hr
            obtain ⟨fr, hfr⟩ : ∃ fr : Int, fr = (r.fate : Int) := ⟨_, rfl⟩
            rw [← hfr] at C e6
            clear hfr
            have hbf : (fr != fr) = false := by simp
            go_wp2_with fail
            refine C.mono ?_
            rintro e w5 ⟨rfl, rfl⟩
            clear C
            go_wp2_with fail
            go_roundw
            case rel => exact ⟨j + 1, by go_num, by omega, HF.out⟩
            case measure => simp [intOf]; omega
          · rw [show j = N by omega]
            have hkp := hF.kp
            have hlo : Hid (∀ k, T.Blk k → w.heap.size ≤ k) := fun k hk => hF.lo k (.inl hk)
            rcases hld_dec rs 7 with hh | hh
            · have C := add_no hF.tv 7 (by constructor <;> decide) hh
              have C2 := added_any hF.tv
              rw [htb] at C C2
              rw [← hN.out] at C2
              clear hF hh
              go_wp2_with fail
              refine C.mono ?_
              rintro e w5 ⟨rfl, rfl⟩
              clear C
              go_wp2_with fail
              refine C2.mono ?_
              rintro e w6 ⟨rfl, rfl⟩
              clear C2
              go_wp2_with fail
              go_ret
              exact ⟨rfl, hkp.below (Nat.le_refl _) (fun _ _ e => e)⟩
            · have C := add_ok hF.tv (ob := 7) (ver := 7) (by constructor <;> decide) (by constructor <;> decide) hh hnn
              rw [htb, ← hN.out] at C
              clear hF hh
              go_wp2_with fail
              refine C.mono ?_
              rintro e w5 ⟨rfl, T', hT', hL'⟩
              clear C
              have C2 := added_any hT'
              rw [hL'.tb, htb, add_len, ← hN.out] at C2
              have hk5 : Keeps (fun _ => False) w w5 := hkp.trans' hL'.kp (fun _ _ e => e) (fun k hk e => by have := hlo.out k e; omega)
              clear hT' hL'
              have hge : (N : Int) ≤ ((N + 1 : Nat) : Int) := by omega
              have hgb : decide ((N : Int) ≤ ((N + 1 : Nat) : Int)) = true := by simpa using hge
              go_wp2_with fail
              refine C2.mono ?_
              rintro e w6 ⟨rfl, rfl⟩
              clear C2
              go_wp2_with fail
              go_ret
              exact ⟨rfl, hk5.below (Nat.le_refl _) (fun _ _ e => e)⟩
end Go.Proofs.Ytagplkgjdaojnaa
