import Derived.Test.YtagplkgjdaojnaaTabOr
namespace Go.Proofs.Ytagplkgjdaojnaa
open Go.RowKit
attribute [local go_sem] Oper.semAt_some

set_option maxHeartbeats 6400000 in
set_option maxRecDepth 1000000 in
theorem order_walk {w : World} {a0 : Option Addr} {l : List Ac} (hl : AL w a0 l) (hok : ∀ q ∈ l, q.ok) (_hb : l.length ≤ 9223372036854775807) (cap0 : Nat) :
    Calls Try.prog 5 #[.slice a0 l.length cap0] w fun e w' => e = .returned (.bool true) ∧ Below w.heap.size w w' := by
  go_enter Try.func5, Try.ntmps5
  go_wp2_with fail
  refine (new_any _).mono ?_
  rintro e w1 ⟨rfl, h1, k1⟩
  have hb1 : ∀ k, (⟨w.heap.size, .slice none 0 0, none, .slice none 0 0⟩ : Tk).Blk k → w.heap.size ≤ k := fun k e => by
    rcases e with e | e | e | e
    · simp only at e; omega
    · cases e
    · cases e
    · cases e
  go_wp2_with fail
  go_loopw [4] (fun iv W => ∃ (i : Nat) (rs : List Rd) (T : Tk), iv = .int .i64 (i : Int) ∧ i ≤ 200 ∧ rs.length ≤ i ∧ T.tb = w.heap.size ∧ TV W T rs ∧ (∀ k, T.Blk k → w.heap.size ≤ k) ∧ Keeps (fun _ => False) w W) (fun iv _ => 200 - (intOf iv).toNat)
  case atStart => exact ⟨0, [], _, rfl, by omega, by simp, rfl, h1, hb1, k1⟩
  case round =>
    clear h1 k1 hb1
    obtain ⟨i, rs, T, rfl, hi2, hNi, htb, hT, hB, hK⟩ := hrel
    by_cases hgo : i < l.length ∧ i < 200
    · have hltI : (i : Int) < (l.length : Int) := by omega
      have h2I : (i : Int) < 200 := by omega
      have hi0 : (0 : Int) ≤ (i : Int) := by omega
      have hl3 := hl.keep hK (fun _ _ e => e)
      obtain ⟨b0, off, rfl, hb0, hc0⟩ := hl3.some (by omega)
      obtain ⟨d0, d1, d2, d3⟩ := hc0 i hgo.1
      have hq := hok (aa l i) (by unfold aa; rw [List.getD_eq_getElem?_getD, List.getElem?_eq_getElem hgo.1]; exact List.getElem_mem _)
      generalize aa l i = q at *
      obtain ⟨kd, who, ob, ver⟩ := q
      obtain ⟨qk, qw, qo, qv⟩ := hq
      simp only at d0 d1 d2 d3 qk qo qv
      have C := fun ob' => step_any (kind := kd) (hT.new ((Keeps.refl (fun _ => False) wr).alloc ob')) qo qv (by omega)
      rw [htb] at C
      have hTl : Hid (∀ k, T.Blk k → k < wr.heap.size) := fun k hk => hT.lt hk
      clear hc0 hl3 hT
      go_wp2_with fail
      refine (C _).mono ?_
      rintro e w5 ⟨rs', n, er, T', rfl, hS, hT', hL'⟩
      clear C
      have nX : ¬ T.Blk wr.heap.size := fun e => by have := hTl.out _ e; omega
      have x0 := hL'.kp.cell (p := ⟨wr.heap.size, 0, none⟩) (v := .int .i64 kd) (by simp) nX
      have x2 := hL'.kp.cell (p := ⟨wr.heap.size, 2, none⟩) (v := .int .i64 ob) (by simp) nX
      have x3 := hL'.kp.cell (p := ⟨wr.heap.size, 3, none⟩) (v := .int .i64 ver) (by simp) nX
      have htb' : T'.tb = w.heap.size := hL'.tb.trans htb
      have K5 : Keeps (fun _ => False) w w5 := (hK.alloc _).trans' hL'.kp (fun _ _ e => e) (fun k hk e => by have := hB k e; omega)
      have hsz := hK.size
      have hB5 : ∀ k, T'.Blk k → w.heap.size ≤ k := fun k hk => by
        rcases hL'.bk k hk with x | x
        · exact hB k x
        · simp at x; omega
      have hlen := hS.len
      have hN9 : rs'.length ≤ 201 := by omega
      have hNi' : rs'.length ≤ i + 1 := by omega
      have C2 := entries_any hT' (by omega)
      rw [htb'] at C2
      have hkd : Hid (kd = 2 → es rs' ≠ []) := fun e h0 => by
        cases hS with
        | held _ hh =>
          have := (hld_pl hT'.gd ob).1 hh
          rw [h0] at this
          cases this
        | adds _ hh => rw [es_add] at h0; simp at h0
        | none hk => exact hk e
        | out j f r hk => exact hk e
      have hlast : Hid (kd = 2 → er = 0 → ∃ m, rs'.length = m + 1 ∧ ∃ A, es rs' = A ++ [⟨ob, ver, m⟩]) := fun e e0 => by
        cases hS with
        | held _ hh => cases e0
        | adds _ hh => exact ⟨rs.length, by simp [add], es rs, es_add rs ob ver⟩
        | none hk => exact absurd e hk
        | out j f r hk => exact absurd e hk
      clear hL' hB hK hTl hS
      go_wp2_with fail
      refine C2.mono ?_
      rintro e w6 ⟨v6, rfl, ho6, k6⟩
      clear C2
      have K6 := K5.trans k6
      have hT6 := hT'.new k6
      have y0 := k6.cell x0 (fun e => e)
      have y2 := k6.cell x2 (fun e => e)
      have y3 := k6.cell x3 (fun e => e)
      have ho6' := owns_base ho6
      obtain ⟨a6, c6, rfl, -⟩ := owns_form ho6
      obtain ⟨L, hL⟩ : ∃ L, Hid (L = (es rs').length) := ⟨_, rfl⟩
      obtain ⟨N, hN⟩ : ∃ N, Hid (N = rs'.length) := ⟨_, rfl⟩
      have hLN : (L : Int) ≤ (N : Int) := by have := es_len rs'; rw [hL.out, hN.out]; omega
      have hLNb : decide ((N : Int) < (L : Int)) = false := by simp; omega
      have CL := fun W (K : Keeps (fun _ => False) w6 W) => len_any (hT6.new K)
      have CA := fun W (K : Keeps (fun _ => False) w6 W) => added_any (hT6.new K)
      have CO := fun W (K : Keeps (fun _ => False) w6 W) => ordered_any (hT6.new K) hL.out (K.owns (hL.out ▸ ho6') (fun _ _ e => e)) (by omega)
      rw [htb', ← hL.out] at CL
      rw [htb', ← hN.out] at CA
      rw [htb'] at CO
      rw [← hL.out] at ho6' ⊢
      have HT6 : Hid (TV w6 T' rs') := hT6
      have hrf := Keeps.refl (fun _ => False) w6
      clear hT' hT6 ho6 x0 x2 x3 k6 K5
      by_cases k2 : kd = 2
      · have hne := hkd.out k2
        obtain ⟨L', hL'⟩ : ∃ L', L = L' + 1 := ⟨L - 1, by have : 0 < (es rs').length := List.length_pos_iff.2 hne; have := hL.out; omega⟩
        subst hL'
        have hLb : (((L' + 1 : Nat) : Int) == 0) = false := by simp; omega
        have hLb2 : ((L' : Int) + 1 == 0) = false := by simp; omega
        have hLb3 : decide ((N : Int) < (L' : Int) + 1) = false := by simp; omega
        have hLb4 : decide ((N : Int) ≤ (L' : Int)) = false := by simp; omega
        have hLb5 : ¬ (N : Int) < (L' : Int) + 1 := by omega
        by_cases e0 : er = 0
        · obtain ⟨m, hm1, A, hA⟩ := hlast.out k2 e0
          obtain ⟨g6, rfl⟩ : ∃ g, a6 = some ⟨g, 0, none⟩ := by
            rcases ho6'.2 with ⟨_, z⟩ | ⟨g, cp, cur, z, _⟩
            · omega
            · cases z; exact ⟨g, rfl⟩
          have hlA : L' = A.length := by have := hL.out; rw [hA] at this; simp at this; omega
          have hge : (es rs')[L']? = some ⟨ob, ver, m⟩ := by rw [hA, hlA]; simp
          obtain ⟨t0, t1, t2⟩ := owns_en ho6' rfl hge
          simp only at t0 t1 t2
          have hNm : Hid (N = m + 1) := by show _ = _; rw [hN.out, hm1]
          have hNm1 : (N : Int) - 1 = (m : Int) := by have := hNm.out; omega
          have hL0 : (0 : Int) ≤ (L' : Int) := by omega
          have hL1 : (L' : Int) < (L' : Int) + 1 := by omega
          have hL2 : (L' : Int) + 1 - 1 = (L' : Int) := by omega
          have hbo : (ob != ob) = false := by simp
          have hbv : (ver != ver) = false := by simp
          have hbm : ((m : Int) != (m : Int)) = false := by simp
          subst k2 e0
          have hN200 : (N : Int) ≤ 201 := by have := hN.out; omega
          have hL200 : (L' : Int) + 1 ≤ 201 := by omega
          clear hlast hkd hge hA hm1 hne hlA
          go_wp2_with fail
          refine (CL _ hrf).mono ?_
          rintro e w7 ⟨rfl, hw7⟩
          have k7 : Keeps (fun _ => False) w6 w7 := by rw [hw7]; exact hrf
          clear hw7
          go_wp2_with fail
          refine (CL _ k7).mono ?_
          rintro e w8 ⟨rfl, hw8⟩
          have k8 : Keeps (fun _ => False) w6 w8 := by rw [hw8]; exact k7
          clear hw8 k7
          go_wp2_with fail
          refine (CA _ k8).mono ?_
          rintro e w9 ⟨rfl, hw9⟩
          have k9 : Keeps (fun _ => False) w6 w9 := by rw [hw9]; exact k8
          clear hw9 k8
          have z0 := k9.cell y0 (fun e => e)
          have z2 := k9.cell y2 (fun e => e)
          have z3 := k9.cell y3 (fun e => e)
          have T0 := ks_cell (k9.cell t0 (fun e => e))
          have T1 := ks_cell (k9.cell t1 (fun e => e))
          have T2 := ks_cell (k9.cell t2 (fun e => e))
          have Z0 := ks_cell z0
          have Z2 := ks_cell z2
          have Z3 := ks_cell z3
          have hNE : Nonempty (KS w9) := ⟨⟨w9, Keeps.refl _ w9⟩⟩
          have CA' := fun U : KS w9 => CA _ (k9.trans U.property)
          go_wp2_with fail
          refine wp_region_ks (by kernel_rfl) (by kernel_rfl) ?_
          repeat (go_big_quiet_step ((go_at_call 13; refine (CA' _).mono ?_; rintro e w10 ⟨rfl, rfl⟩; exact ⟨rfl, _, rfl⟩)))
          refine wpQuiet_nil ?_
          rintro _ ⟨U, rfl⟩
          have kU := k9.trans U.property
          have KU := K6.trans kU
          go_wp2_with fail
          refine (CO _ kU).mono ?_
          rintro e w11 ⟨rfl, k11⟩
          go_wp2_with fail
          go_roundw
          case rel => exact ⟨i + 1, rs', T', by go_num, by omega, hNi', htb', HT6.out.new (kU.trans k11), hB5, KU.trans k11⟩
          case measure => simp [intOf]; omega
        · have e0b : (er == 0) = false := by simpa using e0
          subst k2
          clear hlast hkd hne e0
          go_wp2_with fail
          refine (CL _ hrf).mono ?_
          rintro e w7 ⟨rfl, hw7⟩
          have k7 : Keeps (fun _ => False) w6 w7 := by rw [hw7]; exact hrf
          clear hw7
          go_wp2_with fail
          refine (CL _ k7).mono ?_
          rintro e w8 ⟨rfl, hw8⟩
          have k8 : Keeps (fun _ => False) w6 w8 := by rw [hw8]; exact k7
          clear hw8 k7
          go_wp2_with fail
          refine (CA _ k8).mono ?_
          rintro e w9 ⟨rfl, hw9⟩
          have k9 : Keeps (fun _ => False) w6 w9 := by rw [hw9]; exact k8
          clear hw9 k8
          have z0 := k9.cell y0 (fun e => e)
          have z2 := k9.cell y2 (fun e => e)
          have z3 := k9.cell y3 (fun e => e)
          have Z0 := ks_cell z0
          have Z2 := ks_cell z2
          have Z3 := ks_cell z3
          have hNE : Nonempty (KS w9) := ⟨⟨w9, Keeps.refl _ w9⟩⟩
          go_wp2_with fail
          refine wp_region_ks (by kernel_rfl) (by kernel_rfl) ?_
          repeat (go_big_quiet_step (fail))
          refine wpQuiet_nil ?_
          rintro _ ⟨U, rfl⟩
          have kU := k9.trans U.property
          have KU := K6.trans kU
          go_wp2_with fail
          refine (CO _ kU).mono ?_
          rintro e w11 ⟨rfl, k11⟩
          go_wp2_with fail
          go_roundw
          case rel => exact ⟨i + 1, rs', T', by go_num, by omega, hNi', htb', HT6.out.new (kU.trans k11), hB5, KU.trans k11⟩
          case measure => simp [intOf]; omega
      · have k2b : (kd == 2) = false := by simpa using k2
        clear hlast hkd k2
        go_wp2_with fail
        refine (CL _ hrf).mono ?_
        rintro e w7 ⟨rfl, hw7⟩
        have k7 : Keeps (fun _ => False) w6 w7 := by rw [hw7]; exact hrf
        clear hw7
        go_wp2_with fail
        refine (CL _ k7).mono ?_
        rintro e w8 ⟨rfl, hw8⟩
        have k8 : Keeps (fun _ => False) w6 w8 := by rw [hw8]; exact k7
        clear hw8 k7
        go_wp2_with fail
        refine (CA _ k8).mono ?_
        rintro e w9 ⟨rfl, hw9⟩
        have k9 : Keeps (fun _ => False) w6 w9 := by rw [hw9]; exact k8
        clear hw9 k8
        have z0 := k9.cell y0 (fun e => e)
        have z2 := k9.cell y2 (fun e => e)
        have z3 := k9.cell y3 (fun e => e)
        have Z0 := ks_cell z0
        have Z2 := ks_cell z2
        have Z3 := ks_cell z3
        have hNE : Nonempty (KS w9) := ⟨⟨w9, Keeps.refl _ w9⟩⟩
        go_wp2_with fail
        refine wp_region_ks (by kernel_rfl) (by kernel_rfl) ?_
        repeat (go_big_quiet_step (fail))
        refine wpQuiet_nil ?_
        rintro _ ⟨U, rfl⟩
        have kU := k9.trans U.property
        have KU := K6.trans kU
        go_wp2_with fail
        refine (CO _ kU).mono ?_
        rintro e w11 ⟨rfl, k11⟩
        go_wp2_with fail
        go_roundw
        case rel => exact ⟨i + 1, rs', T', by go_num, by omega, hNi', htb', HT6.out.new (kU.trans k11), hB5, KU.trans k11⟩
        case measure => simp [intOf]; omega
    · by_cases h1 : i < l.length
      · have hltI : (i : Int) < (l.length : Int) := by omega
        have h2I : ¬ (i : Int) < 200 := by omega
        have hi9 : rs.length ≤ 4398046511200 := by omega
        obtain ⟨N, hN⟩ : ∃ N, Hid (N = rs.length) := ⟨_, rfl⟩
        have hN2 : N ≤ 200 := by rw [hN.out]; omega
        rcases hld_dec rs 1099511627776 with hh | hh
        · have C := add_no hT 6 (ob := 1099511627776) (by constructor <;> decide) hh
          rw [htb] at C
          clear hT hh
          go_wp2_with fail
          refine C.mono ?_
          rintro e w5 ⟨rfl, hw5⟩
          have K5 : Keeps (fun _ => False) w w5 := by rw [hw5]; exact hK
          clear C hw5 hK
          go_wp2_with fail
          go_ret
          exact ⟨rfl, K5.below (Nat.le_refl _) (fun _ _ e => e)⟩
        · have C := add_ok hT (ob := 1099511627776) (ver := 6) (by constructor <;> decide) (by constructor <;> decide) hh hi9
          rw [htb, ← hN.out] at C
          clear hT hh
          go_wp2_with fail
          refine C.mono ?_
          rintro e w5 ⟨rfl, T', hT', hL'⟩
          clear C
          have C2 := added_any hT'
          rw [hL'.tb, htb, add_len, ← hN.out] at C2
          have K5 : Keeps (fun _ => False) w w5 := hK.trans' hL'.kp (fun _ _ e => e) (fun k hk e => by have := hB k e; omega)
          clear hT' hL'
          have hNb : ((N : Int) == ((N + 1 : Nat) : Int) - 1) = true := by simp
          go_wp2_with fail
          refine C2.mono ?_
          rintro e w6 ⟨rfl, hw6⟩
          have K6 : Keeps (fun _ => False) w w6 := by rw [hw6]; exact K5
          clear C2 hw6 K5
          go_wp2_with fail
          go_ret
          exact ⟨rfl, K6.below (Nat.le_refl _) (fun _ _ e => e)⟩
      · have hltI : ¬ (i : Int) < (l.length : Int) := by omega
        have hi9 : rs.length ≤ 4398046511200 := by omega
        obtain ⟨N, hN⟩ : ∃ N, Hid (N = rs.length) := ⟨_, rfl⟩
        have hN2 : N ≤ 200 := by rw [hN.out]; omega
        rcases hld_dec rs 1099511627776 with hh | hh
        · have C := add_no hT 6 (ob := 1099511627776) (by constructor <;> decide) hh
          rw [htb] at C
          clear hT hh
          go_wp2_with fail
          refine C.mono ?_
          rintro e w5 ⟨rfl, hw5⟩
          have K5 : Keeps (fun _ => False) w w5 := by rw [hw5]; exact hK
          clear C hw5 hK
          go_wp2_with fail
          go_ret
          exact ⟨rfl, K5.below (Nat.le_refl _) (fun _ _ e => e)⟩
        · have C := add_ok hT (ob := 1099511627776) (ver := 6) (by constructor <;> decide) (by constructor <;> decide) hh hi9
          rw [htb, ← hN.out] at C
          clear hT hh
          go_wp2_with fail
          refine C.mono ?_
          rintro e w5 ⟨rfl, T', hT', hL'⟩
          clear C
          have C2 := added_any hT'
          rw [hL'.tb, htb, add_len, ← hN.out] at C2
          have K5 : Keeps (fun _ => False) w w5 := hK.trans' hL'.kp (fun _ _ e => e) (fun k hk e => by have := hB k e; omega)
          clear hT' hL'
          have hNb : ((N : Int) == ((N + 1 : Nat) : Int) - 1) = true := by simp
          go_wp2_with fail
          refine C2.mono ?_
          rintro e w6 ⟨rfl, hw6⟩
          have K6 : Keeps (fun _ => False) w w6 := by rw [hw6]; exact K5
          clear C2 hw6 K5
          go_wp2_with fail
          go_ret
          exact ⟨rfl, K6.below (Nat.le_refl _) (fun _ _ e => e)⟩
end Go.Proofs.Ytagplkgjdaojnaa
