import Derived.Test.YtclednbclgkdaaaDoorLcA
import Derived.Test.YtclednbclgkdaaaDoorPhJ
namespace Go.Proofs.YtclednbclgkdaaaDoor
open Go.RowKit Go.Deep Go.ChangeShapes Go.WideShapes Go.ChangeAt
attribute [local go_sem] Oper.semAt_some run_store_nf run_store_f
theorem pr_ne {r : Except Flt (List Ins)} (h : (prF r).1 ≠ 0) : r = .error (prF r) ∧ prL r = [] := by
  cases r with
  | ok l => exact absurd rfl h
  | error e => exact ⟨rfl, rfl⟩
/-- How far the law has gone through the text. -/
def CutS (bs : List UInt8) (N k i c up ab : Nat) : Prop := c = (bs.take i).count 10 ∧ up = (if k + 1 ≤ c then nlp (k + 1) bs else N) ∧ ab = (if k ≤ c then abv k bs else 0)
theorem cut_other {bs : List UInt8} {N k i c up ab : Nat} (h : CutS bs N k i c up ab) {b : UInt8} (hb : bs[i]? = some b) (hn : b ≠ 10) : CutS bs N k (i + 1) c up ab := by
  obtain ⟨h1, h2, h3⟩ := h
  refine ⟨?_, h2, h3⟩
  rw [List.take_add_one, hb, List.count_append, h1]
  simp [hn]
theorem cut_nl {bs : List UInt8} {N k i c up ab : Nat} (h : CutS bs N k i c up ab) (hb : bs[i]? = some 10) : CutS bs N k (i + 1) (c + 1) (if c = k then i else up) (if c + 1 = k then i + 1 else ab) ∧ (c = k → up = N) := by
  obtain ⟨h1, h2, h3⟩ := h
  have e1 := nlp_at bs i hb
  have e2 := abv_at bs i hb
  rw [← h1] at e1 e2
  refine ⟨⟨?_, ?_, ?_⟩, fun e => by rw [h2, if_neg (by omega)]⟩
  · rw [List.take_add_one, hb, List.count_append, h1]
    simp
  · by_cases e : c = k
    · subst e
      rw [if_pos rfl, if_pos (Nat.le_refl _), e1]
    · rw [if_neg e, h2]
      by_cases g : k + 1 ≤ c
      · rw [if_pos g, if_pos (by omega)]
      · rw [if_neg g, if_neg (by omega)]
  · by_cases e : c + 1 = k
    · subst e
      rw [if_pos rfl, if_pos (Nat.le_refl _), e2]
    · rw [if_neg e, h3]
      by_cases g : k ≤ c
      · rw [if_pos g, if_pos (by omega)]
      · rw [if_neg g, if_neg (by omega)]
theorem cut_end {bs : List UInt8} {N k c up ab : Nat} (hN : bs.length = N) (hk : k ≤ bs.count 10) (h : CutS bs N k N c up ab) : c = bs.count 10 ∧ up = nlp (k + 1) bs ∧ ab = abv k bs := by
  obtain ⟨h1, h2, h3⟩ := h
  rw [← hN, List.take_length] at h1
  refine ⟨h1, ?_, by rw [h3, if_pos (by omega)]⟩
  rw [h2]
  by_cases g : k + 1 ≤ c
  · rw [if_pos g]
  · rw [if_neg g, nlp_far bs (k + 1) (by omega), hN]
set_option maxHeartbeats 2000000 in
set_option maxRecDepth 1000000 in
theorem cut_any2 {w : World} (hT : PT w) (hNT : NT w) (s : ByteArray) (hs : s.size ≤ 9223372036854775807) : Calls Tryd.prog 3 #[.string s] w fun e w' => e = .returned (.bool true) ∧ Below w.heap.size w w' := by
  have hFx := fixed_ok hT hNT
  have hPa := fun W (k : Keeps (fun _ => False) w W) => parse_all (w := W) s hs (hT.keep k) (hNT.keep k)
  have hPx := fun W (k : Keeps (fun _ => False) w W) (x : ByteArray) (hx : x.size ≤ 9223372036854775807) => parse_all (w := W) x hx (hT.keep k) (hNT.keep k)
  clear hT hNT
  obtain ⟨l, hl⟩ : ∃ l, prL (prsR s) = l := ⟨_, rfl⟩
  obtain ⟨n, hn⟩ : ∃ n, l.length = n := ⟨_, rfl⟩
  rw [hl, hn] at hPa
  obtain ⟨⟨F1, F2, F3⟩, hF⟩ : ∃ F, prF (prsR s) = F := ⟨_, rfl⟩
  rw [hF] at hPa
  simp only at hPa
  have HN : Hid (F1 ≠ 0 → prsR s = .error (F1, F2, F3) ∧ n = 0) := fun h => by
    have := pr_ne (r := prsR s) (by rw [hF]; exact h)
    rw [hF, hl] at this
    refine ⟨this.1, ?_⟩
    rw [← hn, this.2]; rfl
  clear hF hl hn
  go_enter Tryd.func3, Tryd.ntmps3
  refine wp_seq_k (fun KK hKK => ?_)
  have hKH : Hid _ := hKK
  clear hKK
  go_wp2_with fail
  refine hKH.out _ _ ?_
  clear hKH KK
  refine wp_seq_k (fun KK hKK => ?_)
  have hKH : Hid _ := hKK
  clear hKK
  go_wp2_with fail
  refine hFx.mono ?_
  clear hFx
  rintro e w1 ⟨rfl, k1⟩
  have hp2 := hPa w1 k1
  clear hPa
  go_wp2_with fail
  refine hKH.out _ _ ?_
  clear hKH KK
  refine wp_seq_k (fun KK hKK => ?_)
  have hKH : Hid _ := hKK
  clear hKK
  go_wp2_with fail
  refine hp2.mono ?_
  clear hp2
  rintro e w2 ⟨v2, rfl, ho2, k2, hb2⟩
  obtain ⟨ap, cp, rfl⟩ := slice_of_owns ho2
  clear hb2 ho2
  obtain ⟨W3, hW3⟩ : ∃ W3, W3 = w2.alloc (.cells #[.int .i64 F1, .int .i64 F2, .int .i64 F3] 26) := ⟨_, rfl⟩
  have k3 : Keeps (fun _ => False) w2 W3 := by rw [hW3]; exact (Keeps.refl _ w2).alloc _
  have g3 : CL W3 w2.heap.size [.int .i64 F1, .int .i64 F2, .int .i64 F3] := by rw [hW3]; exact CL.made w2 _ _
  have HW3 : Hid (_ = _) := hW3
  clear hW3
  go_wp2_with fail
  refine hKH.out _ _ ?_
  clear hKH KK
  rw [← HW3.out]
  clear HW3
  have K3 := (k1.trans k2).trans k3
  have f0 := g3.c 0 _ rfl
  clear k1 k2 k3
  by_cases h0 : F1 = 0
  · subst h0
    clear g3 hPx HN
    go_wp2_with fail
    go_ret
    exact ⟨rfl, K3.below (Nat.le_refl _) (fun _ _ e => e)⟩
  obtain ⟨hE, rfl⟩ := HN.out h0
  clear HN
  have x0 : (F1 == 0) = false := beq_eq_false_iff_ne.2 h0
  by_cases h100 : F1 = 100
  · subst h100
    clear g3 hPx hE
    go_wp2_with fail
    go_ret
    exact ⟨rfl, K3.below (Nat.le_refl _) (fun _ _ e => e)⟩
  have x1 : (F1 == 100) = false := beq_eq_false_iff_ne.2 h100
  by_cases h107 : F1 = 107
  · subst h107
    clear g3 hPx hE
    go_wp2_with fail
    go_ret
    exact ⟨rfl, K3.below (Nat.le_refl _) (fun _ _ e => e)⟩
  have x2 : (F1 == 107) = false := beq_eq_false_iff_ne.2 h107
  obtain ⟨k, hk, hF2, hup, hab⟩ := cut_main hE h100 h107
  simp only at hF2 hup
  have hs4 : s.size ≤ 4096 := by
    rcases Nat.lt_or_ge 4096 s.size with h | h
    · have e : prsR s = .error (100, 0, 0) := if_pos h
      rw [e] at hE
      injection hE with hE
      injection hE with hE _
      exact absurd hE.symm h100
    · exact h
  obtain ⟨k1, hk1⟩ : ∃ k1, k + 1 = k1 := ⟨_, rfl⟩
  rw [hk1] at hF2 hup
  subst hF2
  have HK1 : Hid (k + 1 = k1) := hk1
  clear hE h0 h100 h107 hk1
  refine wp_seq_k (fun KK hKK => ?_)
  have hKH : Hid _ := hKK
  clear hKK
  go_wp2_with fail
  refine hKH.out _ _ ?_
  clear hKH KK
  clear x0 x1 x2
  obtain ⟨N, hN⟩ : ∃ N, s.size = N := ⟨_, rfl⟩
  obtain ⟨bs, hbs⟩ : ∃ bs, s.data.toList = bs := ⟨_, rfl⟩
  have hbN : bs.length = N := by rw [← hbs, ← hN]; simp
  rw [hbs] at hk hup hab
  have f1 := g3.c 1 _ rfl
  have hN4 : N ≤ 4096 := by omega
  clear hs4
  refine wp_seq_k (fun KK hKK => ?_)
  have hKH : Hid _ := hKK
  clear hKK
  go_wp2_with fail
  refine hKH.out _ _ ?_
  clear hKH KK
  refine wp_seq_k (fun KK hKK => ?_)
  have hKH : Hid _ := hKK
  clear hKK
  go_wp2_with fail
  go_loopw [5, 6, 7, 8] (fun av uv lv iv Wr => ∃ i c1 up ab : Nat, av = .int .i64 (ab : Int) ∧ uv = .int .i64 (up : Int) ∧ lv = .int .i64 (c1 : Int) ∧ iv = .int .i64 (i : Int) ∧ i ≤ N ∧ Hid (∃ c, CutS bs N k i c up ab ∧ c + 1 = c1) ∧ Wr = W3) (fun _ _ _ iv _ => N - (intOf iv).toNat)
  case atStart => exact ⟨0, 1, N, 0, rfl, rfl, rfl, rfl, Nat.zero_le _, ⟨0, ⟨rfl, by rw [if_neg (by omega)], by cases k <;> simp [abv]⟩, rfl⟩, rfl⟩
  case round =>
    obtain ⟨i, c1, up, ab, rfl, rfl, rfl, rfl, hi, HS1, ew⟩ := hrel
    subst wr
    obtain ⟨c, HS0, hc1⟩ := HS1.out
    have HS : Hid (CutS bs N k i c up ab) := HS0
    have HC1 : Hid (c + 1 = c1) := hc1
    clear HS0 HS1
    have hcN : c ≤ N := by
      rw [HS.out.1]
      have := List.count_le_length (a := (10 : UInt8)) (l := bs.take i)
      rw [List.length_take] at this
      omega
    by_cases hlt : i < N
    · have hltI : decide ((i : Int) < (N : Int)) = true := decide_eq_true (by omega)
      have hltJ : (i : Int) < (N : Int) := by omega
      have hi0 : (0 : Int) ≤ (i : Int) := by omega
      have his : i < s.size := by omega
      have hwi : IntKind.i64.wrap ((i : Int) + 1) = (i : Int) + 1 := by rw [IntKind.wrap_i64]; omega
      have hbi : bs[i]? = some s[i] := by rw [← hbs, List.getElem?_eq_getElem (by simpa using his)]; rfl
      by_cases hc : s[i] = 10
      · rw [hc] at hbi
        obtain ⟨HC, hupN⟩ := cut_nl HS.out hbi
        have b0 : (((s[i].toNat : Nat) : Int) != 10) = false := by rw [hc]; rfl
        have hwc : IntKind.i64.wrap ((c1 : Int) + 1) = (c1 : Int) + 1 := by rw [IntKind.wrap_i64]; omega
        have hkk := HK1.out
        by_cases e1 : c = k
        · rw [if_pos e1, if_neg (by omega)] at HC
          have hupN := hupN e1
          have HC2 : Hid (∃ c, CutS bs N k (i + 1) c i ab ∧ c + 1 = c1 + 1) := ⟨c + 1, HC, by omega⟩
          have b1 : ((c1 : Int) == (k1 : Int)) = true := beq_iff_eq.2 (by omega)
          have b2 : ((up : Int) == (N : Int)) = true := beq_iff_eq.2 (by omega)
          have b3 : ((c1 : Int) + 1 == (k1 : Int)) = false := beq_eq_false_iff_ne.2 (by omega)
          clear HC HS e1 hupN hbi hcN hup hab hPx hkk hc1 hk
          go_wp2_with fail
          go_roundw
          case rel => exact ⟨i + 1, c1 + 1, i, ab, rfl, rfl, by go_num, by go_num, by omega, HC2, trivial⟩
          case measure => simp [intOf]; omega
        · have b1 : ((c1 : Int) == (k1 : Int)) = false := beq_eq_false_iff_ne.2 (by omega)
          by_cases e2 : c + 1 = k
          · rw [if_neg e1, if_pos e2] at HC
            have HC2 : Hid (∃ c, CutS bs N k (i + 1) c up (i + 1) ∧ c + 1 = c1 + 1) := ⟨c + 1, HC, by omega⟩
            have b3 : ((c1 : Int) + 1 == (k1 : Int)) = true := beq_iff_eq.2 (by omega)
            clear HC HS e1 e2 hupN hbi hcN hup hab hPx hkk hc1 hk
            go_wp2_with fail
            go_roundw
            case rel => exact ⟨i + 1, c1 + 1, up, i + 1, by go_num, rfl, by go_num, by go_num, by omega, HC2, trivial⟩
            case measure => simp [intOf]; omega
          · rw [if_neg e1, if_neg e2] at HC
            have HC2 : Hid (∃ c, CutS bs N k (i + 1) c up ab ∧ c + 1 = c1 + 1) := ⟨c + 1, HC, by omega⟩
            have b3 : ((c1 : Int) + 1 == (k1 : Int)) = false := beq_eq_false_iff_ne.2 (by omega)
            clear HC HS e1 e2 hupN hbi hcN hup hab hPx hkk hc1 hk
            go_wp2_with fail
            go_roundw
            case rel => exact ⟨i + 1, c1 + 1, up, ab, rfl, rfl, by go_num, by go_num, by omega, HC2, trivial⟩
            case measure => simp [intOf]; omega
      · have HC2 : Hid (∃ c, CutS bs N k (i + 1) c up ab ∧ c + 1 = c1) := ⟨c, cut_other HS.out hbi hc, HC1.out⟩
        have b0 : (((s[i].toNat : Nat) : Int) != 10) = true := by
          rw [bne_iff_ne]
          intro e
          apply hc
          have : s[i].toNat = 10 := by omega
          exact UInt8.toNat_inj.1 (by rw [this]; rfl)
        clear HS hbi hcN hup hab hPx hc hc1 hk
        go_wp2_with fail
        go_roundw
        case rel => exact ⟨i + 1, c1, up, ab, rfl, rfl, rfl, by go_num, by omega, HC2, trivial⟩
        case measure => simp [intOf]; omega
    · have hltI : decide ((i : Int) < (N : Int)) = false := decide_eq_false (by omega)
      obtain rfl : i = N := by omega
      obtain ⟨hcc, hup2, hab2⟩ := cut_end hbN hk HS.out
      rw [HK1.out] at hup2
      rw [← hup2] at hup
      rw [← hab2] at hab
      have hul : up ≤ i := by rw [hup2, ← hbN]; exact nlp_le _ _
      have hal : ab ≤ i := by rw [hab2, ← hbN]; exact abv_le _ _
      have hkk := HK1.out
      have b1 : decide ((k1 : Int) < 1) = false := decide_eq_false (by omega)
      have b2 : decide ((c1 : Int) < (k1 : Int)) = false := decide_eq_false (by omega)
      have b3 : decide (c1 < k1) = false := decide_eq_false (by omega)
      have b4 : decide (k1 < 1) = false := decide_eq_false (by omega)
      have b5 : ¬ (k1 < 1) := by omega
      have b6 : ¬ (c1 < k1) := by omega
      have b7 : (k1 == 0) = false := beq_eq_false_iff_ne.2 (by omega)
      have b8 : k1 ≠ 0 := by omega
      clear hup2 hab2 HS hcc hkk hc1
      go_wp2_with fail
      refine hKH.out _ _ ?_
      have u1 : (up : Int) ≤ (i : Int) := by omega
      have u2 : (ab : Int) ≤ (i : Int) := by omega
      have u3 : (0 : Int) ≤ (up : Int) := by omega
      have u4 : (0 : Int) ≤ (ab : Int) := by omega
      have u5 : up ≤ s.size := by omega
      have u6 : ab ≤ s.size := by omega
      have u7 : (up : Int) ≤ (s.size : Int) := by omega
      have u8 : (ab : Int) ≤ (s.size : Int) := by omega
      refine wp_seq_k (fun KK hKK => ?_)
      have hKH : Hid _ := hKK
      clear hKK
      go_wp2_with fail
      refine hKH.out _ _ ?_
      have z1 : (s.extract 0 up).size ≤ 9223372036854775807 := by rw [ByteArray.size_extract]; omega
      have z2 : (s.extract 0 ab).size ≤ 9223372036854775807 := by rw [ByteArray.size_extract]; omega
      have hp4 := hPx W3 K3 (s.extract 0 up) z1
      rw [hup] at hp4
      simp only at hp4
      obtain ⟨⟨G1, G2, G3⟩, hG⟩ : ∃ G, prF (prsR (s.extract 0 ab)) = G := ⟨_, rfl⟩
      rw [hG] at hab
      simp only at hab
      refine wp_seq_k (fun KK hKK => ?_)
      have hKH : Hid _ := hKK
      clear hKK
      go_wp2_with fail
      refine hp4.mono ?_
      clear hp4
      rintro e w4 ⟨v4, rfl, _, k4, _⟩
      obtain ⟨W5, hW5⟩ : ∃ W5, W5 = w4.alloc (.cells #[.int .i64 F1, .int .i64 (k1 : Int), .int .i64 F3] 26) := ⟨_, rfl⟩
      have k5 : Keeps (fun _ => False) w4 W5 := by rw [hW5]; exact (Keeps.refl _ w4).alloc _
      have g5 : CL W5 w4.heap.size [.int .i64 F1, .int .i64 (k1 : Int), .int .i64 F3] := by rw [hW5]; exact CL.made w4 _ _
      have HW5 : Hid (_ = _) := hW5
      clear hW5
      go_wp2_with fail
      refine hKH.out _ _ ?_
      first | rw [← HW5.out] | skip
      have K35 := k4.trans k5
      have hp6 := hPx W5 (K3.trans K35) (s.extract 0 ab) z2
      rw [hG] at hp6
      simp only at hp6
      have g35 := g3.keep (by show 0 < 3; decide) K35 (fun e => e)
      refine wp_seq_k (fun KK hKK => ?_)
      have hKH : Hid _ := hKK
      clear hKK
      go_wp2_with fail
      refine hp6.mono ?_
      clear hp6
      rintro e w6 ⟨v6, rfl, _, k6, _⟩
      obtain ⟨W7, hW7⟩ : ∃ W7, W7 = w6.alloc (.cells #[.int .i64 G1, .int .i64 G2, .int .i64 G3] 26) := ⟨_, rfl⟩
      have k7 : Keeps (fun _ => False) w6 W7 := by rw [hW7]; exact (Keeps.refl _ w6).alloc _
      have g7 : CL W7 w6.heap.size [.int .i64 G1, .int .i64 G2, .int .i64 G3] := by rw [hW7]; exact CL.made w6 _ _
      have HW7 : Hid (_ = _) := hW7
      clear hW7
      go_wp2_with fail
      refine hKH.out _ _ ?_
      first | rw [← HW7.out] | skip
      have K57 := k6.trans k7
      have g37 := g35.keep (by show 0 < 3; decide) K57 (fun e => e)
      have g57 := g5.keep (by show 0 < 3; decide) K57 (fun e => e)
      have a0 := g37.c 0 _ rfl
      have a1 := g37.c 1 _ rfl
      have a2 := g37.c 2 _ rfl
      have c0 := g57.c 0 _ rfl
      have c1 := g57.c 1 _ rfl
      have c2 := g57.c 2 _ rfl
      have d0 := g7.c 0 _ rfl
      have K7 := (K3.trans K35).trans K57
      have t1 : (F1 == F1) = true := by simp
      have t2 : (F3 == F3) = true := by simp
      have t3 : ((k1 : Int) == (k1 : Int)) = true := by simp
      rcases hab with rfl | rfl
      · go_wp2_with fail
        go_ret
        exact ⟨rfl, K7.below (Nat.le_refl _) (fun _ _ e => e)⟩
      · go_wp2_with fail
        go_ret
        exact ⟨rfl, K7.below (Nat.le_refl _) (fun _ _ e => e)⟩
end Go.Proofs.YtclednbclgkdaaaDoor
