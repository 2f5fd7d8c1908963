import Derived.Test.YtckjnjdmnhmgeaaGreatDoorXcF
namespace Go.Proofs.YtckjnjdmnhmgeaaGreatDoor
open Go.RowKit Go.ChangeShapes Go.WideShapes Go.ChangeAt Go.Deep
attribute [local go_sem] Oper.semAt_some run_store_nf run_store_f
theorem app_listR (x y : ByteArray) : (x ++ y).data.toList = x.data.toList ++ y.data.toList := by simp [ByteArray.data_append]
set_option maxHeartbeats 1000000 in
set_option maxRecDepth 100000 in
theorem dressed_any {w : World} (s : ByteArray) (hs : s.size ≤ 32768) : Calls Tryz.prog 9 #[.string s] w fun e w' => ∃ d : ByteArray, e = .returned (.string d) ∧ d.data.toList = 9 :: dr s.data.toList ∧ d.size ≤ 400000 ∧ w' = w := by
  obtain ⟨N, hN⟩ : ∃ N, s.size = N := ⟨_, rfl⟩
  obtain ⟨T, hT⟩ : ∃ T, s.data.toList = T := ⟨_, rfl⟩
  have hbN : T.length = N := by rw [← hT, ← hN]; simp
  rw [hT]
  go_enter Tryz.func9, Tryz.ntmps9
  go_wp2_with fail
  go_loopw [3, 4] (fun sv iv Wr => ∃ (i : Nat) (x : ByteArray), sv = .string x ∧ iv = .int .i64 (i : Int) ∧ i ≤ N ∧ x.size ≤ 1 + 12 * i ∧ Hid (x.data.toList = 9 :: dr (T.take i)) ∧ Wr = w) (fun _ iv _ => N - (intOf iv).toNat)
  case atStart => exact ⟨0, ⟨#[9]⟩, rfl, rfl, Nat.zero_le _, by decide, rfl, rfl⟩
  case round =>
    obtain ⟨i, x, rfl, rfl, hi, hx, HX, ew⟩ := hrel
    subst wr
    have hx2 : x.size ≤ 3999999999999990 := by omega
    by_cases hlt : i < N
    · have hltI : decide ((i : Int) < (N : Int)) = true := decide_eq_true (by omega)
      have hltJ : (i : Int) < (N : Int) := by omega
      have hi0 : (0 : Int) ≤ (i : Int) := by omega
      have his : i < s.size := by omega
      have hwi : IntKind.i64.wrap ((i : Int) + 1) = (i : Int) + 1 := by rw [IntKind.wrap_i64]; omega
      have hbi : T[i]? = some s[i] := by rw [← hT, List.getElem?_eq_getElem (by simpa using his)]; rfl
      have htk : T.take (i + 1) = T.take i ++ [s[i]] := by rw [List.take_add_one, hbi]; rfl
      by_cases hc : s[i] = 10
      · have b0 : (((s[i].toNat : Nat) : Int) == 10) = true := by rw [hc]; rfl
        obtain ⟨y, hy⟩ : ∃ y : ByteArray, y = x ++ ⟨#[32, 35, 125, 32, 101, 108, 115, 101, 32, 123, 10, 9]⟩ := ⟨_, rfl⟩
        have hyl : y.size = x.size + 12 := by rw [hy, ByteArray.size_append]; rfl
        have HY : Hid (y.data.toList = 9 :: dr (T.take (i + 1))) := by
          show y.data.toList = _
          rw [hy, app_listR, HX.out, htk, dr_app, hc, dr_nl, dr_nil, List.append_nil]
          rfl
        have h1 : ¬ (9223372036854775807 < x.size + 12) := by omega
        have h2 : ¬ (x.size + 12 > 9223372036854775807) := by omega
        have h3 : ¬ (x.size + (⟨#[32, 35, 125, 32, 101, 108, 115, 101, 32, 123, 10, 9]⟩ : ByteArray).size > 9223372036854775807) := h2
        clear hbi htk HX hc
        go_wp2_with fail
        rw [← hy]
        go_roundw
        case rel => exact ⟨i + 1, y, rfl, by go_num, by omega, by omega, HY, trivial⟩
        case measure => simp [intOf]; omega
      · have b0 : (((s[i].toNat : Nat) : Int) == 10) = false := by
          rw [beq_eq_false_iff_ne]
          intro e
          apply hc
          have : s[i].toNat = 10 := by omega
          exact UInt8.toNat_inj.1 (by rw [this]; rfl)
        obtain ⟨y, hy⟩ : ∃ y : ByteArray, y = x ++ s.extract i (i + 1) := ⟨_, rfl⟩
        have hel : (s.extract i (i + 1)).size = 1 := by rw [ByteArray.size_extract]; omega
        have hyl : y.size = x.size + 1 := by rw [hy, ByteArray.size_append, hel]
        have HY : Hid (y.data.toList = 9 :: dr (T.take (i + 1))) := by
          show y.data.toList = _
          have e : (s.extract i (i + 1)).data.toList = [s[i]] := by
            rw [ByteArray.data_extract, Array.toList_extract, List.extract_eq_take_drop, hT, show i + 1 - i = 1 by omega]
            obtain ⟨h, e⟩ := List.getElem?_eq_some_iff.1 hbi
            rw [List.drop_eq_getElem_cons h, e]
            rfl
          rw [hy, app_listR, HX.out, htk, dr_app, dr_cons hc, dr_nil, e]
          rfl
        have h1 : ¬ (9223372036854775807 < x.size + (s.extract i (i + 1)).size) := by omega
        have h2 : ¬ (x.size + (s.extract i (i + 1)).size > 9223372036854775807) := by omega
        have hj1 : (i : Int) + 1 ≤ (N : Int) := by omega
        have hj2 : (i : Int) ≤ (i : Int) + 1 := by omega
        have hj3 : (0 : Int) ≤ (i : Int) + 1 := by omega
        have hj4 : ((i : Int) + 1).toNat = i + 1 := by omega
        have hj5 : (i : Int) + 1 ≤ (s.size : Int) := by omega
        clear hbi htk HX hc
        go_wp2_with fail
        rw [← hy]
        go_roundw
        case rel => exact ⟨i + 1, y, rfl, by go_num, by omega, by omega, HY, trivial⟩
        case measure => simp [intOf]; omega
    · have hltI : decide ((i : Int) < (N : Int)) = false := decide_eq_false (by omega)
      obtain rfl : i = N := by omega
      have HY : Hid (x.data.toList = 9 :: dr T) := by
        show x.data.toList = _
        rw [HX.out, ← hbN, List.take_length]
      clear HX
      go_wp2_with fail
      go_ret
      exact ⟨x, rfl, HY.out, by omega, rfl⟩
/-- A reading's program and its fault. -/
def lsX (x : Except (Int × Int × Int) (List St)) : List St := match x with
  | .ok l => l
  | .error _ => []
def ftX (x : Except (Int × Int × Int) (List St)) : Int × Int × Int := match x with
  | .ok _ => (0, 0, 0)
  | .error f => f
def PrsU (f : Int × Int × Int) (l : List St) (w : World) (e : Ending) (w' : World) : Prop := ∃ (p : Option Addr) (c : Nat) (xs : List Value), e = .returned (.tuple #[.slice p l.length c, .agg #[.int .i64 f.1, .int .i64 f.2.1, .int .i64 f.2.2]]) ∧ OwnP w' (fun g => w.heap.size ≤ g) 33 12 (.slice p l.length c) l.length xs ∧ SL w' (fun g => w.heap.size ≤ g) 31 33 l xs ∧ Keeps (fun _ => False) w w'
theorem parse_u {w : World} (T : Bs) (hG : SG w) (h12 : 12 ≤ w.heap.size) : Calls Tryz.prog 6 #[.string (bs T)] w (PrsU (ftX (prX T)) (lsX (prX T)) w) := by
  refine (parse_all hG h12).mono fun e w' h => ?_
  cases hx : prX T with
  | ok l =>
    rw [hx] at h
    exact h
  | error f =>
    rw [hx] at h
    obtain ⟨h1, h2⟩ := h
    exact ⟨none, 0, [], h1, ownP_nil _ _ _ _, SL.nil _ _ _ _, h2⟩
theorem prX_bg {T : Bs} (hT : T.length ≤ 32768) {l : List St} (h : prX T = .ok l) : bgSL l ≤ 98304 := by
  unfold prX at h
  rw [if_neg (by omega)] at h
  cases hp : prs0 T with
  | error E => rw [hp] at h; cases h
  | ok z =>
    obtain ⟨l', R⟩ := z
    rw [hp] at h
    have h : (if chk l' = 0 then Except.ok l' else Except.error (chk l', 0, 0)) = (Except.ok l : Except (Int × Int × Int) (List St)) := h
    split at h
    · injection h with h
      subst h
      unfold prs0 at hp
      split at hp
      · cases hp
      · have h1 := (rs_bg FU).1 _ _ _ _ hp
        have h2 := (spk_suf false T).length_le
        omega
    · cases h
theorem dr_all (T d : Bs) (hd : d = 9 :: dr T) (hz : d.length ≤ 32768) (hT : T.length ≤ 32768) : lsX (prX d) = lsX (prX T) ∧ bgSL (lsX (prX T)) ≤ 98304 ∧ ∃ F1 F2 F3 G3 : Int, ftX (prX T) = (F1, F2, F3) ∧ ftX (prX d) = (F1, F2, G3) ∧ ((F1 = 231 ∧ 1 ≤ F2 ∧ 1 ≤ F3 ∧ F3 ≤ 40000 ∧ G3 = F3 + 1) ∨ (F1 ≠ 231 ∧ F2 = 0 ∧ F3 = 0 ∧ G3 = 0)) := by
  subst hd
  rcases prX_dr T hz hT with ⟨l, h1, h2⟩ | ⟨a, b, h1, h2, h3, h4, h5⟩ | ⟨c, h1, h2, h3, -⟩
  · have hb := prX_bg hT h1
    rw [h1, h2]
    exact ⟨rfl, hb, 0, 0, 0, 0, rfl, rfl, .inr ⟨by decide, rfl, rfl, rfl⟩⟩
  · rw [h1, h2]
    exact ⟨rfl, by show bgSL [] ≤ _; unfold bgSL; omega, _, _, _, _, rfl, rfl, .inl ⟨rfl, by omega, by omega, by omega, rfl⟩⟩
  · rw [h1, h2]
    exact ⟨rfl, by show bgSL [] ≤ _; unfold bgSL; omega, _, _, _, _, rfl, rfl, .inr ⟨h3, rfl, rfl, rfl⟩⟩
set_option maxHeartbeats 1000000 in
set_option maxRecDepth 100000 in
theorem dress_law {w : World} (hG : SG w) (h12 : 12 ≤ w.heap.size) (s : ByteArray) (hs : s.size ≤ 9223372036854775807) : Calls Tryz.prog 4 #[.string s] w fun e w' => e = .returned (.bool true) ∧ Below w.heap.size w w' := by
  have hFx := fixed_ok hG h12
  have hFy := fun W (k : Keeps (fun _ => False) w W) => fixed_ok (w := W) (hG.keep k (fun _ _ e => e)) (Nat.le_trans h12 k.size)
  have hPa := fun W (k : Keeps (fun _ => False) w W) (T : Bs) => parse_u (w := W) T (hG.keep k (fun _ _ e => e)) (Nat.le_trans h12 k.size)
  clear hG h12
  go_enter Tryz.func4, Tryz.ntmps4
  refine wp_seq_k (fun KK hKK => ?_)
  have hKH : Hid _ := hKK
  clear hKK
  go_wp2_with fail
  refine hKH.out _ _ ?_
  clear hKH KK
  rcases Nat.lt_or_ge 32768 s.size with hz | hz
  · have q1 : decide (32768 < (s.size : Int)) = true := decide_eq_true (by omega)
    have q2 : decide (32768 < s.size) = true := decide_eq_true hz
    clear hPa
    go_wp2_with (first | (go_at_call 8; refine hFx.mono ?_; clear hFx; rintro e w1 ⟨rfl, k1⟩; have hF2 := hFy w1 k1) | (go_at_call 8; refine hF2.mono ?_; clear hF2; rintro e w2 ⟨rfl, k2⟩))
    go_ret
    exact ⟨rfl, (k1.trans k2).below (Nat.le_refl _) (fun _ _ e => e)⟩
  have q1 : decide (32768 < (s.size : Int)) = false := decide_eq_false (by omega)
  have q2 : decide (32768 < s.size) = false := decide_eq_false (by omega)
  clear hFy
  refine wp_seq_k (fun KK hKK => ?_)
  have hKH : Hid _ := hKK
  clear hKK
  go_wp2_with (go_at_call 8; refine hFx.mono ?_; clear hFx; rintro e w1 ⟨rfl, k1⟩)
  refine hKH.out _ _ ?_
  clear hKH KK
  clear q1 q2
  have hDr := dressed_any (w := w1) s hz
  refine wp_seq_k (fun KK hKK => ?_)
  have hKH : Hid _ := hKK
  clear hKK
  go_wp2_with (go_at_call 9; refine hDr.mono ?_; clear hDr; rintro e w2 ⟨d, rfl, hd, hdz, rfl⟩)
  refine hKH.out _ _ ?_
  clear hKH KK
  have HD : Hid (d.data.toList = 9 :: dr s.data.toList) := hd
  have HZ : Hid (d.size ≤ 400000) := hdz
  clear hd hdz
  rcases Nat.lt_or_ge 32768 d.size with hy | hy
  · have q1 : decide (32768 < (d.size : Int)) = true := decide_eq_true (by omega)
    have q2 : decide (32768 < d.size) = true := decide_eq_true hy
    clear hPa HD
    go_wp2_with fail
    go_ret
    exact ⟨rfl, k1.below (Nat.le_refl _) (fun _ _ e => e)⟩
  have q1 : decide (32768 < (d.size : Int)) = false := decide_eq_false (by omega)
  have q2 : decide (32768 < d.size) = false := decide_eq_false (by omega)
  refine wp_seq_k (fun KK hKK => ?_)
  have hKH : Hid _ := hKK
  clear hKK
  go_wp2_with fail
  refine hKH.out _ _ ?_
  clear hKH KK
  clear q1 q2
  obtain ⟨hl, hbg, F1, F2, F3, G3, hf, hg, hcs⟩ := dr_all s.data.toList d.data.toList HD.out (by simpa using hy) (by simpa using hz)
  have hp1 := hPa w2 k1 s.data.toList
  have hp2 := fun W k => hPa W k d.data.toList
  rw [bs_of] at hp1
  simp only [bs_of] at hp2
  rw [hf] at hp1
  rw [hl, hg] at hp2
  obtain ⟨l, hll⟩ : ∃ l, lsX (prX s.data.toList) = l := ⟨_, rfl⟩
  rw [hll] at hp1 hp2 hbg
  clear hPa hl hll hf hg HD HZ hy hz
  obtain ⟨n, hn⟩ : ∃ n, l.length = n := ⟨_, rfl⟩
  have HC : Hid (_ ∨ _) := hcs
  clear hcs
  unfold PrsU at hp1 hp2
  simp only [hn] at hp1 hp2
  refine wp_seq_k (fun KK hKK => ?_)
  have hKH : Hid _ := hKK
  clear hKK
  go_wp2_with (go_at_call 6; refine hp1.mono ?_; clear hp1; rintro e v3 ⟨p3, c3, x3, rfl, O3, X3, k3⟩)
  refine hKH.out _ _ ?_
  clear hKH KK
  obtain ⟨w3, hw3⟩ : ∃ w3, w3 = v3.alloc (.cells #[.int .i64 F1, .int .i64 F2, .int .i64 F3] 25) := ⟨_, rfl⟩
  have kw3 : Keeps (fun _ => False) v3 w3 := by rw [hw3]; exact (Keeps.refl _ v3).alloc _
  have cw3 : CL w3 v3.heap.size [.int .i64 F1, .int .i64 F2, .int .i64 F3] := by rw [hw3]; exact CL.made v3 _ _
  rw [show v3.alloc (.cells #[.int .i64 F1, .int .i64 F2, .int .i64 F3] 25) = w3 from hw3.symm]
  clear hw3
  have K3 := (k1.trans k3).trans kw3
  have hp4 := hp2 w3 K3
  clear hp2
  refine wp_seq_k (fun KK hKK => ?_)
  have hKH : Hid _ := hKK
  clear hKK
  go_wp2_with (go_at_call 6; refine hp4.mono ?_; clear hp4; rintro e v5 ⟨p5, c5, x5, rfl, O5, X5, k5⟩)
  refine hKH.out _ _ ?_
  clear hKH KK
  obtain ⟨w5, hw5⟩ : ∃ w5, w5 = v5.alloc (.cells #[.int .i64 F1, .int .i64 F2, .int .i64 G3] 25) := ⟨_, rfl⟩
  have kw5 : Keeps (fun _ => False) v5 w5 := by rw [hw5]; exact (Keeps.refl _ v5).alloc _
  have cw5 : CL w5 v5.heap.size [.int .i64 F1, .int .i64 F2, .int .i64 G3] := by rw [hw5]; exact CL.made v5 _ _
  rw [show v5.alloc (.cells #[.int .i64 F1, .int .i64 F2, .int .i64 G3] 25) = w5 from hw5.symm]
  clear hw5
  have K35 := k5.trans kw5
  have K5 := K3.trans K35
  have k15 := kw3.trans K35
  have O35 := O3.stay (k15.stay (fun _ _ _ e => e))
  have X35 := X3.stay (k15.stay (fun _ _ _ e => e))
  have O55 := O5.stay (kw5.stay (fun _ _ _ e => e))
  have X55 := X5.stay (kw5.stay (fun _ _ _ e => e))
  have cw35 := cw3.keep (by show 0 < 3; decide) K35 (fun e => e)
  clear O3 X3 O5 X5 k3 k5 kw3 kw5 K3 K35 k15 cw3 k1
  rw [← hn] at O35 O55
  have hB1 := bk_all 1048576 l (by omega) (Nat.le_refl _) w5 _ p3 c3 _ O35 X35
  have hB2 := fun W (k : Keeps (fun _ => False) w5 W) => bk_all 1048576 l (by omega) (Nat.le_refl _) W _ p5 c5 _ (O55.lt.stay (k.stay (fun _ _ _ e => e))) (X55.lt.stay (k.stay (fun _ _ _ e => e)))
  have hSm := fun (W : World) (P Q : Nat → Prop) (p : Option Addr) (c : Nat) (xs : List Value) (p' : Option Addr) (c' : Nat) (xs' : List Value) => sm_all 1048576 l (by omega) (Nat.le_refl _) W P Q p c xs p' c' xs'
  rw [hn] at hB1
  simp only [hn] at hB2 hSm
  clear O35 X35 O55 X55 hbg
  have a0 := cw35.c 0 _ rfl
  have a1 := cw35.c 1 _ rfl
  have b0 := cw5.c 0 _ rfl
  have b1 := cw5.c 1 _ rfl
  have e1 : (F1 != F1) = false := by simp
  have e2 : (F2 != F2) = false := by simp
  refine wp_seq_k (fun KK hKK => ?_)
  have hKH : Hid _ := hKK
  clear hKK
  go_wp2_with (first | (go_at_call 11; refine hB1.mono ?_; clear hB1; rintro e w6 ⟨p6, c6, x6, rfl, O6, X6, k6⟩; have hB3 := hB2 w6 k6; clear hB2) | (go_at_call 11; refine hB3.mono ?_; clear hB3; rintro e w7 ⟨p7, c7, x7, rfl, O7, X7, k7⟩; have hS2 := hSm w7 _ _ _ _ _ _ _ _ (O6.stay (k7.stay (fun _ _ _ e => e))) (X6.stay (k7.stay (fun _ _ _ e => e))) O7 X7; clear hSm O6 X6 O7 X7) | (go_at_call 10; refine hS2.mono ?_; clear hS2; rintro e w8 ⟨rfl, k8⟩))
  refine hKH.out _ _ ?_
  clear hKH KK
  have K58 := (k6.trans k7).trans k8
  have ca := cw35.keep (by show 0 < 3; decide) K58 (fun e => e)
  have cb := cw5.keep (by show 0 < 3; decide) K58 (fun e => e)
  have K8 := K5.trans K58
  clear cw35 cw5 K58 K5 k6 k7 k8 a0 a1 b0 b1 e1 e2
  have a0 := ca.c 0 _ rfl
  have a1 := ca.c 1 _ rfl
  have a2 := ca.c 2 _ rfl
  have b2 := cb.c 2 _ rfl
  clear ca cb
  rcases HC.out with ⟨hF1, hF2, hF3, hF4, hG3⟩ | ⟨hF1, hF2, hF3, hG3⟩
  · have e3 : (F1 == 231) = true := by rw [hF1]; rfl
    have e4 : decide (1 ≤ F2) = true := decide_eq_true hF2
    have e5 : decide (1 ≤ F3) = true := decide_eq_true hF3
    have e6 : IntKind.i64.wrap (F3 + 1) = F3 + 1 := by rw [IntKind.wrap_i64]; omega
    have e7 : (G3 == F3 + 1) = true := by rw [hG3]; simp
    clear HC
    go_wp2_with fail
    go_ret
    exact ⟨rfl, K8.below (Nat.le_refl _) (fun _ _ e => e)⟩
  · have e3 : (F1 == 231) = false := beq_eq_false_iff_ne.2 hF1
    clear HC hF1
    subst hF2 hF3 hG3
    go_wp2_with fail
    go_ret
    exact ⟨rfl, K8.below (Nat.le_refl _) (fun _ _ e => e)⟩
end Go.Proofs.YtckjnjdmnhmgeaaGreatDoor
