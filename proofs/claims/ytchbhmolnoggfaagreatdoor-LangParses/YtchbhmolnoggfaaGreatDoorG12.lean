import Derived.Test.YtchbhmolnoggfaaGreatDoorG11
import Derived.Test.YtchbhmolnoggfaaGreatDoorG01
import Derived.Lib.Mul64
import Derived.Laws.Bits64b
import Derived.Test.YtchbhmolnoggfaaGreatDoorRows
import Derived.OpenShut
import Derived.WalkLawsBesides
import Derived.Laws.BytesString
namespace Go.Proofs.YtchbhmolnoggfaaGreatDoor
open Go.ChangeShapes Go.WideShapes Go.ChangeAt Go.RowKit
set_option maxHeartbeats 4000000 in
set_option maxRecDepth 100000 in
theorem refParse_minus (s : ByteArray) (w : World) (hs : s.size ≤ 281474976710656) (h : 0 < s.size) (h1 : s[0].toNat = 45) (h2 : 0 < (s.extract 1 s.size).size) (h3 : (s.extract 1 s.size)[0].toNat ≠ 48) :
    Calls Tryz.prog 53 #[.string s] w fun e w' => e = .returned (.tuple #[.int .i64 (prsV s.toList), .int .i64 (prsE s.toList)]) ∧ w' = w := by
  have a1 : s.toList.isEmpty = false := by rw [list_cons s h]; rfl
  have a0 : decide ((0 : Int) < (s.size : Int)) = true := by simp; omega
  have a2 : ((s[0].toNat : Int) == 45) = true := by simp; omega
  have HG : Hid (_ ∧ _ ∧ _) := neg_minus h h1
  have HF : Hid (numForm s.toList = (s.extract 1 s.size).toList.all digB) := ((form_minus h h1).2 h2).2 h3
  have HH : Hid (∀ _ : (s.extract 1 s.size).toList.all digB = true, (s.extract 1 s.size).toList = [48] ∨ ∃ e r, (s.extract 1 s.size).toList = e :: r ∧ 49 ≤ e.toNat) := by
    intro ha
    refine .inr ⟨_, _, list_cons _ h2, ?_⟩
    have e := list_cons _ h2
    rw [e, List.all_cons, Bool.and_eq_true] at ha
    have := (digB_iff _).1 ha.1
    omega
  have hts : (s.extract 1 s.size).size ≤ 281474976710656 := by simp; omega
  have a3 : (s.extract 1 s.size).toList.isEmpty = false := by rw [list_cons _ h2]; rfl
  have a4 : (((s.extract 1 s.size)[0].toNat : Int) == 48) = false := by simp; omega
  have h2' : 0 < s.size - 1 := by simpa using h2
  go_enter Tryz.func53, Tryz.ntmps53
  go_wp2
  generalize (s.extract 1 s.size)[0].toNat = c0 at *
  clear h2 h2' h3 a4
  generalize s.extract 1 s.size = t at *
  go_loop [7] (fun i => ∃ k : Nat, k ≤ t.size ∧ i = .int .i64 k ∧ DigTo t k) (fun i => t.size - (intOf i).toNat)
  case atStart => exact ⟨0, Nat.zero_le _, rfl, digTo_zero _⟩
  case round =>
    obtain ⟨k, hk, rfl, hd⟩ := hrel
    have HD : Hid (DigTo t k) := hd
    clear hd
    by_cases hlt : k < t.size
    · by_cases c1 : t[k].toNat < 48
      · have b1 : decide ((t[k].toNat : Int) < 48) = true := by simp; omega
        have HN : Hid (_ = _) := not_all hlt (.inl c1)
        have HB : Hid (prsV s.toList = 0 ∧ prsE s.toList = 12) := prs_bad (by rw [HF.out, HN.out])
        go_wp2
        go_ret2
        exact ⟨ret2 HB.out.1.symm HB.out.2.symm, rfl⟩
      · have b1 : decide ((t[k].toNat : Int) < 48) = false := by simp; omega
        by_cases c2 : 57 < t[k].toNat
        · have b2 : decide ((57 : Int) < (t[k].toNat : Int)) = true := by simp; omega
          have HN : Hid (_ = _) := not_all hlt (.inr c2)
          have HB : Hid (prsV s.toList = 0 ∧ prsE s.toList = 12) := prs_bad (by rw [HF.out, HN.out])
          go_wp2
          go_ret2
          exact ⟨ret2 HB.out.1.symm HB.out.2.symm, rfl⟩
        · have b2 : decide ((57 : Int) < (t[k].toNat : Int)) = false := by simp; omega
          have HN : Hid (DigTo t (k + 1)) := digTo_succ HD.out hlt (by omega) (by omega)
          go_wp2
          go_round
          case rel => exact ⟨k + 1, by omega, by go_num, HN.out⟩
          case measure => simp [intOf]; omega
    · have e : k = t.size := by omega
      subst e
      have HN : Hid (_ = _) := digTo_all HD.out
      have HA : Hid (numForm s.toList = true) := HF.out.trans HN.out
      have hw := range_ways (t := t.toList) (m := [57, 50, 50, 51, 51, 55, 50, 48, 51, 54, 56, 53, 52, 55, 55, 53, 56, 48, 56]) rfl mm_all mm_nat (by decide) (by decide) HN.out (HH.out HN.out)
      rw [list_len] at hw
      rcases hw with ⟨r1, r2⟩ | ⟨r1, r2, r3, r4⟩ | ⟨r1, r2, r4⟩ | ⟨r1, r4⟩
      · have HB : Hid (prsV s.toList = 0 ∧ prsE s.toList = 13) := prs_range HA.out (by rw [HG.out.2.1, HG.out.2.2]; omega)
        have g1 : decide ((19 : Int) < (t.size : Int)) = true := by simp; omega
        go_wp2
        go_ret2
        exact ⟨ret2 HB.out.1.symm HB.out.2.symm, rfl⟩
      · have HB : Hid (prsV s.toList = 0 ∧ prsE s.toList = 13) := prs_range HA.out (by rw [HG.out.2.1, HG.out.2.2]; omega)
        have g1 : decide ((19 : Int) < (t.size : Int)) = false := by simp; omega
        have g2 : ((t.size : Int) == 19) = true := by simp; omega
        clear r1
        go_wp2
        go_ret2
        exact ⟨ret2 HB.out.1.symm HB.out.2.symm, rfl⟩
      all_goals
        have HV : Hid (prsV s.toList = (if neg? s.toList then -((natv 0 t.toList : Nat) : Int) else ((natv 0 t.toList : Nat) : Int)) ∧ prsE s.toList = 0) := prs_of HA.out (by rw [HG.out.2.1]) (by rw [HG.out.2.2]; exact r4)
        have HV2 : Hid (prsV s.toList = -((natv 0 t.toList : Nat) : Int) ∧ prsE s.toList = 0) := by
          obtain ⟨v1, v2⟩ := HV.out
          rw [HG.out.1] at v1
          exact ⟨v1, v2⟩
        clear HV
        have RR : Hid (natv 0 t.toList ≤ 9223372036854775808) := r4
        have g1 : decide ((19 : Int) < (t.size : Int)) = false := by simp; omega
      · have g2 : ((t.size : Int) == 19) = true := by simp; omega
        rcases r2 with r2 | ⟨r2, r3⟩
        all_goals
          clear r1
          go_wp2
          go_loop [8, 9] (fun x i => ∃ k : Nat, k ≤ t.size ∧ i = .int .i64 k ∧ x = .int .i64 (-((natTo t k : Nat) : Int))) (fun _ i => t.size - (intOf i).toNat)
          case atStart => exact ⟨0, Nat.zero_le _, rfl, by rw [natTo_zero]; rfl⟩
          case round =>
            obtain ⟨j, hj, rfl, rfl⟩ := hrel
            by_cases hlt : j < t.size
            · have HS : Hid (_ = _) := natTo_succ t j hlt
              have q1 := natTo_le t (j + 1)
              rw [HS.out] at q1
              have q0 := RR.out
              obtain ⟨d1, d2⟩ := HD.out j hlt hlt
              have q2 : natTo t j * 10 + (t[j].toNat - 48) ≤ 9223372036854775808 := Nat.le_trans q1 q0
              clear q0 q1
              go_wp2
              go_round
              case rel => exact ⟨j + 1, by omega, by go_num, congrArg (Value.int .i64) (by rw [HS.out]; omega)⟩
              case measure => simp [intOf]; omega
            · have e : j = t.size := by omega
              subst e
              have HE : Hid (_ = _) := natTo_all t
              have q0 := natTo_le t t.size
              have q1 : natTo t t.size ≤ 9223372036854775808 := Nat.le_trans q0 RR.out
              clear q0
              go_wp2
              go_ret2
              exact ⟨ret2 (by rw [HV2.out.1, ← HE.out]) HV2.out.2.symm, rfl⟩
      · have g2 : ((t.size : Int) == 19) = false := by simp; omega
        clear r1
        go_wp2
        go_loop [8, 9] (fun x i => ∃ k : Nat, k ≤ t.size ∧ i = .int .i64 k ∧ x = .int .i64 (-((natTo t k : Nat) : Int))) (fun _ i => t.size - (intOf i).toNat)
        case atStart => exact ⟨0, Nat.zero_le _, rfl, by rw [natTo_zero]; rfl⟩
        case round =>
          obtain ⟨j, hj, rfl, rfl⟩ := hrel
          by_cases hlt : j < t.size
          · have HS : Hid (_ = _) := natTo_succ t j hlt
            have q1 := natTo_le t (j + 1)
            rw [HS.out] at q1
            have q0 := RR.out
            obtain ⟨d1, d2⟩ := HD.out j hlt hlt
            have q2 : natTo t j * 10 + (t[j].toNat - 48) ≤ 9223372036854775808 := Nat.le_trans q1 q0
            clear q0 q1
            go_wp2
            go_round
            case rel => exact ⟨j + 1, by omega, by go_num, congrArg (Value.int .i64) (by rw [HS.out]; omega)⟩
            case measure => simp [intOf]; omega
          · have e : j = t.size := by omega
            subst e
            have HE : Hid (_ = _) := natTo_all t
            have q0 := natTo_le t t.size
            have q1 : natTo t t.size ≤ 9223372036854775808 := Nat.le_trans q0 RR.out
            clear q0
            go_wp2
            go_ret2
            exact ⟨ret2 (by rw [HV2.out.1, ← HE.out]) HV2.out.2.symm, rfl⟩
end Go.Proofs.YtchbhmolnoggfaaGreatDoor

namespace Go.Proofs.YtchbhmolnoggfaaGreatDoor
open Go.RowKit
def u (a : Int) : Nat := (a % 18446744073709551616).toNat
end Go.Proofs.YtchbhmolnoggfaaGreatDoor

namespace Go.Proofs.YtchbhmolnoggfaaGreatDoor
open Go.RowKit
def clamp (n : Int) : Int := if 9223372036854775807 < n then 9223372036854775807 else if n < -9223372036854775808 then -9223372036854775808 else n
def mag (a : Int) : Int := (a.natAbs : Int)
theorem mag_pos {a : Int} (h : 0 ≤ a) : a = mag a := by unfold mag; omega
theorem mag_in {a : Int} (h : In64 a) : 0 ≤ mag a ∧ mag a < 18446744073709551616 := by unfold In64 at h; unfold mag; omega
def Prod128 (hi lo x y : Int) : Prop := hi * 18446744073709551616 + lo = x * y ∧ 0 ≤ hi ∧ 0 ≤ lo ∧ lo < 18446744073709551616
end Go.Proofs.YtchbhmolnoggfaaGreatDoor

namespace Go.Proofs.YtchbhmolnoggfaaGreatDoor
open Go.ChangeShapes Go.WideShapes Go.ChangeAt Go.RowKit
theorem size_neg {a : Int} (h : a < 0) (h1 : -9223372036854775808 ≤ a) : -(a + 1) + 1 = mag a := by unfold mag; omega
theorem size_any (a : Int) (ha : In64 a) (w : World) :
    Calls Tryz.prog 63 #[.int .i64 a] w fun e w' => e = .returned (.int .u64 (mag a)) ∧ w' = w := by
  obtain ⟨h1, h2⟩ := ha
  by_cases c1 : a < 0
  · rw [← size_neg c1 h1]
    go_enter Tryz.func63, Tryz.ntmps63
    go_wp2
    go_ret
    exact ⟨rfl, rfl⟩
  · rw [← mag_pos (show 0 ≤ a by omega)]
    go_enter Tryz.func63, Tryz.ntmps63
    go_wp2
    go_ret
    exact ⟨rfl, rfl⟩
end Go.Proofs.YtchbhmolnoggfaaGreatDoor

namespace Go.Proofs.YtchbhmolnoggfaaGreatDoor
open Go.ChangeShapes Go.WideShapes Go.ChangeAt Go.RowKit
theorem one_byte (W : World) (x : Int) : (convert 114 9 (.slice (some ⟨W.heap.size, 0, none⟩) 1 1)).run Tryz.prog (W.alloc (.cells #[.int .u8 x] 5)) = .ok (.string ⟨#[UInt8.ofNat x.toNat]⟩) (W.alloc (.cells #[.int .u8 x] 5)) := by
  rw [run_convert_bytes_string _ _ _ 5 _ 1 1 Tryz.underlying114 Tryz.underlying5 Tryz.underlying9]
  refine (run_bytesToString _ _ 1 1 [x] ?_).trans rfl
  simp [loadCells, go_sem]
def pre (u : Nat) : List UInt8 := if u = 0 then [] else Lib.decDigits u
theorem pre_start (U : Nat) : pre (U / 10) ++ [UInt8.ofNat (48 + U % 10)] = Lib.decDigits U := by
  unfold pre
  by_cases h : U < 10
  · rw [if_pos (by omega), dec_small h, show U % 10 = U by omega]; rfl
  · rw [if_neg (by omega), dec_big h]
theorem pre_step (u : Nat) (h : 0 < u) (l : List UInt8) : pre (u / 10) ++ (UInt8.ofNat (48 + u % 10) :: l) = pre u ++ l := by
  have e := pre_start u
  have e2 : pre u = Lib.decDigits u := by unfold pre; rw [if_neg (by omega)]
  rw [e2, ← e]; simp
theorem byte_list (x : Nat) (T : ByteArray) : (⟨#[UInt8.ofNat x]⟩ ++ T : ByteArray).toList = UInt8.ofNat x :: T.toList := by
  rw [list_of, ByteArray.data_append, Array.toList_append, ← list_of T]; rfl
theorem byte_sum (k : Nat) : 48 + UInt8.ofNat k = UInt8.ofNat (48 + k) := by rw [UInt8.ofNat_add]; rfl
theorem minus_list (T : ByteArray) : (⟨#[45]⟩ ++ T : ByteArray).toList = 45 :: T.toList := by
  rw [list_of, ByteArray.data_append, Array.toList_append, ← list_of T]; rfl
theorem byte_arg (u : Nat) : ((48 + (u : Int) % 10).toNat) = 48 + u % 10 := by omega
set_option maxHeartbeats 1000000 in
theorem refFormat_any (n : Int) (hn : In64 n) (w : World) :
    Calls Tryz.prog 52 #[.int .i64 n] w fun e w' => ∃ T : ByteArray, e = .returned (.string T) ∧ T.toList = Lib.itoa n ∧ Below w.heap.size w w' := by
  have hm := mag_in hn
  have hl := dec_len n.natAbs (by unfold In64 at hn; omega)
  have HI : Hid ((n < 0 → Lib.itoa n = 45 :: Lib.decDigits n.natAbs) ∧ (¬ n < 0 → Lib.itoa n = Lib.decDigits n.natAbs)) := ⟨itoa_neg', itoa_pos'⟩
  have hM : mag n = ((n.natAbs : Nat) : Int) := rfl
  have hU : n.natAbs < 18446744073709551616 := by unfold In64 at hn; omega
  clear hm
  generalize n.natAbs = U at *
  have HM : Hid (mag n = (U : Int)) := hM
  clear hM
  have hcv := one_byte
  go_enter Tryz.func52, Tryz.ntmps52
  go_wp2_with fail
  refine (size_any _ hn _).mono ?_
  rintro e w' ⟨rfl, rfl⟩
  rw [HM.out]
  go_wp2
  go_loopw [3, 4] (fun x y wr => ∃ (u : Nat) (T : ByteArray), x = .int .u64 u ∧ y = .string T ∧ u < 18446744073709551616 ∧ pre u ++ T.toList = Lib.decDigits U ∧ Below w'.heap.size w' wr) (fun x _ _ => (intOf x).toNat)
  case atStart => exact ⟨U / 10, _, by go_num, rfl, by omega, by first | (rw [list_of]; exact pre_start U) | (rw [byte_arg, list_of]; exact pre_start U) | (rw [byte_sum, list_of]; exact pre_start U), (Below.refl _ _).alloc (Nat.le_refl _) _⟩
  case round =>
    obtain ⟨u, T, rfl, rfl, hu, hp, hb⟩ := hrel
    have hts : T.size ≤ 19 := by
      have := congrArg List.length hp
      rw [List.length_append, list_len] at this
      omega
    have HP : Hid (_ = _) := hp
    have hz := hb.size
    clear hp
    by_cases hpos : 0 < u
    · go_wp2
      go_roundw
      case rel => exact ⟨u / 10, _, by go_num, rfl, by omega, by first | (rw [byte_arg, byte_list, pre_step u hpos]; exact HP.out) | (rw [byte_sum, byte_list, pre_step u hpos]; exact HP.out), hb.alloc hz _⟩
      case measure => simp [intOf]; omega
    · have h0 : u = 0 := by omega
      subst h0
      have HT : Hid (T.toList = Lib.decDigits U) := HP.out
      by_cases hneg : n < 0
      · go_wp2
        go_ret
        exact ⟨_, rfl, by rw [minus_list, HT.out, HI.out.1 hneg], hb⟩
      · go_wp2
        go_ret
        exact ⟨_, rfl, by rw [HT.out, HI.out.2 hneg], hb⟩
end Go.Proofs.YtchbhmolnoggfaaGreatDoor

namespace Go.Proofs.YtchbhmolnoggfaaGreatDoor
open Go.ChangeShapes Go.WideShapes Go.ChangeAt Go.RowKit
theorem refParse_any (s : ByteArray) (w : World) (hs : s.size ≤ 281474976710656) :
    Calls Tryz.prog 53 #[.string s] w fun e w' => e = .returned (.tuple #[.int .i64 (prsV s.toList), .int .i64 (prsE s.toList)]) ∧ w' = w := by
  by_cases h : 0 < s.size
  · by_cases h1 : s[0].toNat = 45
    · by_cases h2 : 0 < (s.extract 1 s.size).size
      · by_cases h3 : (s.extract 1 s.size)[0].toNat = 48
        · obtain ⟨f1, _⟩ := ((form_minus h h1).2 h2).1 h3
          rw [(prs_bad f1).1, (prs_bad f1).2]
          have a0 : decide ((0 : Int) < (s.size : Int)) = true := by simp; omega
          have a2 : ((s[0].toNat : Int) == 45) = true := by simp; omega
          have a3 : (s.extract 1 s.size).toList.isEmpty = false := by rw [list_cons _ h2]; rfl
          have a4 : (((s.extract 1 s.size)[0].toNat : Int) == 48) = true := by simp; omega
          have h2' : 0 < s.size - 1 := by simpa using h2
          go_enter Tryz.func53, Tryz.ntmps53
          go_wp2
          go_ret2
          exact ⟨rfl, rfl⟩
        · exact refParse_minus s w hs h h1 h2 h3
      · have e1 : s.size = 1 := by simp at h2; omega
        have f1 := (form_minus h h1).1 e1
        rw [(prs_bad f1).1, (prs_bad f1).2]
        have a0 : decide ((0 : Int) < (s.size : Int)) = true := by simp; omega
        have a2 : ((s[0].toNat : Int) == 45) = true := by simp; omega
        have a3 : (s.extract 1 s.size).toList.isEmpty = true := by
          have : (s.extract 1 s.size).toList = [] := List.eq_nil_of_length_eq_zero (by rw [list_tail, List.length_drop, list_len]; omega)
          rw [this]; rfl
        clear e1 h2
        go_enter Tryz.func53, Tryz.ntmps53
        go_wp2
        go_ret2
        exact ⟨rfl, rfl⟩
    · by_cases h3 : s[0].toNat = 48
      · by_cases h4 : s.size = 1
        · exact refParse_plain s w hs h h1 (.inr ⟨h3, h4⟩)
        · have f1 := form_zeros h h3 (by omega)
          rw [(prs_bad f1).1, (prs_bad f1).2]
          have a0 : decide ((0 : Int) < (s.size : Int)) = true := by simp; omega
          have a1 : s.toList.isEmpty = false := by rw [list_cons s h]; rfl
          have a2 : ((s[0].toNat : Int) == 45) = false := by simp; omega
          have a4 : ((s[0].toNat : Int) == 48) = true := by simp; omega
          have a5 : decide ((1 : Int) < (s.size : Int)) = true := by simp; omega
          go_enter Tryz.func53, Tryz.ntmps53
          go_wp2
          go_ret2
          exact ⟨rfl, rfl⟩
      · exact refParse_plain s w hs h h1 (.inl h3)
  · have h0 : s.size = 0 := by omega
    have f1 := form_nil h0
    rw [(prs_bad f1).1, (prs_bad f1).2]
    have e : s.toList = [] := List.eq_nil_of_length_eq_zero (by rw [list_len]; exact h0)
    have es : s = ⟨#[]⟩ := bytes_inj (by rw [← list_of, e])
    subst es
    clear h h0 f1 e hs
    go_enter Tryz.func53, Tryz.ntmps53
    go_wp2
    go_ret2
    exact ⟨rfl, rfl⟩
end Go.Proofs.YtchbhmolnoggfaaGreatDoor

namespace Go.Proofs.YtchbhmolnoggfaaGreatDoor
open Go.RowKit Go.Deep Go.ChangeShapes Go.WideShapes Go.ChangeAt
theorem getD_at (t : ByteArray) {i : Nat} (h : i < t.size) : t.data.getD i 0 = t[i] := by
  simp [Array.getD, h]; rfl
theorem ch_at (t : ByteArray) {i : Nat} (h : i < t.size) : chOk t i = ((decide (97 ≤ t[i].toNat) && decide (t[i].toNat ≤ 122)) || (!(i == 0) && (decide (48 ≤ t[i].toNat) && decide (t[i].toNat ≤ 57)))) := by
  unfold chOk
  rw [getD_at t h]
theorem nm_all {t : ByteArray} (h0 : t.size ≠ 0) (h16 : t.size ≤ 16) : nmB t = (List.range t.size).all (chOk t) := by
  unfold nmB
  have e1 : (t.size == 0) = false := by simp [h0]
  rw [e1, decide_eq_true h16]
  rfl
set_option maxHeartbeats 500000 in
set_option maxRecDepth 100000 in
theorem rName_T (w : World) (t : ByteArray) (hs : t.size ≤ 4096) : Calls Tryz.prog 24 #[.string t] w fun e w' => e = .returned (.bool (nmB t)) ∧ w' = w := by
  by_cases h0 : t.size = 0
  · have HN : Hid (nmB t = false) := by show _ = _; unfold nmB; simp [h0]
    have a1 : decide ((t.size : Int) < 1) = true := decide_eq_true (by omega)
    have a2 : decide (t.size < 1) = true := decide_eq_true (by omega)
    go_enter Tryz.func24, Tryz.ntmps24
    go_wp2_with fail
    go_ret
    exact ⟨by rw [HN.out]; rfl, rfl⟩
  have a1 : decide ((t.size : Int) < 1) = false := decide_eq_false (by omega)
  have a2 : decide (t.size < 1) = false := decide_eq_false (by omega)
  by_cases h16 : t.size ≤ 16
  · rw [nm_all h0 h16]
    have b1 : decide ((16 : Int) < (t.size : Int)) = false := decide_eq_false (by omega)
    have b2 : decide (16 < t.size) = false := decide_eq_false (by omega)
    have hz : 0 < t.size := by omega
    have hzI : (0 : Int) < (t.size : Int) := by omega
    by_cases hc0 : 97 ≤ t[0].toNat ∧ t[0].toNat ≤ 122
    · have c1 : decide ((t[0].toNat : Int) < 97) = false := decide_eq_false (by omega)
      have c2 : decide ((122 : Int) < (t[0].toNat : Int)) = false := decide_eq_false (by omega)
      have H0 : Hid (chOk t 0 = true) := by show _ = _; rw [ch_at t hz, decide_eq_true hc0.1, decide_eq_true hc0.2]; rfl
      clear hc0
      go_enter Tryz.func24, Tryz.ntmps24
      go_wp2_with fail
      go_loop [3] (fun iv => ∃ k : Nat, iv = .int .i64 (k : Int) ∧ 1 ≤ k ∧ k ≤ t.size ∧ Hid (∀ i, i < k → chOk t i = true)) (fun iv => t.size - (intOf iv).toNat)
      case atStart => exact ⟨1, rfl, Nat.le_refl _, hz, fun i hi => by have e : i = 0 := by omega
                                                                       rw [e]; exact H0.out⟩
      case round =>
        obtain ⟨k, rfl, hk1, hk, HA⟩ := hrel
        by_cases hlt : k < t.size
        · have hltI : decide ((k : Int) < (t.size : Int)) = true := decide_eq_true (by omega)
          have hltJ : (k : Int) < (t.size : Int) := by omega
          have hk0 : (0 : Int) ≤ (k : Int) := by omega
          have hdef := ch_at t hlt
          have ek : (k == 0) = false := by simp; omega
          rw [ek] at hdef
          by_cases l1 : 97 ≤ t[k].toNat ∧ t[k].toNat ≤ 122
          · have x1 : decide ((t[k].toNat : Int) < 97) = false := decide_eq_false (by omega)
            have x2 : decide ((122 : Int) < (t[k].toNat : Int)) = false := decide_eq_false (by omega)
            have HN : Hid (∀ i, i < k + 1 → chOk t i = true) := fun i hi => by
              by_cases e : i = k
              · rw [e, hdef, decide_eq_true l1.1, decide_eq_true l1.2]; rfl
              · exact HA.out i (by omega)
            clear hdef l1
            go_wp2_with fail
            go_round
            case rel => exact ⟨k + 1, by go_num, by omega, by omega, HN⟩
            case measure => simp [intOf]; omega
          · by_cases d1 : 48 ≤ t[k].toNat ∧ t[k].toNat ≤ 57
            · have x1 : decide ((t[k].toNat : Int) < 97) = true := decide_eq_true (by omega)
              have x3 : decide ((t[k].toNat : Int) < 48) = false := decide_eq_false (by omega)
              have x4 : decide ((57 : Int) < (t[k].toNat : Int)) = false := decide_eq_false (by omega)
              have HN : Hid (∀ i, i < k + 1 → chOk t i = true) := fun i hi => by
                by_cases e : i = k
                · rw [e, hdef, decide_eq_true d1.1, decide_eq_true d1.2]; simp
                · exact HA.out i (by omega)
              clear hdef l1 d1
              go_wp2_with fail
              go_round
              case rel => exact ⟨k + 1, by go_num, by omega, by omega, HN⟩
              case measure => simp [intOf]; omega
            · have HF : Hid ((List.range t.size).all (chOk t) = false) := all_no hlt (by
                rw [hdef]
                have y1 : (decide (97 ≤ t[k].toNat) && decide (t[k].toNat ≤ 122)) = false := by
                  rw [Bool.and_eq_false_iff]; simp only [decide_eq_false_iff_not]; omega
                have y2 : (decide (48 ≤ t[k].toNat) && decide (t[k].toNat ≤ 57)) = false := by
                  rw [Bool.and_eq_false_iff]; simp only [decide_eq_false_iff_not]; omega
                rw [y1, y2]; rfl)
              rcases (by omega : t[k].toNat < 48 ∨ (57 < t[k].toNat ∧ t[k].toNat < 97) ∨ 122 < t[k].toNat) with g | g | g
              · have x1 : decide ((t[k].toNat : Int) < 97) = true := decide_eq_true (by omega)
                have x3 : decide ((t[k].toNat : Int) < 48) = true := decide_eq_true (by omega)
                clear hdef l1 d1 g
                go_wp2_with fail
                go_ret
                exact ⟨by rw [HF.out]; rfl, rfl⟩
              · have x1 : decide ((t[k].toNat : Int) < 97) = true := decide_eq_true (by omega)
                have x3 : decide ((t[k].toNat : Int) < 48) = false := decide_eq_false (by omega)
                have x4 : decide ((57 : Int) < (t[k].toNat : Int)) = true := decide_eq_true (by omega)
                clear hdef l1 d1 g
                go_wp2_with fail
                go_ret
                exact ⟨by rw [HF.out]; rfl, rfl⟩
              · have x1 : decide ((t[k].toNat : Int) < 97) = false := decide_eq_false (by omega)
                have x2 : decide ((122 : Int) < (t[k].toNat : Int)) = true := decide_eq_true (by omega)
                have x3 : decide ((t[k].toNat : Int) < 48) = false := decide_eq_false (by omega)
                have x4 : decide ((57 : Int) < (t[k].toNat : Int)) = true := decide_eq_true (by omega)
                clear hdef l1 d1 g
                go_wp2_with fail
                go_ret
                exact ⟨by rw [HF.out]; rfl, rfl⟩
        · obtain rfl : k = t.size := by omega
          have hltI : decide ((t.size : Int) < (t.size : Int)) = false := by simp
          have HF : Hid ((List.range t.size).all (chOk t) = true) := by
            show _ = _
            rw [List.all_eq_true]
            intro i hi
            exact HA.out i (List.mem_range.1 hi)
          go_wp2_with fail
          go_ret
          exact ⟨by rw [HF.out]; rfl, rfl⟩
    · have HF : Hid ((List.range t.size).all (chOk t) = false) := all_no hz (by
        rw [ch_at t hz]
        have y1 : (decide (97 ≤ t[0].toNat) && decide (t[0].toNat ≤ 122)) = false := by
          rw [Bool.and_eq_false_iff]; simp only [decide_eq_false_iff_not]; omega
        rw [y1]; rfl)
      rcases (by omega : t[0].toNat < 97 ∨ 122 < t[0].toNat) with g | g
      · have x1 : decide ((t[0].toNat : Int) < 97) = true := decide_eq_true (by omega)
        clear hc0 g
        go_enter Tryz.func24, Tryz.ntmps24
        go_wp2_with fail
        go_ret
        exact ⟨by rw [HF.out]; rfl, rfl⟩
      · have x1 : decide ((t[0].toNat : Int) < 97) = false := decide_eq_false (by omega)
        have x2 : decide ((122 : Int) < (t[0].toNat : Int)) = true := decide_eq_true (by omega)
        clear hc0 g
        go_enter Tryz.func24, Tryz.ntmps24
        go_wp2_with fail
        go_ret
        exact ⟨by rw [HF.out]; rfl, rfl⟩
  · have HN : Hid (nmB t = false) := by show _ = _; unfold nmB; rw [decide_eq_false h16]; simp
    have b1 : decide ((16 : Int) < (t.size : Int)) = true := decide_eq_true (by omega)
    have b2 : decide (16 < t.size) = true := decide_eq_true (by omega)
    go_enter Tryz.func24, Tryz.ntmps24
    go_wp2_with fail
    go_ret
    exact ⟨by rw [HN.out]; rfl, rfl⟩
end Go.Proofs.YtchbhmolnoggfaaGreatDoor

namespace Go.Proofs.YtchbhmolnoggfaaGreatDoor
open Go.RowKit Go.Deep Go.ChangeShapes Go.WideShapes Go.ChangeAt
theorem wordOf_S (c : Nat) (hc : 1 ≤ c ∧ c ≤ 10 ∧ c ≠ 6) (w : World) : Calls Tryz.prog 35 #[.int .i64 (c : Int), .int .i64 0] w fun e w' => e = .returned (.string (shT c)) ∧ w' = w := by
  rcases (by omega : c = 1 ∨ c = 2 ∨ c = 3 ∨ c = 4 ∨ c = 5 ∨ c = 7 ∨ c = 8 ∨ c = 9 ∨ c = 10) with rfl | rfl | rfl | rfl | rfl | rfl | rfl | rfl | rfl
  · go_enter Tryz.func35, Tryz.ntmps35
    go_wp2
    go_ret
    exact ⟨rfl, rfl⟩
  · go_enter Tryz.func35, Tryz.ntmps35
    go_wp2
    go_ret
    exact ⟨rfl, rfl⟩
  · go_enter Tryz.func35, Tryz.ntmps35
    go_wp2
    go_ret
    exact ⟨rfl, rfl⟩
  · go_enter Tryz.func35, Tryz.ntmps35
    go_wp2
    go_ret
    exact ⟨rfl, rfl⟩
  · go_enter Tryz.func35, Tryz.ntmps35
    go_wp2
    go_ret
    exact ⟨rfl, rfl⟩
  · go_enter Tryz.func35, Tryz.ntmps35
    go_wp2
    go_ret
    exact ⟨rfl, rfl⟩
  · go_enter Tryz.func35, Tryz.ntmps35
    go_wp2
    go_ret
    exact ⟨rfl, rfl⟩
  · go_enter Tryz.func35, Tryz.ntmps35
    go_wp2
    go_ret
    exact ⟨rfl, rfl⟩
  · go_enter Tryz.func35, Tryz.ntmps35
    go_wp2
    go_ret
    exact ⟨rfl, rfl⟩
theorem beq_tl {a b : ByteArray} : (a.toList == b.toList) = true ↔ a = b := by
  rw [beq_iff_eq, ByteArray.toList_eq, ByteArray.toList_eq]
  exact ⟨fun h => ba_ext h, fun h => by rw [h]⟩
set_option maxHeartbeats 500000 in
theorem rcode_T (w : World) (t : ByteArray) (h0 : t.size ≠ 0) : Calls Tryz.prog 25 #[.string t] w fun e w' => e = .returned (.tuple #[.int .i64 (dcd t).1, .int .i64 (dcd t).2]) ∧ w' = w := by
  have HD : Hid (_ = _) := dcd_of h0
  generalize dcd t = D at *
  have hO := fun W => ropNamed_any t W
  have hb := look_le opT t 12 1
  generalize hLO : look opT t 1 12 = LO at *
  clear hLO
  go_enter Tryz.func25, Tryz.ntmps25
  go_wp2_with fail
  go_loop [4] (fun i => ∃ k : Nat, 1 ≤ k ∧ k ≤ 11 ∧ i = .int .i64 k ∧ Hid (lk6 t 10 1 = lk6 t (11 - k) k)) (fun i => 11 - (intOf i).toNat)
  case atStart => exact ⟨1, by omega, by omega, rfl, rfl⟩
  case round =>
    obtain ⟨k, k1, k2, rfl, HL⟩ := hrel
    by_cases hlt : k ≤ 10
    · have hltI : decide ((k : Int) ≤ 10) = true := decide_eq_true (by omega)
      have e1 : 11 - k = (10 - k) + 1 := by omega
      have e2 : 11 - (k + 1) = 10 - k := by omega
      by_cases h6 : k = 6
      · have HN : Hid (lk6 t 10 1 = lk6 t (11 - (k + 1)) (k + 1)) := by
          show _ = _
          rw [HL.out, e1, lk6, if_neg (fun z => z.1 h6), e2]
        subst h6
        clear HL e1 e2
        go_wp2_with fail
        go_round
        case rel => exact ⟨7, by omega, by omega, rfl, HN⟩
        case measure => simp [intOf]
      · have b6 : ((k : Int) != 6) = true := by simp; omega
        have hW := fun W => wordOf_S k ⟨k1, hlt, h6⟩ W
        cases hm : ((shT k).toList == t.toList) with
        | false =>
          have HN : Hid (lk6 t 10 1 = lk6 t (11 - (k + 1)) (k + 1)) := by
            show _ = _
            rw [HL.out, e1, lk6, if_neg (fun z => by rw [beq_tl.2 z.2] at hm; cases hm), e2]
          clear HL e1 e2 h6
          go_wp2_with (go_at_call 35; refine (hW _).mono ?_; rintro e w' ⟨rfl, rfl⟩)
          go_round
          case rel => exact ⟨k + 1, by omega, by omega, by go_num, HN⟩
          case measure => simp [intOf]; omega
        | true =>
          have HN : Hid (D = ((k : Int), 0)) := by
            show _ = _
            have ek : lk6 t 10 1 = k := by rw [HL.out, e1, lk6, if_pos ⟨h6, beq_tl.1 hm⟩]
            rw [HD.out, ek, if_pos (by omega)]
          clear HL e1 e2 h6
          go_wp2_with (go_at_call 35; refine (hW _).mono ?_; rintro e w' ⟨rfl, rfl⟩)
          go_ret2
          exact ⟨by rw [HN.out]; rfl, rfl⟩
    · have e11 : k = 11 := by omega
      subst e11
      have hz : lk6 t 10 1 = 0 := HL.out
      rw [hz, if_neg (by simp)] at HD
      clear HL
      by_cases ho : LO = 0
      · subst ho
        have HN : Hid (D = (0, 0)) := by show _ = _; rw [HD.out, if_neg (by simp)]
        have hO' : ∀ W, Calls Tryz.prog 36 #[.string t] W fun e w' => e = .returned (.tuple #[.int .i64 0, .int .i64 10]) ∧ w' = W := hO
        clear hO HD
        go_wp2_with (go_at_call 36; refine (hO' _).mono ?_; rintro e w' ⟨rfl, rfl⟩)
        go_ret2
        exact ⟨by rw [HN.out]; rfl, rfl⟩
      · have HN : Hid (D = (6, (LO : Int))) := by show _ = _; rw [HD.out, if_pos ho]
        have hO' : ∀ W, Calls Tryz.prog 36 #[.string t] W fun e w' => e = .returned (.tuple #[.int .i64 (LO : Int), .int .i64 0]) ∧ w' = W := fun W => by
          have := hO W
          rw [show lookE 10 LO = 0 from if_neg ho] at this
          exact this
        clear hO HD ho
        go_wp2_with (go_at_call 36; refine (hO' _).mono ?_; rintro e w' ⟨rfl, rfl⟩)
        go_ret2
        exact ⟨by rw [HN.out]; rfl, rfl⟩
theorem rfmt (n : Int) (hn : In64 n) (w : World) : Calls Tryz.prog 52 #[.int .i64 n] w fun e w' => ∃ T : ByteArray, e = .returned (.string T) ∧ Hid (T = ⟨(Lib.itoa n).toArray⟩) ∧ T.size ≤ 20 ∧ Keeps (fun _ => False) w w' := by
  refine (refFormat_any n hn w).mono ?_
  rintro e w' ⟨T, rfl, hT, hb⟩
  have e1 : T = ⟨(Lib.itoa n).toArray⟩ := ba_ext (by rw [← ByteArray.toList_eq, hT])
  refine ⟨T, rfl, e1, ?_, .ofBelow hb⟩
  have := (round_to n hn).2.2.2
  rw [e1]
  show (Lib.itoa n).toArray.size ≤ 20
  simpa using this
theorem cat_cons' (c : UInt8) (l : List UInt8) : (⟨#[c]⟩ ++ ⟨l.toArray⟩ : ByteArray) = ⟨(c :: l).toArray⟩ := ba_ext (by rw [ByteArray.data_append, Array.toList_append]; rfl)
set_option maxHeartbeats 500000 in
theorem rregister_T (w : World) (t : ByteArray) : Calls Tryz.prog 37 #[.string t] w fun e w' => e = .returned (.int .i64 (if regB t = true then regN t else -1)) ∧ Keeps (fun _ => False) w w' := by
  rw [← rgl_all]
  have HF : Hid (∀ W (n : Nat), n ≤ 16 → Calls Tryz.prog 52 #[.int .i64 (n : Int)] W fun e w' => ∃ T : ByteArray, e = .returned (.string T) ∧ Hid (T = ⟨(Lib.itoa (n : Int)).toArray⟩) ∧ T.size ≤ 20 ∧ Keeps (fun _ => False) W w') := fun W n h => rfmt (n : Int) ⟨by omega, by omega⟩ W
  generalize hR : rgl t 16 0 = R at *
  have HR : Hid (_ = _) := hR
  clear hR
  go_enter Tryz.func37, Tryz.ntmps37
  go_wp2_with fail
  go_loopw [3] (fun i Wr => ∃ k : Nat, k ≤ 16 ∧ i = .int .i64 (k : Int) ∧ Hid (rgl t (16 - k) k = R) ∧ Keeps (fun _ => False) w Wr) (fun i _ => 16 - (intOf i).toNat)
  case atStart => exact ⟨0, by omega, rfl, HR, Keeps.refl _ _⟩
  case round =>
    obtain ⟨k, hk, rfl, HL, kr⟩ := hrel
    by_cases hlt : k < 16
    · have hltI : decide ((k : Int) < 16) = true := decide_eq_true (by omega)
      have e1 : 16 - k = (15 - k) + 1 := by omega
      have e2 : 16 - (k + 1) = 15 - k := by omega
      by_cases hm : t = ⟨(114 :: Lib.itoa (k : Int)).toArray⟩
      · have HN : Hid (R = (k : Int)) := by
          show _ = _
          rw [← HL.out, e1, rgl, if_pos hm]
        have HM : Hid (t = ⟨(114 :: Lib.itoa (k : Int)).toArray⟩) := hm
        clear HL e1 e2 hm
        go_wp2_with (go_at_call 52; refine (HF.out _ k (by omega)).mono ?_; rintro e w6 ⟨T, rfl, hT, hTs, k6⟩; have hcmp : (t.toList == (⟨#[114]⟩ ++ T : ByteArray).toList) = true := beq_tl.2 (by rw [hT.out, cat_cons']; exact HM.out))
        go_ret
        exact ⟨by rw [HN.out]; rfl, kr.trans k6⟩
      · have HN : Hid (rgl t (16 - (k + 1)) (k + 1) = R) := by
          show _ = _
          rw [← HL.out, e1, rgl, if_neg hm, e2]
        have HM : Hid (t ≠ ⟨(114 :: Lib.itoa (k : Int)).toArray⟩) := hm
        clear HL e1 e2 hm
        go_wp2_with (go_at_call 52; refine (HF.out _ k (by omega)).mono ?_; rintro e w6 ⟨T, rfl, hT, hTs, k6⟩; have hcmp : (t.toList == (⟨#[114]⟩ ++ T : ByteArray).toList) = false := (by cases hb : (t.toList == (⟨#[114]⟩ ++ T : ByteArray).toList) with | false => rfl | true => exact absurd (by rw [← cat_cons', ← hT.out]; exact beq_tl.1 hb) HM.out))
        go_roundw
        case rel => exact ⟨k + 1, by omega, by go_num, HN, kr.trans k6⟩
        case measure => simp [intOf]; omega
    · have e16 : k = 16 := by omega
      subst e16
      have HN : Hid (R = -1) := HL.out.symm
      clear HL
      go_wp2_with fail
      go_ret
      exact ⟨by rw [HN.out]; rfl, kr⟩
theorem iOr : (Tryz.prog.info? 57).map (·.size) = some 2 := by kernel_rfl
set_option maxHeartbeats 500000 in
set_option maxRecDepth 100000 in
theorem rsource_T (w : World) (t : ByteArray) (hs : t.size ≤ 4096) : Calls Tryz.prog 38 #[.string t] w fun e w' => e = .returned (.tuple #[.agg #[.bool (regB t), .int .i64 (if regB t = true then regN t else prsV t.toList)], .bool (regB t || prsE t.toList == 0)]) ∧ Keeps (fun _ => False) w w' := by
  obtain ⟨w0, hw0⟩ : ∃ w0, w0 = w.alloc (.cells #[.bool false, .int .i64 0] 57) := ⟨_, rfl⟩
  have k0 : Keeps (fun _ => False) w w0 := by rw [hw0]; exact (Keeps.refl _ w).alloc _
  have m0 : CL w0 w.heap.size [.bool false, .int .i64 0] := by rw [hw0]; exact CL.made w [.bool false, .int .i64 0] 57
  have hR := rregister_T w0 t
  have hP := fun W => refParse_any t W (by omega)
  cases hb : regB t with
  | true =>
    have hi := regB_inv hb
    rw [hb, if_pos rfl] at hR
    rw [if_pos rfl]
    have b1 : decide ((0 : Int) ≤ regN t) = true := decide_eq_true hi.2.1
    clear hi
    generalize regN t = n at *
    go_enter Tryz.func38, Tryz.ntmps38
    go_wp2_with (first | (rw [← hw0]; clear hw0) | (go_at_call 37; refine hR.mono ?_; clear hR; rintro e w1 ⟨rfl, k1⟩; have m1 := m0.keep (by show 0 < 2; decide) k1 (fun e => e)) | (refine wpList_store_cl rfl 57 _ _ rfl w.heap.size 0 2 _ rfl rfl rfl m1 (by show 2 ≤ 2; decide) iOr (all_oneCell_toArray (by simp [Value.oneCell'])) ?_; intro w5 hc5 k5 hsz5; clear hsz5; have y0 := hc5.c 0 _ rfl; have y1 := hc5.c 1 _ rfl))
    (try simp only [Exit.inBlock, Exit.then])
    refine bodyPost_ret (v := .tuple #[.agg #[.bool true, .int .i64 n], .bool true]) (by rw [results_cell_tmp rfl]; go_simp) rfl ⟨rfl, ?_⟩
    exact (k0.trans k1).trans' k5 (fun _ _ e => e) (fun i hi e => by have e : i = w.heap.size := e; omega)
  | false =>
    rw [hb, if_neg (by decide)] at hR
    rw [if_neg (by decide), Bool.false_or]
    generalize prsV t.toList = pv at *
    generalize prsE t.toList = pe at *
    cases hpe : (pe == 0) with
    | true =>
      go_enter Tryz.func38, Tryz.ntmps38
      go_wp2_with (first | (rw [← hw0]; clear hw0) | (go_at_call 37; refine hR.mono ?_; clear hR; rintro e w1 ⟨rfl, k1⟩; have m1 := m0.keep (by show 0 < 2; decide) k1 (fun e => e)) | (go_at_call 53; refine (hP w1).mono ?_; clear hP; rintro e w2 ⟨rfl, e2⟩; subst e2) | (refine wpList_store_cl rfl 57 _ _ rfl w.heap.size 0 2 _ rfl rfl rfl m1 (by show 2 ≤ 2; decide) iOr (all_oneCell_toArray (by simp [Value.oneCell'])) ?_; intro w5 hc5 k5 hsz5; clear hsz5; have y0 := hc5.c 0 _ rfl; have y1 := hc5.c 1 _ rfl))
      (try simp only [Exit.inBlock, Exit.then])
      refine bodyPost_ret (v := .tuple #[.agg #[.bool false, .int .i64 pv], .bool true]) (by rw [results_cell_tmp rfl]; go_simp) rfl ⟨rfl, ?_⟩
      exact (k0.trans k1).trans' k5 (fun _ _ e => e) (fun i hi e => by have e : i = w.heap.size := e; omega)
    | false =>
      go_enter Tryz.func38, Tryz.ntmps38
      go_wp2_with (first | (rw [← hw0]; clear hw0) | (go_at_call 37; refine hR.mono ?_; clear hR; rintro e w1 ⟨rfl, k1⟩; have m1 := m0.keep (by show 0 < 2; decide) k1 (fun e => e)) | (go_at_call 53; refine (hP w1).mono ?_; clear hP; rintro e w2 ⟨rfl, e2⟩; subst e2) | (refine wpList_store_cl rfl 57 _ _ rfl w.heap.size 0 2 _ rfl rfl rfl m1 (by show 2 ≤ 2; decide) iOr (all_oneCell_toArray (by simp [Value.oneCell'])) ?_; intro w5 hc5 k5 hsz5; clear hsz5; have y0 := hc5.c 0 _ rfl; have y1 := hc5.c 1 _ rfl))
      (try simp only [Exit.inBlock, Exit.then])
      refine bodyPost_ret (v := .tuple #[.agg #[.bool false, .int .i64 pv], .bool false]) (by rw [results_cell_tmp rfl]; go_simp) rfl ⟨rfl, ?_⟩
      exact (k0.trans k1).trans' k5 (fun _ _ e => e) (fun i hi e => by have e : i = w.heap.size := e; omega)
end Go.Proofs.YtchbhmolnoggfaaGreatDoor

