import Derived.Test.YtanmpioplckgbaaDoorRefSize
import Derived.Test.YtanmpioplckgbaaDoorRound
import Derived.Laws.BytesString
namespace Go.Proofs.YtanmpioplckgbaaDoor
open Go.ChangeShapes Go.WideShapes Go.ChangeAt Go.RowKit

theorem one_byte (W : World) (x : Int) : (convert 47 9 (.slice (some ⟨W.heap.size, 0, none⟩) 1 1)).run Tryd.prog (W.alloc (.cells #[.int .u8 x] 5)) = .ok (.string ⟨#[UInt8.ofNat x.toNat]⟩) (W.alloc (.cells #[.int .u8 x] 5)) := by
  rw [run_convert_bytes_string _ _ _ 5 _ 1 1 Tryd.underlying47 Tryd.underlying5 Tryd.underlying9]
  refine (run_bytesToString _ _ 1 1 [x] ?_).trans rfl
  simp [loadCells, go_sem]
/-- The digits that are still to come. -/
def pre (u : Nat) : List UInt8 := if u = 0 then [] else Lib.decDigits u
theorem pre_start (U : Nat) : pre (U / 10) ++ [UInt8.ofNat (48 + U % 10)] = Lib.decDigits U := by
  unfold pre
  by_cases h : U < 10
  · rw [if_pos (by omega), dec_small h, show U % 10 = U by omega]; rfl
  · rw [if_neg (by omega), dec_big h]
theorem pre_step (u : Nat) (h : 0 < u) (l : List UInt8) : pre (u / 10) ++ (UInt8.ofNat (48 + u % 10) :: l) = pre u ++ l := by
  have e := pre_start u
  have e2 : pre u = Lib.decDigits u := by unfold pre; rw [if_neg (by omega)]
  rw [e2, ← e]; simp
theorem byte_list (x : Nat) (T : ByteArray) : (⟨#[UInt8.ofNat x]⟩ ++ T : ByteArray).toList = UInt8.ofNat x :: T.toList := by
  rw [list_of, ByteArray.data_append, Array.toList_append, ← list_of T]; rfl
theorem byte_sum (k : Nat) : 48 + UInt8.ofNat k = UInt8.ofNat (48 + k) := by rw [UInt8.ofNat_add]; rfl
theorem minus_list (T : ByteArray) : (⟨#[45]⟩ ++ T : ByteArray).toList = 45 :: T.toList := by
  rw [list_of, ByteArray.data_append, Array.toList_append, ← list_of T]; rfl
theorem byte_arg (u : Nat) : ((48 + (u : Int) % 10).toNat) = 48 + u % 10 := by omega

set_option maxHeartbeats 1000000 in
theorem refFormat_any (n : Int) (hn : In64 n) (w : World) :
    Calls Tryd.prog 31 #[.int .i64 n] w fun e w' => ∃ T : ByteArray, e = .returned (.string T) ∧ T.toList = Lib.itoa n ∧ Below w.heap.size w w' := by
  have hm := mag_in hn
  have hl := dec_len n.natAbs (by unfold In64 at hn; omega)
  have HI : Hid ((n < 0 → Lib.itoa n = 45 :: Lib.decDigits n.natAbs) ∧ (¬ n < 0 → Lib.itoa n = Lib.decDigits n.natAbs)) := ⟨itoa_neg', itoa_pos'⟩
  have hM : mag n = ((n.natAbs : Nat) : Int) := rfl
  have hU : n.natAbs < 18446744073709551616 := by unfold In64 at hn; omega
  clear hm
  generalize n.natAbs = U at *
  have HM : Hid (mag n = (U : Int)) := hM
  clear hM
  have hcv := one_byte
  go_enter Tryd.func31, Tryd.ntmps31
  go_wp2_with fail
  refine (size_any _ hn _).mono ?_
  rintro e w' ⟨rfl, rfl⟩
  rw [HM.out]
  go_wp2
  go_loopw [3, 4] (fun x y wr => ∃ (u : Nat) (T : ByteArray), x = .int .u64 u ∧ y = .string T ∧ u < 18446744073709551616 ∧ pre u ++ T.toList = Lib.decDigits U ∧ Below w'.heap.size w' wr) (fun x _ _ => (intOf x).toNat)
  case atStart => exact ⟨U / 10, _, by go_num, rfl, by omega, by first | (rw [list_of]; exact pre_start U) | (rw [byte_arg, list_of]; exact pre_start U) | (rw [byte_sum, list_of]; exact pre_start U), (Below.refl _ _).alloc (Nat.le_refl _) _⟩
  case round =>
    obtain ⟨u, T, rfl, rfl, hu, hp, hb⟩ := hrel
    have hts : T.size ≤ 19 := by
      have := congrArg List.length hp
      rw [List.length_append, list_len] at this
      omega
    have HP : Hid (_ = _) := hp
    have hz := hb.size
    clear hp
    by_cases hpos : 0 < u
    · go_wp2
      go_roundw
      case rel => exact ⟨u / 10, _, by go_num, rfl, by omega, by first | (rw [byte_arg, byte_list, pre_step u hpos]; exact HP.out) | (rw [byte_sum, byte_list, pre_step u hpos]; exact HP.out), hb.alloc hz _⟩
      case measure => simp [intOf]; omega
    · have h0 : u = 0 := by omega
      subst h0
      have HT : Hid (T.toList = Lib.decDigits U) := HP.out
      by_cases hneg : n < 0
      · go_wp2
        go_ret
        exact ⟨_, rfl, by rw [minus_list, HT.out, HI.out.1 hneg], hb⟩
      · go_wp2
        go_ret
        exact ⟨_, rfl, by rw [HT.out, HI.out.2 hneg], hb⟩
end Go.Proofs.YtanmpioplckgbaaDoor
