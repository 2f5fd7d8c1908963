import Derived.Test.YtehblpbefkopbaaGreatDoorIsNum
import Derived.Lib.AtoiErrMem
import Derived.Lib.AppendIntMem
namespace Go.Proofs.YtehblpbefkopbaaGreatDoor
open Go.ChangeShapes Go.WideShapes Go.ChangeAt Go.RowKit

theorem prs_bad {l : List UInt8} (h : numForm l = false) : prsV l = 0 ∧ prsE l = 12 := by
  unfold prsV prsE; rw [if_neg (by simp [h]), if_neg (by simp [h])]; exact ⟨rfl, rfl⟩
theorem prs_ok {l : List UInt8} (h : numForm l = true) (h2 : natv 0 (digs l) ≤ lim l) : prsE l = 0 := by
  unfold prsE; rw [if_pos h, if_pos h2]
theorem prs_range {l : List UInt8} (h : numForm l = true) (h2 : ¬ natv 0 (digs l) ≤ lim l) : prsV l = 0 ∧ prsE l = 13 := by
  unfold prsV prsE; rw [if_neg (fun k => h2 k.2), if_pos h, if_neg h2]; exact ⟨rfl, rfl⟩

/-- What the laid error holds. -/
def ErrIs (w : World) : Prop := ∃ tp p, w.var? Tryz.prog "strconv.ErrRange" = some #[.iface tp p]

set_option maxHeartbeats 1000000 in
theorem parse_any (s : ByteArray) (w : World) (hs : s.size ≤ 281474976710656) (hv : ErrIs w) :
    Calls Tryz.prog 85 #[.string s] w fun e w' => e = .returned (.tuple #[.int .i64 (prsV s.toList), .int .i64 (prsE s.toList)]) ∧ Below w.heap.size w w' := by
  cases hf : numForm s.toList
  · rw [(prs_bad hf).1, (prs_bad hf).2]
    go_enter Tryz.func85, Tryz.ntmps85
    go_wp2_with (go_at_call 95; refine (isNum_any _ _ hs).mono ?_; rintro e w' ⟨rfl, rfl⟩)
    go_ret2
    exact ⟨rfl, Below.refl _ _⟩
  · have hp := parseInt_form hf
    by_cases hl : natv 0 (digs s.toList) ≤ lim s.toList
    · rw [if_pos hl, list_of] at hp
      rw [prs_ok hf hl]
      have HP : Hid (_ = _) := hp
      clear hp hl
      go_enter Tryz.func85, Tryz.ntmps85
      go_wp2_with (go_at_call 95; refine (isNum_any _ _ hs).mono ?_; rintro e w' ⟨rfl, rfl⟩)
      refine (Tryz.strconv_ParseInt_10_at64_ok s (by omega) _ HP.out _).mono ?_
      rintro e w1 ⟨rfl, hw⟩
      have hb : Below w'.heap.size w' w1 := by
        rcases hw with rfl | ⟨t, rfl⟩
        · exact Below.refl _ _
        · exact Lib.bytesWorld_below _ _ _
      clear hw
      go_wp2
      go_ret2
      exact ⟨by rw [list_of]; rfl, hb⟩
    · rw [if_neg hl, list_of] at hp
      rw [(prs_range hf hl).1, (prs_range hf hl).2]
      obtain ⟨tp, p, hv⟩ := hv
      have HP : Hid (_ = _) := hp
      have HV : Hid (_ = _) := hv
      clear hp hl hv
      go_enter Tryz.func85, Tryz.ntmps85
      go_wp2_with (go_at_call 95; refine (isNum_any _ _ hs).mono ?_; rintro e w' ⟨rfl, rfl⟩)
      refine (Tryz.strconv_ParseInt_10_at64_range_var s hs HP.out tp p _ HV.out).mono ?_
      rintro e w1 ⟨N, rfl, _, _, hb⟩
      go_wp2
      go_ret2
      exact ⟨rfl, hb⟩

end Go.Proofs.YtehblpbefkopbaaGreatDoor
