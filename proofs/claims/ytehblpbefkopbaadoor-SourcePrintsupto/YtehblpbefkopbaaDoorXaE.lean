import Derived.Test.YtehblpbefkopbaaDoorXaD
namespace Go.Proofs.YtehblpbefkopbaaDoor
open Go.RowKit
attribute [local go_sem] Oper.semAt_some run_store_nf run_store_f
theorem ext_bs (l : Bs) (a b : Nat) : (bs l).extract a b = bs ((l.take b).drop a) := by
  apply ByteArray.ext
  apply Array.toList_inj.1
  rw [ByteArray.data_extract, Array.toList_extract, List.extract_eq_take_drop, bs_list, bs_list, List.drop_take]
theorem bs_get (l : Bs) (k : Nat) (h : k < (bs l).size) : (bs l)[k] = l[k]'h := rfl
theorem tw_step (p : UInt8 → Bool) : ∀ (l : Bs) (k : Nat) (b : UInt8), l[k]? = some b → k ≤ (l.takeWhile p).length → (p b = true → k + 1 ≤ (l.takeWhile p).length) ∧ (p b = false → (l.takeWhile p).length = k)
  | [], k, b, h, _ => by cases h
  | c :: r, 0, b, h, _ => by
    injection h with h; subst h
    rw [List.takeWhile_cons]
    exact ⟨fun e => by rw [if_pos e, List.length_cons]; omega, fun e => by rw [if_neg (by rw [e]; decide)]; rfl⟩
  | c :: r, k + 1, b, h, hk => by
    rw [List.takeWhile_cons] at hk ⊢
    split at hk
    · rename_i hc
      rw [if_pos hc, List.length_cons]
      have := tw_step p r k b h (by rw [List.length_cons] at hk; omega)
      exact ⟨fun e => by have := this.1 e; omega, fun e => by have := this.2 e; omega⟩
    · simp at hk
theorem tw_all (p : UInt8 → Bool) (l : Bs) (h : l.length ≤ (l.takeWhile p).length) : (l.takeWhile p).length = l.length := by
  have := (List.takeWhile_prefix p (l := l)).length_le
  omega
theorem tw_take (p : UInt8 → Bool) (l : Bs) : l.take (l.takeWhile p).length = l.takeWhile p := (List.prefix_iff_eq_take.1 (List.takeWhile_prefix p)).symm
set_option maxHeartbeats 800000 in
theorem longest_LD (l : Bs) (hl : l.length ≤ 140737488355328) (w : World) : Calls Tryd.prog 75 #[.string (bs l), .func (.func 76) #[] #[]] w fun e w' => e = .returned (.string (bs (l.takeWhile isLD))) ∧ w' = w := by
  have hF := fun W b => isLD_any W b
  have hsz : (bs l).size = l.length := rfl
  have h0 : (0 : Int) ≤ 0 := by omega
  go_enter Tryd.func75, Tryd.ntmps75
  go_wp2_with fail
  go_loopw [5] (fun iv Wr => ∃ k : Nat, iv = .int .i64 (k : Int) ∧ k ≤ l.length ∧ k ≤ (l.takeWhile isLD).length ∧ w = Wr) (fun iv _ => l.length + 1 - (intOf iv).toNat)
  case atStart => exact ⟨0, rfl, by omega, by omega, rfl⟩
  case round =>
    obtain ⟨k, rfl, hk1, hk2, rfl⟩ := hrel
    by_cases hk : k < l.length
    · have hks : k < (bs l).size := hk
      have hd : decide ((k : Int) < ((bs l).size : Int)) = true := by simp; omega
      have hd2 : decide (k < (bs l).size) = true := by simp; omega
      have hk0 : (0 : Int) ≤ (k : Int) := by omega
      have hg := bs_get l k hks
      have hst := tw_step isLD l k l[k] (List.getElem?_eq_getElem hk) hk2
      have hFk := fun W => hF W (bs l)[k]
      rw [hg] at hFk
      have hm : (k : Int) + 1 ≤ 9223372036854775807 := by omega
      cases hp : isLD l[k]
      · have HT := hst.2 hp
        have HX : Hid ((bs l).extract 0 k = bs (l.takeWhile isLD)) := by
          show _ = _
          rw [ext_bs, List.drop_zero, ← tw_take isLD l, HT]
        rw [hp] at hFk
        clear hst hp HT hF
        have hk' : (k : Int) ≤ ((bs l).size : Int) := by omega
        go_wp2_with (go_at_call 76; first | (refine (hFk _).mono ?_; rintro e w' ⟨rfl, rfl⟩) | (rw [hg]; refine (hFk _).mono ?_; rintro e w' ⟨rfl, rfl⟩))
        go_ret
        exact ⟨congrArg (fun x => Ending.returned (.string x)) HX.out, rfl⟩
      · have HT : Hid _ := hst.1 hp
        rw [hp] at hFk
        clear hst hp hF
        go_wp2_with (go_at_call 76; first | (refine (hFk _).mono ?_; rintro e w' ⟨rfl, rfl⟩) | (rw [hg]; refine (hFk _).mono ?_; rintro e w' ⟨rfl, rfl⟩))
        go_roundw
        case rel => exact ⟨k + 1, by go_num, by omega, HT.out, trivial⟩
        case measure => simp [intOf]; omega
    · obtain rfl : k = l.length := by omega
      have hd : decide ((l.length : Int) < ((bs l).size : Int)) = false := decide_eq_false (by omega)
      have hd2 : decide (l.length < (bs l).size) = false := decide_eq_false (by omega)
      have HX : Hid ((bs l).extract 0 l.length = bs (l.takeWhile isLD)) := by
        show _ = _
        rw [ext_bs, List.drop_zero, ← tw_take isLD l, tw_all isLD l hk2]
      have hk' : (l.length : Int) ≤ ((bs l).size : Int) := by omega
      go_wp2_with fail
      go_ret
      exact ⟨congrArg (fun x => Ending.returned (.string x)) HX.out, rfl⟩
set_option maxHeartbeats 800000 in
theorem longest_D (l : Bs) (hl : l.length ≤ 140737488355328) (w : World) : Calls Tryd.prog 75 #[.string (bs l), .func (.func 77) #[] #[]] w fun e w' => e = .returned (.string (bs (l.takeWhile digB))) ∧ w' = w := by
  have hF := fun W b => isD_any W b
  have hsz : (bs l).size = l.length := rfl
  have h0 : (0 : Int) ≤ 0 := by omega
  go_enter Tryd.func75, Tryd.ntmps75
  go_wp2_with fail
  go_loopw [5] (fun iv Wr => ∃ k : Nat, iv = .int .i64 (k : Int) ∧ k ≤ l.length ∧ k ≤ (l.takeWhile digB).length ∧ w = Wr) (fun iv _ => l.length + 1 - (intOf iv).toNat)
  case atStart => exact ⟨0, rfl, by omega, by omega, rfl⟩
  case round =>
    obtain ⟨k, rfl, hk1, hk2, rfl⟩ := hrel
    by_cases hk : k < l.length
    · have hks : k < (bs l).size := hk
      have hd : decide ((k : Int) < ((bs l).size : Int)) = true := by simp; omega
      have hd2 : decide (k < (bs l).size) = true := by simp; omega
      have hk0 : (0 : Int) ≤ (k : Int) := by omega
      have hg := bs_get l k hks
      have hst := tw_step digB l k l[k] (List.getElem?_eq_getElem hk) hk2
      have hFk := fun W => hF W (bs l)[k]
      rw [hg] at hFk
      have hm : (k : Int) + 1 ≤ 9223372036854775807 := by omega
      cases hp : digB l[k]
      · have HT := hst.2 hp
        have HX : Hid ((bs l).extract 0 k = bs (l.takeWhile digB)) := by
          show _ = _
          rw [ext_bs, List.drop_zero, ← tw_take digB l, HT]
        rw [hp] at hFk
        clear hst hp HT hF
        have hk' : (k : Int) ≤ ((bs l).size : Int) := by omega
        go_wp2_with (go_at_call 77; first | (refine (hFk _).mono ?_; rintro e w' ⟨rfl, rfl⟩) | (rw [hg]; refine (hFk _).mono ?_; rintro e w' ⟨rfl, rfl⟩))
        go_ret
        exact ⟨congrArg (fun x => Ending.returned (.string x)) HX.out, rfl⟩
      · have HT : Hid _ := hst.1 hp
        rw [hp] at hFk
        clear hst hp hF
        go_wp2_with (go_at_call 77; first | (refine (hFk _).mono ?_; rintro e w' ⟨rfl, rfl⟩) | (rw [hg]; refine (hFk _).mono ?_; rintro e w' ⟨rfl, rfl⟩))
        go_roundw
        case rel => exact ⟨k + 1, by go_num, by omega, HT.out, trivial⟩
        case measure => simp [intOf]; omega
    · obtain rfl : k = l.length := by omega
      have hd : decide ((l.length : Int) < ((bs l).size : Int)) = false := decide_eq_false (by omega)
      have hd2 : decide (l.length < (bs l).size) = false := decide_eq_false (by omega)
      have HX : Hid ((bs l).extract 0 l.length = bs (l.takeWhile digB)) := by
        show _ = _
        rw [ext_bs, List.drop_zero, ← tw_take digB l, tw_all digB l hk2]
      have hk' : (l.length : Int) ≤ ((bs l).size : Int) := by omega
      go_wp2_with fail
      go_ret
      exact ⟨congrArg (fun x => Ending.returned (.string x)) HX.out, rfl⟩
set_option maxHeartbeats 400000 in
theorem fwd_any (l : Bs) (hl : l.length ≤ 140737488355328) (w : World) : Calls Tryd.prog 67 #[.string (bs l)] w fun e w' => e = .returned (.string (bs (fwd l))) ∧ w' = w := by
  have hL := longest_LD l hl
  unfold fwd
  have hsz : (bs (l.takeWhile isLD)).size = (l.takeWhile isLD).length := rfl
  generalize l.takeWhile isLD = x at *
  by_cases h : 16 < x.length
  · have hd : decide ((16 : Int) < ((bs x).size : Int)) = true := decide_eq_true (by omega)
    have hd2 : decide (16 < (bs x).size) = true := decide_eq_true (by omega)
    rw [if_pos h]
    clear h hsz
    go_enter Tryd.func67, Tryd.ntmps67
    go_wp2_with (go_at_call 75; refine (hL _).mono ?_; rintro e w' ⟨rfl, rfl⟩)
    go_ret
    exact ⟨rfl, rfl⟩
  · have hd : decide ((16 : Int) < ((bs x).size : Int)) = false := decide_eq_false (by omega)
    have hd2 : decide (16 < (bs x).size) = false := decide_eq_false (by omega)
    rw [if_neg h]
    clear h hsz
    go_enter Tryd.func67, Tryd.ntmps67
    go_wp2_with (go_at_call 75; refine (hL _).mono ?_; rintro e w' ⟨rfl, rfl⟩)
    go_ret
    exact ⟨rfl, rfl⟩
theorem prs_bs (l : Bs) : (bs l).toList = l := bs_toList l
end Go.Proofs.YtehblpbefkopbaaDoor
