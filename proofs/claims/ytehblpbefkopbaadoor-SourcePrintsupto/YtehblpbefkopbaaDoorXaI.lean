import Derived.Test.YtehblpbefkopbaaDoorXaH
namespace Go.Proofs.YtehblpbefkopbaaDoor
open Go.RowKit Go.ChangeShapes Go.WideShapes Go.ChangeAt
attribute [local go_sem] Oper.semAt_some run_store_nf run_store_f
theorem eqL (a b : Bs) : ((bs a).toList == (bs b).toList) = (a == b) := by rw [bs_toList, bs_toList]
theorem clone_any (l : Bs) (hl : l.length ≤ 140737488355328) (w : World) : Calls Tryd.prog 62 #[.string (bs l)] w fun e w' => e = .returned (.string (bs l)) ∧ Keeps (fun _ => False) w w' := by
  have hC := Tryd.stringslite_Clone (bs l) w (by rw [bs_size]; omega)
  generalize bs l = s at *
  go_enter Tryd.func62, Tryd.ntmps62
  go_wp2_with (refine hC.mono ?_; rintro e w1 ⟨rfl, b1⟩)
  go_ret
  exact ⟨rfl, Keeps.ofBelow b1⟩
theorem tok_rl {w : World} {r : Nat} {T R : Bs} (h : RdM w r T R) : (tok R).length ≤ 140737488355328 := Nat.le_trans (tok_len R) (Nat.le_trans h.rl (by decide))
set_option maxHeartbeats 800000 in
theorem kept_any (l : Bs) {w : World} (hG : SG w) : Calls Tryd.prog 68 #[.string (bs l)] w fun e w' => e = .returned (.bool (kpt.contains l)) ∧ w' = w := by
  have hr := kw_load hG
  have hix := kw_ix
  generalize kwV = V at *
  go_enter Tryd.func68, Tryd.ntmps68
  go_wp2_with (refine wpList_load_run rfl 127 _ rfl ⟨2, 0, none⟩ rfl _ hr ?_; clear hr)
  go_loopw [6] (fun iv Wr => ∃ k : Nat, iv = .int .i64 (k : Int) ∧ k ≤ 9 ∧ (kpt.drop k).contains l = kpt.contains l ∧ w = Wr) (fun iv _ => 30 - (intOf iv).toNat)
  case atStart => exact ⟨0, rfl, by omega, rfl, rfl⟩
  case round =>
    obtain ⟨k, rfl, hk1, hk2, rfl⟩ := hrel
    by_cases hk : k < 9
    · have hd : decide ((k : Int) < 9) = true := by simp; omega
      have hd2 : decide (k < 9) = true := by simp; omega
      have hi := fun W => hix W k hk
      clear hix
      have hst := getD_step kpt [] k (by rw [show kpt.length = 9 from rfl]; exact hk)
      rw [hst, List.contains_cons] at hk2
      generalize kpt.getD k [] = s at *
      have hm : (k : Int) + 1 ≤ 9223372036854775807 := by omega
      cases hp : (s == l)
      · have e1 : ((bs s).toList == (bs l).toList) = false := by rw [eqL]; exact hp
        have hp2 : (l == s) = false := by rw [beq_eq_false_iff_ne] at hp ⊢; exact fun e => hp e.symm
        rw [hp2, Bool.false_or] at hk2
        have HT : Hid (_ = _) := hk2
        clear hk2 hst hp hp2
        go_wp2_with fail
        go_roundw
        case rel => exact ⟨k + 1, by go_num, by omega, HT.out, trivial⟩
        case measure => simp [intOf]; omega
      · have e1 : ((bs s).toList == (bs l).toList) = true := by rw [eqL]; exact hp
        have hp2 : (l == s) = true := by rw [beq_iff_eq] at hp ⊢; exact hp.symm
        rw [hp2, Bool.true_or] at hk2
        have HT : Hid (_ = _) := hk2
        clear hk2 hst hp hp2
        go_wp2_with fail
        go_ret
        exact ⟨congrArg (fun x => Ending.returned (.bool x)) HT.out, rfl⟩
    · obtain rfl : k = 9 := by omega
      have HT : Hid (_ = _) := hk2
      clear hk2
      go_wp2_with fail
      go_ret
      exact ⟨congrArg (fun x => Ending.returned (.bool x)) HT.out, rfl⟩
set_option maxHeartbeats 800000 in
theorem name_any (l : Bs) (hl : l.length ≤ 140737488355328) {w : World} (hG : SG w) : Calls Tryd.prog 59 #[.string (bs l)] w fun e w' => e = .returned (.bool (isNm l)) ∧ w' = w := by
  cases l with
  | nil =>
    have e0 : (bs []).toList.isEmpty = true := by rw [bs_toList]; rfl
    rw [show isNm [] = false from rfl]
    generalize bs [] = x at *
    go_enter Tryd.func59, Tryd.ntmps59
    go_wp2
    go_ret
    exact ⟨rfl, rfl⟩
  | cons b r =>
    have e0 : (bs (b :: r)).toList.isEmpty = false := by rw [bs_toList]; rfl
    have hsz : 0 < (bs (b :: r)).size := by rw [bs_size]; simp
    have hg : (bs (b :: r))[0] = b := rfl
    have hL := fun W => isL_any W b
    have h1 := fwd_any (b :: r) hl w
    have h3 := kept_any (b :: r) hG
    have hF := eqL (fwd (b :: r)) (b :: r)
    rw [show isNm (b :: r) = (isL b && (fwd (b :: r) == b :: r) && !kpt.contains (b :: r)) from rfl]
    generalize fwd (b :: r) = y1 at *
    generalize kpt.contains (b :: r) = y3 at *
    generalize (y1 == b :: r) = q at *
    cases hb : isL b
    · rw [hb] at hL
      rw [show (false && q && !y3) = false from rfl]
      clear hb
      go_enter Tryd.func59, Tryd.ntmps59
      go_wp2_with (go_at_call 66; refine (hL _).mono ?_; rintro e w' ⟨rfl, rfl⟩)
      go_ret
      exact ⟨rfl, rfl⟩
    · rw [hb] at hL
      clear hb
      cases q
      · rw [show (true && false && !y3) = false from rfl]
        go_enter Tryd.func59, Tryd.ntmps59
        go_wp2_with (first | (go_at_call 66; refine (hL _).mono ?_; rintro e w' ⟨rfl, rfl⟩) | (go_at_call 67; refine h1.mono ?_; rintro e w' ⟨rfl, rfl⟩))
        go_ret
        exact ⟨rfl, rfl⟩
      · rw [show (true && true && !y3) = !y3 from rfl]
        go_enter Tryd.func59, Tryd.ntmps59
        go_wp2_with (first | (go_at_call 66; refine (hL _).mono ?_; rintro e w' ⟨rfl, rfl⟩) | (go_at_call 67; refine h1.mono ?_; rintro e w' ⟨rfl, rfl⟩) | (go_at_call 68; refine h3.mono ?_; rintro e w' ⟨rfl, rfl⟩))
        go_ret
        exact ⟨rfl, rfl⟩
end Go.Proofs.YtehblpbefkopbaaDoor
