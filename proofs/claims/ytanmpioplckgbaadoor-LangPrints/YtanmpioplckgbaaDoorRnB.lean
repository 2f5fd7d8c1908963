import Derived.Test.YtanmpioplckgbaaDoorRnA
namespace Go.Proofs.YtanmpioplckgbaaDoor
open Go.RowKit Go.Deep Go.ChangeShapes Go.WideShapes Go.ChangeAt
/-- Does an instruction from the k-th on jump to the place? -/
def tgd (l : List Ins) (p k : Nat) : Bool := (l.drop k).any (fun q => kdL q.code && (q.to == (p : Int)))
theorem tgd_lt {l : List Ins} {p k : Nat} (h : k < l.length) : tgd l p k = (((l.getD k ins0).jmp && ((l.getD k ins0).to == (p : Int))) || tgd l p (k + 1)) := by
  unfold tgd
  rw [List.drop_eq_getElem_cons h, List.any_cons]
  have e : l.getD k ins0 = l[k] := by rw [List.getD_eq_getElem?_getD, List.getElem?_eq_getElem h]; rfl
  rw [e]; rfl
theorem tgd_end {l : List Ins} {p : Nat} : tgd l p l.length = false := by unfold tgd; rw [List.drop_length]; rfl
set_option maxHeartbeats 500000 in
set_option maxRecDepth 100000 in
theorem rtarget_T {w : World} {a : Option Addr} {cap : Nat} {l : List Ins} (h64 : l.length ≤ 64) (hl : ISL w a l) (p : Nat) : Calls Tryd.prog 16 #[.slice a l.length cap, .int .i64 (p : Int)] w fun e w' => e = .returned (.bool (tgt l p)) ∧ Keeps (fun _ => False) w w' := by
  have HF0 : tgd l p 0 = tgt l p := rfl
  generalize hF : tgt l p = F at *
  clear hF
  have HEn : Hid (tgd l p l.length = false) := tgd_end
  generalize hN : l.length = N at *
  go_enter Tryd.func16, Tryd.ntmps16
  go_wp2_with fail
  go_loopw [5] (fun iv Wr => ∃ k : Nat, iv = .int .i64 (k : Int) ∧ k ≤ N ∧ tgd l p k = F ∧ Keeps (fun _ => False) w Wr) (fun iv _ => N - (intOf iv).toNat)
  case atStart => exact ⟨0, rfl, Nat.zero_le _, HF0, Keeps.refl _ w⟩
  case round =>
    obtain ⟨k, rfl, hk, hf, kr⟩ := hrel
    clear HF0
    by_cases hlt : k < N
    · have hltI : decide ((k : Int) < (N : Int)) = true := by simp; omega
      have hltJ : (k : Int) < (N : Int) := by omega
      obtain ⟨b, off, rfl, hc⟩ := hl k (by omega)
      have hc' : ∀ j v, (l.getD k ins0).cells[j]? = some v → wr.cell? ⟨b, off + k * 11 + j, none⟩ = some v := fun j v e => kr.cell (hc j v e) (fun e => e)
      have hto := hc' 10 _ rfl
      have hR1 := run_insAt (t := 42) hc' ⟨_, Tryd.underlying42⟩ iRn
      have hnx : Hid (_ = _) := (tgd_lt (l := l) (p := p) (k := k) (by omega)).symm.trans hf
      generalize l.getD k ins0 = q at *
      have hj := fun W => rjumps_any W q
      clear hc hc' hf
      cases hb1 : q.jmp with
      | false =>
        have HN : Hid (tgd l p (k + 1) = F) := by
          show _ = _
          rw [← hnx.out, hb1]; rfl
        rw [hb1] at hj
        go_wp2_with (first | (refine wpList_load_run rfl 42 _ rfl ⟨b, off + k * 11, none⟩ rfl _ hR1 ?_; clear hR1) | (go_at_call 30; refine (hj _).mono ?_; rintro e w6 ⟨rfl, k6⟩; have to6 := k6.cell hto (fun e => e)))
        go_roundw
        case rel => exact ⟨k + 1, by go_num, by omega, HN.out, kr.trans k6⟩
        case measure => simp [intOf]; omega
      | true =>
        rw [hb1] at hj
        cases hb2 : (q.to == (p : Int)) with
        | false =>
          have HN : Hid (tgd l p (k + 1) = F) := by
            show _ = _
            rw [← hnx.out, hb1, hb2]; rfl
          go_wp2_with (first | (refine wpList_load_run rfl 42 _ rfl ⟨b, off + k * 11, none⟩ rfl _ hR1 ?_; clear hR1) | (go_at_call 30; refine (hj _).mono ?_; rintro e w6 ⟨rfl, k6⟩; have to6 := k6.cell hto (fun e => e)))
          go_roundw
          case rel => exact ⟨k + 1, by go_num, by omega, HN.out, kr.trans k6⟩
          case measure => simp [intOf]; omega
        | true =>
          have HN : Hid (F = true) := by
            show _ = _
            rw [← hnx.out, hb1, hb2]; rfl
          go_wp2_with (first | (refine wpList_load_run rfl 42 _ rfl ⟨b, off + k * 11, none⟩ rfl _ hR1 ?_; clear hR1) | (go_at_call 30; refine (hj _).mono ?_; rintro e w6 ⟨rfl, k6⟩; have to6 := k6.cell hto (fun e => e)))
          go_ret
          exact ⟨by rw [HN.out]; rfl, kr.trans k6⟩
    · obtain rfl : k = N := by omega
      have hltI : decide ((k : Int) < (k : Int)) = false := by simp
      have HN : Hid (F = false) := hf.symm.trans HEn.out
      clear hf HEn
      go_wp2_with fail
      go_ret
      exact ⟨by rw [HN.out]; rfl, kr⟩
set_option maxHeartbeats 500000 in
set_option maxRecDepth 100000 in
theorem rlabel_T {w : World} {a : Option Addr} {cap : Nat} {l : List Ins} (h64 : l.length ≤ 64) (hl : ISL w a l) (p : Nat) (hp : p ≤ 64) : Calls Tryd.prog 17 #[.slice a l.length cap, .int .i64 (p : Int)] w fun e w' => ∃ T : ByteArray, e = .returned (.string T) ∧ Hid (T = ⟨(108 :: Lib.itoa (cnt l p : Int)).toArray⟩) ∧ T.size ≤ 21 ∧ Keeps (fun _ => False) w w' := by
  have HT : Hid (∀ W, Keeps (fun _ => False) w W → ∀ i : Nat, Calls Tryd.prog 16 #[.slice a l.length cap, .int .i64 (i : Int)] W fun e w' => e = .returned (.bool (tgt l i)) ∧ Keeps (fun _ => False) W w') := fun W k i => rtarget_T h64 (hl.keep k) i
  have HF : Hid (∀ W (n : Nat), n ≤ 64 → Calls Tryd.prog 31 #[.int .i64 (n : Int)] W fun e w' => ∃ T : ByteArray, e = .returned (.string T) ∧ Hid (T = ⟨(Lib.itoa (n : Int)).toArray⟩) ∧ T.size ≤ 20 ∧ Keeps (fun _ => False) W w') := fun W n h => rfmt (n : Int) ⟨by omega, by omega⟩ W
  have HC : Hid (∀ i, cnt l i ≤ i) := cnt_le l
  have HS : Hid (∀ i, cnt l (i + 1) = cnt l i + (if tgt l i = true then 1 else 0)) := cnt_succ l
  clear hl
  generalize l.length = N at *
  go_enter Tryd.func17, Tryd.ntmps17
  go_wp2_with fail
  go_loopw [5, 6] (fun kv iv Wr => ∃ (i n : Nat), iv = .int .i64 (i : Int) ∧ kv = .int .i64 (n : Int) ∧ i ≤ p ∧ n ≤ i ∧ cnt l i = n ∧ Keeps (fun _ => False) w Wr) (fun _ iv _ => p - (intOf iv).toNat)
  case atStart => exact ⟨0, 0, rfl, rfl, Nat.zero_le _, Nat.le_refl _, rfl, Keeps.refl _ w⟩
  case round =>
    obtain ⟨i, n, rfl, rfl, hi, hni, hcn, kr⟩ := hrel
    by_cases hlt : i < p
    · have hltI : decide ((i : Int) < (p : Int)) = true := by simp; omega
      have hltJ : (i : Int) < (p : Int) := by omega
      have HCN : Hid (cnt l i = n) := hcn
      clear hcn
      have hTi := HT.out wr kr i
      have HSi : Hid (_ = _) := HS.out i
      cases hb : tgt l i with
      | true =>
        rw [hb] at hTi
        have HN : Hid (cnt l (i + 1) = n + 1) := by show _ = _; rw [HSi.out, HCN.out, hb]; rfl
        go_wp2_with (go_at_call 16; refine hTi.mono ?_; clear hTi; rintro e w6 ⟨rfl, k6⟩)
        go_roundw
        case rel => exact ⟨i + 1, n + 1, by go_num, by go_num, by omega, by omega, HN.out, kr.trans k6⟩
        case measure => simp [intOf]; omega
      | false =>
        rw [hb] at hTi
        have HN : Hid (cnt l (i + 1) = n) := by show _ = _; rw [HSi.out, HCN.out, hb]; rfl
        go_wp2_with (go_at_call 16; refine hTi.mono ?_; clear hTi; rintro e w6 ⟨rfl, k6⟩)
        go_roundw
        case rel => exact ⟨i + 1, n, by go_num, rfl, by omega, by omega, HN.out, kr.trans k6⟩
        case measure => simp [intOf]; omega
    · obtain rfl : i = p := by omega
      have hltI : decide ((i : Int) < (i : Int)) = false := by simp
      have HCN : Hid (cnt l i = n) := hcn
      clear hcn
      go_wp2_with (go_at_call 31; refine (HF.out _ n (by omega)).mono ?_; rintro e w6 ⟨T, rfl, hT, hTs, k6⟩)
      go_ret
      exact ⟨_, rfl, (by show _ = _; rw [hT.out, cat_cons, HCN.out]), (by rw [ByteArray.size_append]; show 1 + T.size ≤ 21; omega), kr.trans k6⟩
end Go.Proofs.YtanmpioplckgbaaDoor
