import Derived.Test.YtdmfkepnopppaaaGreatDoorPhB
import Derived.Deep.QuietTactic
namespace Go.Proofs.YtdmfkepnopppaaaGreatDoor
open Go.RowKit
attribute [local go_sem] Oper.semAt_some run_store_nf run_store_f
/-- The instructions' names, by their codes; Calc has none. -/
def shT (i : Nat) : ByteArray := ⟨(([#[], #[103, 101, 116], #[116, 97, 107, 101], #[112, 117, 116], #[100, 114, 111, 112], #[108, 101, 116], #[], #[105, 102], #[103, 111, 116, 111], #[113, 117, 105, 116], #[100, 111, 110, 101]] : List (Array UInt8)).getD i #[])⟩
/-- The shapes' names in memory. -/
def NT (w : World) : Prop := ∀ c, 1 ≤ c → c ≤ 10 → w.cell? ⟨0, c * 2, none⟩ = some (.string (shT c))
theorem NT.keep {w w' : World} (h : NT w) (k : Keeps (fun _ => False) w w') : NT w' := fun c h1 h2 => k.cell (h c h1 h2) (fun e => e)
/-- An instruction's beginning, by its name. -/
def nmd (t : ByteArray) : Option Ins := if look opT t 1 12 ≠ 0 then some { ins0 with code := 6, op := (look opT t 1 12 : Nat) } else if look shT t 1 10 ≠ 0 then some { ins0 with code := (look shT t 1 10 : Nat) } else none
theorem run_loadVar_cells {W : World} {b : Nat} {q : Ins} (h : CL W b q.cells) : (loadVar 45 ⟨b, 0, none⟩).run Tryz.prog W = .ok (.agg q.cells.toArray) W := run_ins h
set_option maxHeartbeats 500000 in
set_option maxRecDepth 100000 in
theorem named_ok {w : World} (t : ByteArray) (ln col : Int) (hL : LT w) (hNT : NT w) {q : Ins} (h : nmd t = some q) : Calls Tryz.prog 41 #[.agg #[.string t, .int .i64 ln, .int .i64 col]] w fun e w' => e = .returned (.agg q.cells.toArray) ∧ Keeps (fun _ => False) w w' := by
  obtain ⟨W2, hW2⟩ : ∃ W2, W2 = (w.alloc (.cells #[.string t, .int .i64 ln, .int .i64 col] 76)).alloc (.cells #[.int .i64 0, .int .i64 0, .bool false, .int .i64 0, .bool false, .int .i64 0, .bool false, .int .i64 0, .int .i64 0, .int .i64 0, .int .i64 0] 45) := ⟨_, rfl⟩
  have m1 : CL W2 w.heap.size [.string t, .int .i64 ln, .int .i64 col] := by rw [hW2]; exact made1 w [.string t, .int .i64 ln, .int .i64 col] 76 _ (by show 0 < 3; decide)
  have m2 : CL W2 (w.heap.size + 1) ins0.cells := by rw [hW2]; exact made2 w ins0.cells 45 _
  have k2 : Keeps (fun _ => False) w W2 := by rw [hW2]; exact ks2 w _ _
  have hO := opNamed_any t W2 (hL.keep k2).ot
  have HW : Hid (_ = _) := hW2
  clear hW2
  have y0 := m1.c 0 _ rfl
  have hTW := hNT.keep k2
  unfold nmd at h
  by_cases hb : look opT t 1 12 ≠ 0
  · rw [if_pos hb] at h
    generalize look opT t 1 12 = o at *
    cases h
    have he : lookE 10 o = 0 := by unfold lookE; rw [if_neg hb]
    rw [he] at hO
    have hA := all_oneCell_ins { ins0 with code := 6, op := (o : Int) }
    go_enter Tryz.func41, Tryz.ntmps41
    go_wp2_with (first | (go_at_call 60; rw [← HW.out]; refine hO.mono ?_; rintro e w1 ⟨rfl, e1⟩; subst w1) | (refine wpList_store_cl rfl 45 _ _ rfl (w.heap.size + 1) 0 11 _ rfl rfl rfl m2 (by show 11 ≤ 11; decide) iIn hA ?_; intro w5 hc5 k5 hsz5; clear hsz5))
    have hc6 : CL w5 (w.heap.size + 1) { ins0 with code := 6, op := (o : Int) : Ins }.cells := hc5
    refine bodyPost_ret (v := .agg { ins0 with code := 6, op := (o : Int) : Ins }.cells.toArray) (by rw [results_cell1 rfl]; simp [asAddr, run_ins hc6]) rfl ⟨rfl, ?_⟩
    exact k2.trans' k5 (fun _ _ e => e) (fun i hi e => by have e : i = w.heap.size + 1 := e; omega)
  · rw [if_neg hb] at h
    have hb0 : look opT t 1 12 = 0 := by omega
    rw [hb0] at hO
    clear hb hb0
    have he : lookE 10 0 = 10 := rfl
    rw [he] at hO
    by_cases hs : look shT t 1 10 ≠ 0
    · rw [if_pos hs] at h
      cases h
      go_enter Tryz.func41, Tryz.ntmps41
      go_wp2_with (first | (go_at_call 60; rw [← HW.out]; refine hO.mono ?_; rintro e w1 ⟨rfl, e1⟩; subst w1))
      go_loopw [5] (fun iv Wr => ∃ k : Nat, iv = .int .i64 (k : Int) ∧ 1 ≤ k ∧ k ≤ 10 ∧ look shT t 1 10 = look shT t k (11 - k) ∧ Keeps (fun _ => False) W2 Wr) (fun iv _ => 11 - (intOf iv).toNat)
      case atStart => exact ⟨1, rfl, by omega, by omega, rfl, Keeps.refl _ _⟩
      case round =>
        obtain ⟨k, rfl, hk1, hk2, hl, kr⟩ := hrel
        have hlt : decide ((k : Int) ≤ 10) = true := by simp; omega
        have hk0 : (0 : Int) ≤ (k : Int) := by omega
        have hk11 : (k : Int) < 11 := by omega
        have hcn := hTW k hk1 hk2
        have e1 : 11 - k = (10 - k) + 1 := by omega
        rw [e1] at hl
        have HL : Hid (_ = _) := hl
        clear hl e1
        have hc1 := kr.cell y0 (fun e => e)
        have hc2 := kr.cell hcn (fun e => e)
        cases hm : ((shT k).toList == t.toList)
        · have HN : Hid (look shT t 1 10 = look shT t (k + 1) (11 - (k + 1))) := by
            show _ = _
            rw [HL.out, look_miss _ _ _ _ hm, show 11 - (k + 1) = 10 - k by omega]
          have hkk : k + 1 ≤ 10 := by
            rcases Nat.lt_or_ge k 10 with h | h
            · exact h
            · exfalso
              have e10 : k = 10 := by omega
              have := HN.out
              rw [e10] at this
              exact hs this
          go_wp2_with fail
          go_quiet (fail)
          go_wp2_with fail
          go_roundw
          case rel => exact ⟨k + 1, by go_num, by omega, hkk, HN.out, kr.drewN nq⟩
          case measure => simp [intOf]; omega
        · have HN : Hid (look shT t 1 10 = k) := by
            show _ = _
            rw [HL.out, look_hit _ _ _ _ hm]
          have hgt : decide ((10 : Int) < (k : Int)) = false := by simp; omega
          have hA := all_oneCell_ins { ins0 with code := (k : Int) }
          have kq := fun j => (k2.trans kr).drewN j
          have mq := fun j => m2.keep (by show 0 < 11; decide) (kr.drewN j) (fun e => e)
          go_wp2_with fail
          go_quiet (fail)
          have mn := mq nq
          go_wp2_with (refine wpList_store_cl rfl 45 _ _ rfl (w.heap.size + 1) 0 11 _ rfl rfl rfl mn (by show 11 ≤ 11; decide) iIn hA ?_; intro w5 hc5 k5 hsz5; clear hsz5)
          have hc6 : CL w5 (w.heap.size + 1) { ins0 with code := (k : Int) : Ins }.cells := hc5
          refine bodyPost_ret (v := .agg { ins0 with code := (k : Int) : Ins }.cells.toArray) (by rw [results_cell1 rfl]; simp [asAddr, run_ins hc6]) rfl ⟨by rw [HN.out], ?_⟩
          exact (kq nq).trans' k5 (fun _ _ e => e) (fun i hi e => by have e : i = w.heap.size + 1 := e; omega)
    · rw [if_neg hs] at h; cases h
end Go.Proofs.YtdmfkepnopppaaaGreatDoor
