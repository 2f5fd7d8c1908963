import Derived.Test.YtdmfkepnopppaaaGreatDoorPhD
import Derived.Test.YtdmfkepnopppaaaGreatDoorPhJ
namespace Go.Proofs.YtdmfkepnopppaaaGreatDoor
open Go.RowKit
attribute [local go_sem] Oper.semAt_some run_store_nf run_store_f
/-- A fault: the error, the line, the column. -/
abbrev Flt := Int × Int × Int
abbrev pan (f : Flt) : Ending := .panicked [{ v := .iface 26 (.agg #[.int .i64 f.1, .int .i64 f.2.1, .int .i64 f.2.2]), recovered := false }]
theorem leave_any (w : World) (t : ByteArray) (ln col x : Int) : Calls Tryz.prog 28 #[.agg #[.string t, .int .i64 ln, .int .i64 col], .int .i64 x] w fun e w' => e = pan (x, ln, col) ∧ Keeps (fun _ => False) w w' := by
  have hpn : ∀ (t : TypeId) (v : Value) (w : World), (Instr.panic (.iface t v)).run Tryz.prog w = .halt (.panic (.iface t v)) w := fun _ _ _ => rfl
  have c := CL.made w [.string t, .int .i64 ln, .int .i64 col] 76
  have y1 := c.c 1 _ rfl
  have y2 := c.c 2 _ rfl
  have K : Keeps (fun _ => False) w (w.alloc (.cells #[.string t, .int .i64 ln, .int .i64 col] 76)) := (Keeps.refl _ w).alloc _
  clear c
  go_enter Tryz.func28, Tryz.ntmps28
  go_wp2_with fail
  exact ⟨rfl, rfl, K⟩
theorem need_no (w : World) (t : ByteArray) (ln col : Int) : Calls Tryz.prog 65 #[.agg #[.string t, .int .i64 ln, .int .i64 col], .bool false] w fun e w' => e = pan (103, ln, col) ∧ Keeps (fun _ => False) w w' := by
  have c := CL.made w [.string t, .int .i64 ln, .int .i64 col] 76
  have y0 := c.c 0 _ rfl
  have y1 := c.c 1 _ rfl
  have y2 := c.c 2 _ rfl
  have K : Keeps (fun _ => False) w (w.alloc (.cells #[.string t, .int .i64 ln, .int .i64 col] 76)) := (Keeps.refl _ w).alloc _
  clear c
  go_enter Tryz.func65, Tryz.ntmps65
  go_wp2_with (go_at_call 28; refine (leave_any _ t ln col 103).mono ?_; rintro e w1 ⟨rfl, k1⟩; have K1 := K.trans k1)
  exact ⟨rfl, rfl, K1⟩
set_option maxHeartbeats 500000 in
set_option maxRecDepth 100000 in
theorem regm_no {w : World} (t : ByteArray) (ln col : Int) (hs : t.size ≤ 4096) (hv : ErrIs w) (hb : regB t = false) : Calls Tryz.prog 61 #[.agg #[.string t, .int .i64 ln, .int .i64 col]] w fun e w' => e = pan (103, ln, col) ∧ Keeps (fun _ => False) w w' := by
  have hR := fun W (k : Keeps (fun _ => False) w W) => register_any (w := W) t hs (errIs_keep hv k)
  rw [hb] at hR
  have hN := fun W => need_no W t ln col
  have m1 := CL.made w [.string t, .int .i64 ln, .int .i64 col] 76
  have k2 : Keeps (fun _ => False) w (w.alloc (.cells #[.string t, .int .i64 ln, .int .i64 col] 76)) := (Keeps.refl _ w).alloc _
  generalize regN t = n at *
  go_enter Tryz.func61, Tryz.ntmps61
  go_wp2_with (first | (go_at_call 83; refine (hR _ k2).mono ?_; rintro e w1 ⟨rfl, k1⟩; have K1 := k2.trans k1; have C1 := m1.keep (by show 0 < 3; decide) k1 (fun e => e); have y0 := C1.c 0 _ rfl; have y1 := C1.c 1 _ rfl; have y2 := C1.c 2 _ rfl; clear hR k1 m1 k2) | (go_at_call 65; refine (hN _).mono ?_; rintro e w4 ⟨rfl, k4⟩; have K4 := K1.trans k4; clear hN k4))
  exact ⟨rfl, rfl, K4⟩
set_option maxHeartbeats 500000 in
set_option maxRecDepth 100000 in
theorem source_no {w : World} (pt : ByteArray) (ln col : Int) (t : ByteArray) (hs : t.size ≤ 4096) (hv : ErrIs w) (h : src t = none) : Calls Tryz.prog 63 #[.agg #[.string pt, .int .i64 ln, .int .i64 col], .string t] w fun e w' => e = pan (103, ln, col) ∧ Keeps (fun _ => False) w w' := by
  have hR := fun W (k : Keeps (fun _ => False) w W) => register_any (w := W) t hs (errIs_keep hv k)
  have hP := fun W (k : Keeps (fun _ => False) w W) => parse_any t W (by omega) (errIs_keep hv k)
  have hN := fun W => need_no W pt ln col
  have m1 := made1 w [.string pt, .int .i64 ln, .int .i64 col] 76 (.cells #[.bool false, .int .i64 0] 41) (by show 0 < 3; decide)
  have k2 := ks2 w (.cells #[.string pt, .int .i64 ln, .int .i64 col] 76) (.cells #[.bool false, .int .i64 0] 41)
  unfold src at h
  have hb : regB t = false := by
    cases hb : regB t with
    | false => rfl
    | true => rw [if_pos hb] at h; cases h
  rw [hb, if_neg (by decide)] at h
  rw [hb] at hR
  have he : ¬ prsE t.toList = 0 := fun e => by rw [if_pos e] at h; cases h
  have he2 : (prsE t.toList == 0) = false := beq_eq_false_iff_ne.2 he
  clear h
  generalize regN t = n' at *
  generalize prsV t.toList = n at *
  generalize prsE t.toList = pe at *
  go_enter Tryz.func63, Tryz.ntmps63
  go_wp2_with (first | (go_at_call 83; refine (hR _ k2).mono ?_; rintro e w1 ⟨rfl, k1⟩; have K1 := k2.trans k1; have C1 := m1.keep (by show 0 < 3; decide) k1 (fun e => e); clear hR k1 m1 k2) | (go_at_call 85; refine (hP _ K1).mono ?_; rintro e w3 ⟨rfl, b3⟩; have k3 := Keeps.ofBelow b3; clear b3; have K3 := K1.trans k3; have D1 := C1.keep (by show 0 < 3; decide) k3 (fun e => e); have y0 := D1.c 0 _ rfl; have y1 := D1.c 1 _ rfl; have y2 := D1.c 2 _ rfl; clear C1 hP k3) | (go_at_call 65; refine (hN _).mono ?_; rintro e w4 ⟨rfl, k4⟩; have K4 := K3.trans k4; clear hN k4))
  exact ⟨rfl, rfl, K4⟩
set_option maxHeartbeats 500000 in
set_option maxRecDepth 100000 in
theorem object_no {w : World} (t : ByteArray) (ln col : Int) (hs : t.size ≤ 4096) (hv : ErrIs w) (h : objO t = none) : Calls Tryz.prog 62 #[.agg #[.string t, .int .i64 ln, .int .i64 col]] w fun e w' => e = pan (103, ln, col) ∧ Keeps (fun _ => False) w w' := by
  have hC : ∀ W, Calls Tryz.prog 84 #[.string t, .string ⟨#[64]⟩] W fun e w' => e = .returned (.tuple #[.string (tp t 64), .bool (hp t 64)]) ∧ w' = W := fun W => Tryz.strings_CutPrefix t ⟨#[64]⟩ W
  have m1 := made1 w [.string t, .int .i64 ln, .int .i64 col] 76 (.cells #[.bool false, .int .i64 0] 41) (by show 0 < 3; decide)
  have k2 := ks2 w (.cells #[.string t, .int .i64 ln, .int .i64 col] 76) (.cells #[.bool false, .int .i64 0] 41)
  have y0 := m1.c 0 _ rfl
  have y1 := m1.c 1 _ rfl
  have y2 := m1.c 2 _ rfl
  unfold objO at h
  by_cases hb : hp t 64 = true
  · rw [if_pos hb] at h
    rw [hb] at hC
    have hS := fun W (k : Keeps (fun _ => False) w W) => source_no (w := W) t ln col (tp t 64) (by have := tp_size t 64; omega) (errIs_keep hv k) h
    have hN := fun W => need_ok W t ln col
    clear h
    generalize tp t 64 = t1 at *
    go_enter Tryz.func62, Tryz.ntmps62
    go_wp2_with (first | (go_at_call 84; refine (hC _).mono ?_; rintro e w' ⟨rfl, rfl⟩; clear hC) | (go_at_call 65; refine (hN _).mono ?_; rintro e w4 ⟨rfl, k4⟩; have K4 := k2.trans k4; have D1 := m1.keep (by show 0 < 3; decide) k4 (fun e => e); have z0 := D1.c 0 _ rfl; have z1 := D1.c 1 _ rfl; have z2 := D1.c 2 _ rfl; clear D1 hN k4) | (go_at_call 63; refine (hS _ K4).mono ?_; rintro e w5 ⟨rfl, k5⟩; have K5 := K4.trans k5))
    exact ⟨rfl, rfl, K5⟩
  · have hb : hp t 64 = false := by simpa using hb
    rw [hb] at hC
    have hN := fun W => need_no W t ln col
    clear h
    generalize tp t 64 = t1 at *
    go_enter Tryz.func62, Tryz.ntmps62
    go_wp2_with (first | (go_at_call 84; refine (hC _).mono ?_; rintro e w' ⟨rfl, rfl⟩; clear hC) | (go_at_call 65; refine (hN _).mono ?_; rintro e w4 ⟨rfl, k4⟩; have K4 := k2.trans k4))
    exact ⟨rfl, rfl, K4⟩
set_option maxHeartbeats 500000 in
set_option maxRecDepth 100000 in
theorem relation_no {w : World} (t : ByteArray) (ln col : Int) (hL : LT w) (hb : look relT t 1 6 = 0) : Calls Tryz.prog 64 #[.agg #[.string t, .int .i64 ln, .int .i64 col]] w fun e w' => e = pan (103, ln, col) ∧ Keeps (fun _ => False) w w' := by
  have m1 := CL.made w [.string t, .int .i64 ln, .int .i64 col] 76
  have k2 : Keeps (fun _ => False) w (w.alloc (.cells #[.string t, .int .i64 ln, .int .i64 col] 76)) := (Keeps.refl _ w).alloc _
  have hR := relNamed_any t (w.alloc (.cells #[.string t, .int .i64 ln, .int .i64 col] 76)) (hL.keep k2).rt
  have hN := fun W => need_no W t ln col
  have y0 := m1.c 0 _ rfl
  have y1 := m1.c 1 _ rfl
  have y2 := m1.c 2 _ rfl
  rw [hb] at hR
  have he : ∀ x : Int, lookE x 0 = x := fun x => rfl
  rw [he] at hR
  clear he
  go_enter Tryz.func64, Tryz.ntmps64
  go_wp2_with (first | (go_at_call 86; refine hR.mono ?_; rintro e w1 ⟨rfl, e1⟩; subst w1) | (go_at_call 65; refine (hN _).mono ?_; rintro e w4 ⟨rfl, k4⟩; have K4 := k2.trans k4; clear hN k4))
  exact ⟨rfl, rfl, K4⟩
set_option maxHeartbeats 500000 in
set_option maxRecDepth 100000 in
theorem named_no {w : World} (t : ByteArray) (ln col : Int) (hL : LT w) (hNT : NT w) (h : nmd t = none) : Calls Tryz.prog 41 #[.agg #[.string t, .int .i64 ln, .int .i64 col]] w fun e w' => e = pan (101, ln, col) ∧ Keeps (fun _ => False) w w' := by
  obtain ⟨W2, hW2⟩ : ∃ W2, W2 = (w.alloc (.cells #[.string t, .int .i64 ln, .int .i64 col] 76)).alloc (.cells #[.int .i64 0, .int .i64 0, .bool false, .int .i64 0, .bool false, .int .i64 0, .bool false, .int .i64 0, .int .i64 0, .int .i64 0, .int .i64 0] 45) := ⟨_, rfl⟩
  have m1 : CL W2 w.heap.size [.string t, .int .i64 ln, .int .i64 col] := by rw [hW2]; exact made1 w [.string t, .int .i64 ln, .int .i64 col] 76 _ (by show 0 < 3; decide)
  have k2 : Keeps (fun _ => False) w W2 := by rw [hW2]; exact ks2 w _ _
  have hO := opNamed_any t W2 (hL.keep k2).ot
  have HW : Hid (_ = _) := hW2
  clear hW2
  have y0 := m1.c 0 _ rfl
  have hTW := hNT.keep k2
  unfold nmd at h
  have hb0 : look opT t 1 12 = 0 := by
    by_cases e : look opT t 1 12 = 0
    · exact e
    · rw [if_pos e] at h; cases h
  rw [hb0, if_neg (by simp)] at h
  rw [hb0] at hO
  have he : lookE 10 0 = 10 := rfl
  rw [he] at hO
  have hs : look shT t 1 10 = 0 := by
    by_cases e : look shT t 1 10 = 0
    · exact e
    · rw [if_pos e] at h; cases h
  clear h hb0 he
  go_enter Tryz.func41, Tryz.ntmps41
  go_wp2_with (first | (go_at_call 60; rw [← HW.out]; refine hO.mono ?_; rintro e w1 ⟨rfl, e1⟩; subst w1))
  go_loopw [5] (fun iv Wr => ∃ k : Nat, iv = .int .i64 (k : Int) ∧ 1 ≤ k ∧ k ≤ 11 ∧ look shT t k (11 - k) = 0 ∧ Keeps (fun _ => False) W2 Wr) (fun iv _ => 12 - (intOf iv).toNat)
  case atStart => exact ⟨1, rfl, by omega, by omega, hs, Keeps.refl _ _⟩
  case round =>
    obtain ⟨k, rfl, hk1, hk2, hl, kr⟩ := hrel
    by_cases hk : k ≤ 10
    · have hlt : decide ((k : Int) ≤ 10) = true := by simp; omega
      have hk0 : (0 : Int) ≤ (k : Int) := by omega
      have hk11 : (k : Int) < 11 := by omega
      have hcn := hTW k hk1 hk
      have e1 : 11 - k = (10 - k) + 1 := by omega
      rw [e1] at hl
      have hc1 := kr.cell y0 (fun e => e)
      have hc2 := kr.cell hcn (fun e => e)
      cases hm : ((shT k).toList == t.toList)
      · have HN : Hid (look shT t (k + 1) (11 - (k + 1)) = 0) := by
          show _ = _
          rw [look_miss _ _ _ _ hm] at hl
          rw [show 11 - (k + 1) = 10 - k by omega]; exact hl
        clear hl
        go_wp2_with fail
        go_quiet (fail)
        go_wp2_with fail
        go_roundw
        case rel => exact ⟨k + 1, by go_num, by omega, by omega, HN.out, kr.drewN nq⟩
        case measure => simp [intOf]; omega
      · exfalso
        rw [look_hit _ _ _ _ hm] at hl
        omega
    · obtain rfl : k = 11 := by omega
      have hV := fun W => leave_any W t ln col 101
      have hc0 := kr.cell y0 (fun e => e)
      have hc1 := kr.cell (m1.c 1 _ rfl) (fun e => e)
      have hc2 := kr.cell (m1.c 2 _ rfl) (fun e => e)
      have KR := k2.trans kr
      have kq := fun j => KR.drewN j
      have q0 := fun j => (m1.keep (by show 0 < 3; decide) (kr.drewN j) (fun e => e)).c 0 _ rfl
      go_wp2_with fail
      go_quiet (fail)
      go_wp2_with (go_at_call 28; refine (hV _).mono ?_; rintro e w4 ⟨rfl, k4⟩)
      exact ⟨rfl, rfl, (kq nq).trans k4⟩
end Go.Proofs.YtdmfkepnopppaaaGreatDoor
