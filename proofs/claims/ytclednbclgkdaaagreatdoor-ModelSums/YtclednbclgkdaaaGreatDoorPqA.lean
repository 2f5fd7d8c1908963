import Derived.Test.YtclednbclgkdaaaGreatDoorPhD
import Derived.Test.YtclednbclgkdaaaGreatDoorPhJ
import Derived.Laws.IdiomStrings
import Derived.Maps.OwnSet
import Derived.Test.YtclednbclgkdaaaGreatDoorPhF
namespace Go.Proofs.YtclednbclgkdaaaGreatDoor
open Go.RowKit
attribute [local go_sem] Oper.semAt_some run_store_nf run_store_f
/-- A fault: the error, the line, the column. -/
abbrev Flt := Int × Int × Int
abbrev pan (f : Flt) : Ending := .panicked [{ v := .iface 28 (.agg #[.int .i64 f.1, .int .i64 f.2.1, .int .i64 f.2.2]), recovered := false }]
theorem leave_any (w : World) (t : ByteArray) (ln col x : Int) : Calls Tryz.prog 25 #[.agg #[.string t, .int .i64 ln, .int .i64 col], .int .i64 x] w fun e w' => e = pan (x, ln, col) ∧ Keeps (fun _ => False) w w' := by
  have hpn : ∀ (t : TypeId) (v : Value) (w : World), (Instr.panic (.iface t v)).run Tryz.prog w = .halt (.panic (.iface t v)) w := fun _ _ _ => rfl
  have c := CL.made w [.string t, .int .i64 ln, .int .i64 col] 58
  have y1 := c.c 1 _ rfl
  have y2 := c.c 2 _ rfl
  have K : Keeps (fun _ => False) w (w.alloc (.cells #[.string t, .int .i64 ln, .int .i64 col] 58)) := (Keeps.refl _ w).alloc _
  clear c
  go_enter Tryz.func25, Tryz.ntmps25
  go_wp2_with fail
  exact ⟨rfl, rfl, K⟩
theorem need_no (w : World) (t : ByteArray) (ln col : Int) : Calls Tryz.prog 64 #[.agg #[.string t, .int .i64 ln, .int .i64 col], .bool false] w fun e w' => e = pan (103, ln, col) ∧ Keeps (fun _ => False) w w' := by
  have c := CL.made w [.string t, .int .i64 ln, .int .i64 col] 58
  have y0 := c.c 0 _ rfl
  have y1 := c.c 1 _ rfl
  have y2 := c.c 2 _ rfl
  have K : Keeps (fun _ => False) w (w.alloc (.cells #[.string t, .int .i64 ln, .int .i64 col] 58)) := (Keeps.refl _ w).alloc _
  clear c
  go_enter Tryz.func64, Tryz.ntmps64
  go_wp2_with (go_at_call 25; refine (leave_any _ t ln col 103).mono ?_; rintro e w1 ⟨rfl, k1⟩; have K1 := K.trans k1)
  exact ⟨rfl, rfl, K1⟩
set_option maxHeartbeats 500000 in
set_option maxRecDepth 100000 in
theorem regm_no {w : World} (t : ByteArray) (ln col : Int) (hs : t.size ≤ 4096) (hv : ErrIs w) (hb : regB t = false) : Calls Tryz.prog 60 #[.agg #[.string t, .int .i64 ln, .int .i64 col]] w fun e w' => e = pan (103, ln, col) ∧ Keeps (fun _ => False) w w' := by
  have hR := fun W (k : Keeps (fun _ => False) w W) => register_any (w := W) t hs (errIs_keep hv k)
  rw [hb] at hR
  have hN := fun W => need_no W t ln col
  have m1 := CL.made w [.string t, .int .i64 ln, .int .i64 col] 58
  have k2 : Keeps (fun _ => False) w (w.alloc (.cells #[.string t, .int .i64 ln, .int .i64 col] 58)) := (Keeps.refl _ w).alloc _
  generalize regN t = n at *
  go_enter Tryz.func60, Tryz.ntmps60
  go_wp2_with (first | (go_at_call 89; refine (hR _ k2).mono ?_; rintro e w1 ⟨rfl, k1⟩; have K1 := k2.trans k1; have C1 := m1.keep (by show 0 < 3; decide) k1 (fun e => e); have y0 := C1.c 0 _ rfl; have y1 := C1.c 1 _ rfl; have y2 := C1.c 2 _ rfl; clear hR k1 m1 k2) | (go_at_call 64; refine (hN _).mono ?_; rintro e w4 ⟨rfl, k4⟩; have K4 := K1.trans k4; clear hN k4))
  exact ⟨rfl, rfl, K4⟩
set_option maxHeartbeats 500000 in
set_option maxRecDepth 100000 in
theorem source_no {w : World} (pt : ByteArray) (ln col : Int) (t : ByteArray) (hs : t.size ≤ 4096) (hv : ErrIs w) (h : src t = none) : Calls Tryz.prog 62 #[.agg #[.string pt, .int .i64 ln, .int .i64 col], .string t] w fun e w' => e = pan (103, ln, col) ∧ Keeps (fun _ => False) w w' := by
  have hR := fun W (k : Keeps (fun _ => False) w W) => register_any (w := W) t hs (errIs_keep hv k)
  have hP := fun W (k : Keeps (fun _ => False) w W) => parse_any t W (by omega) (errIs_keep hv k)
  have hN := fun W => need_no W pt ln col
  have m1 := made1 w [.string pt, .int .i64 ln, .int .i64 col] 58 (.cells #[.bool false, .int .i64 0] 69) (by show 0 < 3; decide)
  have k2 := ks2 w (.cells #[.string pt, .int .i64 ln, .int .i64 col] 58) (.cells #[.bool false, .int .i64 0] 69)
  unfold src at h
  have hb : regB t = false := by
    cases hb : regB t with
    | false => rfl
    | true => rw [if_pos hb] at h; cases h
  rw [hb, if_neg (by decide)] at h
  rw [hb] at hR
  have he : ¬ prsE t.toList = 0 := fun e => by rw [if_pos e] at h; cases h
  have he2 : (prsE t.toList == 0) = false := beq_eq_false_iff_ne.2 he
  clear h
  generalize regN t = n' at *
  generalize prsV t.toList = n at *
  generalize prsE t.toList = pe at *
  go_enter Tryz.func62, Tryz.ntmps62
  go_wp2_with (first | (go_at_call 89; refine (hR _ k2).mono ?_; rintro e w1 ⟨rfl, k1⟩; have K1 := k2.trans k1; have C1 := m1.keep (by show 0 < 3; decide) k1 (fun e => e); clear hR k1 m1 k2) | (go_at_call 91; refine (hP _ K1).mono ?_; rintro e w3 ⟨rfl, b3⟩; have k3 := Keeps.ofBelow b3; clear b3; have K3 := K1.trans k3; have D1 := C1.keep (by show 0 < 3; decide) k3 (fun e => e); have y0 := D1.c 0 _ rfl; have y1 := D1.c 1 _ rfl; have y2 := D1.c 2 _ rfl; clear C1 hP k3) | (go_at_call 64; refine (hN _).mono ?_; rintro e w4 ⟨rfl, k4⟩; have K4 := K3.trans k4; clear hN k4))
  exact ⟨rfl, rfl, K4⟩
set_option maxHeartbeats 500000 in
set_option maxRecDepth 100000 in
theorem object_no {w : World} (t : ByteArray) (ln col : Int) (hs : t.size ≤ 4096) (hv : ErrIs w) (h : objO t = none) : Calls Tryz.prog 61 #[.agg #[.string t, .int .i64 ln, .int .i64 col]] w fun e w' => e = pan (103, ln, col) ∧ Keeps (fun _ => False) w w' := by
  have hC : ∀ W, Calls Tryz.prog 90 #[.string t, .string ⟨#[64]⟩] W fun e w' => e = .returned (.tuple #[.string (tp t 64), .bool (hp t 64)]) ∧ w' = W := fun W => Tryz.strings_CutPrefix t ⟨#[64]⟩ W
  have m1 := made1 w [.string t, .int .i64 ln, .int .i64 col] 58 (.cells #[.bool false, .int .i64 0] 69) (by show 0 < 3; decide)
  have k2 := ks2 w (.cells #[.string t, .int .i64 ln, .int .i64 col] 58) (.cells #[.bool false, .int .i64 0] 69)
  have y0 := m1.c 0 _ rfl
  have y1 := m1.c 1 _ rfl
  have y2 := m1.c 2 _ rfl
  unfold objO at h
  by_cases hb : hp t 64 = true
  · rw [if_pos hb] at h
    rw [hb] at hC
    have hS := fun W (k : Keeps (fun _ => False) w W) => source_no (w := W) t ln col (tp t 64) (by have := tp_size t 64; omega) (errIs_keep hv k) h
    have hN := fun W => need_ok W t ln col
    clear h
    generalize tp t 64 = t1 at *
    go_enter Tryz.func61, Tryz.ntmps61
    go_wp2_with (first | (go_at_call 90; refine (hC _).mono ?_; rintro e w' ⟨rfl, rfl⟩; clear hC) | (go_at_call 64; refine (hN _).mono ?_; rintro e w4 ⟨rfl, k4⟩; have K4 := k2.trans k4; have D1 := m1.keep (by show 0 < 3; decide) k4 (fun e => e); have z0 := D1.c 0 _ rfl; have z1 := D1.c 1 _ rfl; have z2 := D1.c 2 _ rfl; clear D1 hN k4) | (go_at_call 62; refine (hS _ K4).mono ?_; rintro e w5 ⟨rfl, k5⟩; have K5 := K4.trans k5))
    exact ⟨rfl, rfl, K5⟩
  · have hb : hp t 64 = false := by simpa using hb
    rw [hb] at hC
    have hN := fun W => need_no W t ln col
    clear h
    generalize tp t 64 = t1 at *
    go_enter Tryz.func61, Tryz.ntmps61
    go_wp2_with (first | (go_at_call 90; refine (hC _).mono ?_; rintro e w' ⟨rfl, rfl⟩; clear hC) | (go_at_call 64; refine (hN _).mono ?_; rintro e w4 ⟨rfl, k4⟩; have K4 := k2.trans k4))
    exact ⟨rfl, rfl, K4⟩
set_option maxHeartbeats 500000 in
set_option maxRecDepth 100000 in
theorem relation_no {w : World} (t : ByteArray) (ln col : Int) (hL : LT w) (hb : look relT t 1 6 = 0) : Calls Tryz.prog 63 #[.agg #[.string t, .int .i64 ln, .int .i64 col]] w fun e w' => e = pan (103, ln, col) ∧ Keeps (fun _ => False) w w' := by
  have m1 := CL.made w [.string t, .int .i64 ln, .int .i64 col] 58
  have k2 : Keeps (fun _ => False) w (w.alloc (.cells #[.string t, .int .i64 ln, .int .i64 col] 58)) := (Keeps.refl _ w).alloc _
  have hR := relNamed_any t (w.alloc (.cells #[.string t, .int .i64 ln, .int .i64 col] 58)) (hL.keep k2).rt
  have hN := fun W => need_no W t ln col
  have y0 := m1.c 0 _ rfl
  have y1 := m1.c 1 _ rfl
  have y2 := m1.c 2 _ rfl
  rw [hb] at hR
  have he : ∀ x : Int, lookE x 0 = x := fun x => rfl
  rw [he] at hR
  clear he
  go_enter Tryz.func63, Tryz.ntmps63
  go_wp2_with (first | (go_at_call 92; refine hR.mono ?_; rintro e w1 ⟨rfl, e1⟩; subst w1) | (go_at_call 64; refine (hN _).mono ?_; rintro e w4 ⟨rfl, k4⟩; have K4 := k2.trans k4; clear hN k4))
  exact ⟨rfl, rfl, K4⟩
set_option maxHeartbeats 500000 in
set_option maxRecDepth 100000 in
theorem named_no {w : World} (t : ByteArray) (ln col : Int) (hL : LT w) (hNT : NT w) (h : nmd t = none) : Calls Tryz.prog 37 #[.agg #[.string t, .int .i64 ln, .int .i64 col]] w fun e w' => e = pan (101, ln, col) ∧ Keeps (fun _ => False) w w' := by
  obtain ⟨W2, hW2⟩ : ∃ W2, W2 = (w.alloc (.cells #[.string t, .int .i64 ln, .int .i64 col] 58)).alloc (.cells #[.int .i64 0, .int .i64 0, .bool false, .int .i64 0, .bool false, .int .i64 0, .bool false, .int .i64 0, .int .i64 0, .int .i64 0, .int .i64 0] 73) := ⟨_, rfl⟩
  have m1 : CL W2 w.heap.size [.string t, .int .i64 ln, .int .i64 col] := by rw [hW2]; exact made1 w [.string t, .int .i64 ln, .int .i64 col] 58 _ (by show 0 < 3; decide)
  have k2 : Keeps (fun _ => False) w W2 := by rw [hW2]; exact ks2 w _ _
  have hO := opNamed_any t W2 (hL.keep k2).ot
  have HW : Hid (_ = _) := hW2
  clear hW2
  have y0 := m1.c 0 _ rfl
  have hTW := hNT.keep k2
  unfold nmd at h
  have hb0 : look opT t 1 12 = 0 := by
    by_cases e : look opT t 1 12 = 0
    · exact e
    · rw [if_pos e] at h; cases h
  rw [hb0, if_neg (by simp)] at h
  rw [hb0] at hO
  have he : lookE 10 0 = 10 := rfl
  rw [he] at hO
  have hs : look shT t 1 10 = 0 := by
    by_cases e : look shT t 1 10 = 0
    · exact e
    · rw [if_pos e] at h; cases h
  clear h hb0 he
  go_enter Tryz.func37, Tryz.ntmps37
  go_wp2_with (first | (go_at_call 59; rw [← HW.out]; refine hO.mono ?_; rintro e w1 ⟨rfl, e1⟩; subst w1))
  go_loopw [5] (fun iv Wr => ∃ k : Nat, iv = .int .i64 (k : Int) ∧ 1 ≤ k ∧ k ≤ 11 ∧ look shT t k (11 - k) = 0 ∧ Keeps (fun _ => False) W2 Wr) (fun iv _ => 12 - (intOf iv).toNat)
  case atStart => exact ⟨1, rfl, by omega, by omega, hs, Keeps.refl _ _⟩
  case round =>
    obtain ⟨k, rfl, hk1, hk2, hl, kr⟩ := hrel
    by_cases hk : k ≤ 10
    · have hlt : decide ((k : Int) ≤ 10) = true := by simp; omega
      have hk0 : (0 : Int) ≤ (k : Int) := by omega
      have hk11 : (k : Int) < 11 := by omega
      have hcn := hTW k hk1 hk
      have e1 : 11 - k = (10 - k) + 1 := by omega
      rw [e1] at hl
      have hc1 := kr.cell y0 (fun e => e)
      have hc2 := kr.cell hcn (fun e => e)
      cases hm : ((shT k).toList == t.toList)
      · have HN : Hid (look shT t (k + 1) (11 - (k + 1)) = 0) := by
          show _ = _
          rw [look_miss _ _ _ _ hm] at hl
          rw [show 11 - (k + 1) = 10 - k by omega]; exact hl
        clear hl
        go_wp2_with fail
        go_quiet (fail)
        go_wp2_with fail
        go_roundw
        case rel => exact ⟨k + 1, by go_num, by omega, by omega, HN.out, kr.drewN nq⟩
        case measure => simp [intOf]; omega
      · exfalso
        rw [look_hit _ _ _ _ hm] at hl
        omega
    · obtain rfl : k = 11 := by omega
      have hV := fun W => leave_any W t ln col 101
      have hc0 := kr.cell y0 (fun e => e)
      have hc1 := kr.cell (m1.c 1 _ rfl) (fun e => e)
      have hc2 := kr.cell (m1.c 2 _ rfl) (fun e => e)
      have KR := k2.trans kr
      have kq := fun j => KR.drewN j
      have q0 := fun j => (m1.keep (by show 0 < 3; decide) (kr.drewN j) (fun e => e)).c 0 _ rfl
      go_wp2_with fail
      go_quiet (fail)
      go_wp2_with (go_at_call 25; refine (hV _).mono ?_; rintro e w4 ⟨rfl, k4⟩)
      exact ⟨rfl, rfl, (kq nq).trans k4⟩
end Go.Proofs.YtclednbclgkdaaaGreatDoor
namespace Go.Proofs.YtclednbclgkdaaaGreatDoor
open Go.RowKit
attribute [local go_sem] Oper.semAt_some run_store_nf run_store_f
/-- A sign that a name may have at a place. -/
def chOk (t : ByteArray) (i : Nat) : Bool := (decide (97 ≤ (t.data.getD i 0).toNat) && decide ((t.data.getD i 0).toNat ≤ 122)) || (!(i == 0) && (decide (48 ≤ (t.data.getD i 0).toNat) && decide ((t.data.getD i 0).toNat ≤ 57)))
/-- A name. -/
def nmB (t : ByteArray) : Bool := !(t.size == 0) && decide (t.size ≤ 16) && (List.range t.size).all (chOk t)
theorem bytes_of (w : World) (s : ByteArray) : ∃ cap W', (convert 9 90 (.string s)).run Tryz.prog w = .ok (.slice (some ⟨w.heap.size, 0, none⟩) s.size cap) W' ∧ Keeps (fun _ => False) w W' ∧ ∀ j, j < s.size → W'.cell? ⟨w.heap.size, j, none⟩ = some (.int .u8 ((s.data.getD j 0).toNat : Int)) := by
  refine ⟨_, _, run_bytes_of_string (P := Tryz.prog) w 9 90 5 s Tryz.underlying9 Tryz.underlying90 Tryz.underlying5, ?_, fun j hj => ?_⟩
  · exact (Keeps.refl _ w).drew.alloc _
  · have h := World.cell?_alloc_mark w.drew (bytesRow s (grownCap w s.size 0 5)) 5 ((bytesRow s (grownCap w s.size 0 5)).size, (bytesRow s (grownCap w s.size 0 5)).size + 1) j
    have hj' : j < s.data.size := hj
    have e : s.data.getD j 0 = s.data[j] := by simp [Array.getD, hj]
    rw [e]
    refine (show _ = _ from h).trans ?_
    exact bytesRow_at s _ j hj'
theorem all_no {n k : Nat} {f : Nat → Bool} (h : k < n) (hf : f k = false) : (List.range n).all f = false := by
  cases e : (List.range n).all f with
  | false => rfl
  | true =>
    rw [List.all_eq_true] at e
    have := e k (List.mem_range.2 h)
    rw [hf] at this; cases this
set_option maxHeartbeats 500000 in
set_option maxRecDepth 100000 in
theorem isName_any (w : World) (t : ByteArray) (hs : t.size ≤ 4096) : Calls Tryz.prog 40 #[.string t] w fun e w' => e = .returned (.bool (nmB t)) ∧ Keeps (fun _ => False) w w' := by
  unfold nmB
  by_cases h0 : t.size = 0
  · have a1 : t.toList.isEmpty = true := by
      obtain ⟨d⟩ := t
      have hd : d = #[] := Array.eq_empty_of_size_eq_zero h0
      subst hd
      first | rfl | (simp [ByteArray.toList, ByteArray.toList.loop]) | decide +kernel
    have e1 : (t.size == 0) = true := by simp [h0]
    rw [e1]
    go_enter Tryz.func40, Tryz.ntmps40
    go_wp2_with fail
    go_ret
    exact ⟨rfl, Keeps.refl _ w⟩
  have a1 : t.toList.isEmpty = false := by rw [list_cons t (by omega)]; rfl
  have e1 : (t.size == 0) = false := by simp [h0]
  rw [e1]
  by_cases h16 : t.size ≤ 16
  · have b1 : decide ((16 : Int) < (t.size : Int)) = false := decide_eq_false (by omega)
    rw [decide_eq_true h16]
    obtain ⟨cap, W', hcv, kc, hce⟩ := bytes_of w t
    simp only [Bool.not_false, Bool.true_and]
    go_enter Tryz.func40, Tryz.ntmps40
    go_wp2_with fail
    go_loopw [17] (fun iv Wr => ∃ k : Nat, iv = .int .i64 (k : Int) ∧ k ≤ t.size ∧ (∀ i, i < k → chOk t i = true) ∧ Wr = W') (fun iv _ => t.size - (intOf iv).toNat)
    case atStart => exact ⟨0, rfl, Nat.zero_le _, fun i hi => absurd hi (Nat.not_lt_zero _), rfl⟩
    case round =>
      obtain ⟨k, rfl, hk, hall, ew⟩ := hrel
      subst wr
      by_cases hlt : k < t.size
      · have hltI : decide ((k : Int) < (t.size : Int)) = true := decide_eq_true (by omega)
        have hltJ : (k : Int) < (t.size : Int) := by omega
        have hk0 : (0 : Int) ≤ (k : Int) := by omega
        have hwk : IntKind.i64.wrap ((k : Int) + 1) = (k : Int) + 1 := by rw [IntKind.wrap_i64]; omega
        have hc := hce k hlt
        have hdef : chOk t k = ((decide (97 ≤ (t.data.getD k 0).toNat) && decide ((t.data.getD k 0).toNat ≤ 122)) || (!(k == 0) && (decide (48 ≤ (t.data.getD k 0).toNat) && decide ((t.data.getD k 0).toNat ≤ 57)))) := rfl
        clear hce hcv
        generalize (t.data.getD k 0).toNat = c at *
        have HA : Hid (∀ i, i < k → chOk t i = true) := hall
        clear hall
        cases hch : chOk t k with
        | true =>
          have HN : Hid (∀ i, i < k + 1 → chOk t i = true) := fun i hi => by
            by_cases e : i = k
            · rw [e]; exact hch
            · exact HA.out i (by omega)
          rw [hch] at hdef
          by_cases l1 : 97 ≤ c ∧ c ≤ 122
          · have x1 : decide ((97 : Int) ≤ (c : Int)) = true := decide_eq_true (by omega)
            have x2 : decide ((c : Int) ≤ 122) = true := decide_eq_true (by omega)
            by_cases d1 : 48 ≤ c
            · have x3 : decide ((48 : Int) ≤ (c : Int)) = true := decide_eq_true (by omega)
              have x4 : decide ((c : Int) ≤ 57) = false := decide_eq_false (by omega)
              clear hdef
              go_wp2_with fail
              go_roundw
              case rel => exact ⟨k + 1, by go_num, by omega, HN.out, trivial⟩
              case measure => simp [intOf]; omega
            · omega
          · have d1 : 48 ≤ c ∧ c ≤ 57 ∧ k ≠ 0 := by
              have h2 : ((decide (97 ≤ c) && decide (c ≤ 122)) || (!(k == 0) && (decide (48 ≤ c) && decide (c ≤ 57)))) = true := hdef.symm
              simp only [Bool.or_eq_true, Bool.and_eq_true, decide_eq_true_eq, Bool.not_eq_true', beq_eq_false_iff_ne] at h2
              omega
            have x1 : decide ((97 : Int) ≤ (c : Int)) = false := decide_eq_false (by omega)
            have x3 : decide ((48 : Int) ≤ (c : Int)) = true := decide_eq_true (by omega)
            have x4 : decide ((c : Int) ≤ 57) = true := decide_eq_true (by omega)
            have x5 : ((k : Int) == 0) = false := beq_eq_false_iff_ne.2 (by omega)
            clear hdef
            go_wp2_with fail
            go_roundw
            case rel => exact ⟨k + 1, by go_num, by omega, HN.out, trivial⟩
            case measure => simp [intOf]; omega
        | false =>
          have HF : Hid ((List.range t.size).all (chOk t) = false) := all_no hlt hch
          rw [hch] at hdef
          have h2 : ((decide (97 ≤ c) && decide (c ≤ 122)) || (!(k == 0) && (decide (48 ≤ c) && decide (c ≤ 57)))) = false := hdef.symm
          have h3 : ¬ (97 ≤ c ∧ c ≤ 122) ∧ (k = 0 ∨ ¬ (48 ≤ c ∧ c ≤ 57)) := by
            simp only [Bool.or_eq_false_iff, Bool.and_eq_false_iff, decide_eq_false_iff_not, Bool.not_eq_false', beq_iff_eq] at h2
            omega
          clear h2 hdef hch
          obtain ⟨l1, l2⟩ := h3
          by_cases z : 97 ≤ c
          · have x1 : decide ((97 : Int) ≤ (c : Int)) = true := decide_eq_true (by omega)
            have x2 : decide ((c : Int) ≤ 122) = false := decide_eq_false (by omega)
            have x3 : decide ((48 : Int) ≤ (c : Int)) = true := decide_eq_true (by omega)
            have x4 : decide ((c : Int) ≤ 57) = false := decide_eq_false (by omega)
            by_cases hz : k = 0
            · subst hz
              go_wp2_with fail
              go_ret
              exact ⟨by rw [HF.out]; rfl, kc⟩
            · have x5 : ((k : Int) == 0) = false := beq_eq_false_iff_ne.2 (by omega)
              go_wp2_with fail
              go_ret
              exact ⟨by rw [HF.out]; rfl, kc⟩
          · have x1 : decide ((97 : Int) ≤ (c : Int)) = false := decide_eq_false (by omega)
            by_cases y : 48 ≤ c
            · have x3 : decide ((48 : Int) ≤ (c : Int)) = true := decide_eq_true (by omega)
              by_cases y2 : c ≤ 57
              · have x4 : decide ((c : Int) ≤ 57) = true := decide_eq_true (by omega)
                obtain rfl : k = 0 := by omega
                go_wp2_with fail
                go_ret
                exact ⟨by rw [HF.out]; rfl, kc⟩
              · have x4 : decide ((c : Int) ≤ 57) = false := decide_eq_false (by omega)
                by_cases hz : k = 0
                · subst hz
                  go_wp2_with fail
                  go_ret
                  exact ⟨by rw [HF.out]; rfl, kc⟩
                · have x5 : ((k : Int) == 0) = false := beq_eq_false_iff_ne.2 (by omega)
                  go_wp2_with fail
                  go_ret
                  exact ⟨by rw [HF.out]; rfl, kc⟩
            · have x3 : decide ((48 : Int) ≤ (c : Int)) = false := decide_eq_false (by omega)
              by_cases hz : k = 0
              · subst hz
                go_wp2_with fail
                go_ret
                exact ⟨by rw [HF.out]; rfl, kc⟩
              · have x5 : ((k : Int) == 0) = false := beq_eq_false_iff_ne.2 (by omega)
                go_wp2_with fail
                go_ret
                exact ⟨by rw [HF.out]; rfl, kc⟩
      · have hltI : decide ((k : Int) < (t.size : Int)) = false := decide_eq_false (by omega)
        have HF : Hid ((List.range t.size).all (chOk t) = true) := by
          show _ = _
          rw [List.all_eq_true]
          exact fun i hi => hall i (by have := List.mem_range.1 hi; omega)
        clear hall hce hcv
        go_wp2_with fail
        go_ret
        exact ⟨by rw [HF.out]; rfl, kc⟩
  · have b1 : decide ((16 : Int) < (t.size : Int)) = true := decide_eq_true (by omega)
    rw [decide_eq_false h16]
    go_enter Tryz.func40, Tryz.ntmps40
    go_wp2_with fail
    go_ret
    exact ⟨rfl, Keeps.refl _ w⟩
end Go.Proofs.YtclednbclgkdaaaGreatDoor
namespace Go.Proofs.YtclednbclgkdaaaGreatDoor
open Go.RowKit Go.Maps Go.ChangeMaps Go.MapKept Go.WideShapes

theorem underI : Tryz.prog.underlying 3 = some (.int .i64) := by kernel_rfl
theorem underM : Tryz.prog.underlying 40 = some (.map 9 3) := by kernel_rfl
theorem underS : Tryz.prog.underlying 9 = some .string := by kernel_rfl
theorem keyed : Keyed Tryz.prog 9 := string_keyed underS
theorem zeroI (w : World) : (zeroValue 3).run Tryz.prog w = .ok (.int .i64 0) w := by kernel_rfl

theorem tight {H : Type} {P : Program} {k : TypeId} {R : Value → Option (DataW H × List MemPlace)} {w : World} {b n : Nat} {D : DataW H} (h : w.ownsMap P k R b n D) : w.ownsMap P k R b (Maps.size D) D := by
  obtain ⟨es, clock, hb, F, hs, rfl⟩ := h
  exact ⟨es, clock, hb, F, by simp [Maps.size, length_sorted], rfl⟩

/-- A text of a bearable length. -/
def Sz (s : ByteArray) : Prop := s.size ≤ 9223372036854775807
def upd (f : ByteArray → Option Nat) (k : ByteArray) (v : Option Nat) : ByteArray → Option Nat := fun x => if x = k then v else f x
/-- The labels, in memory. -/
def SM (w : World) (mb n : Nat) (f : ByteArray → Option Nat) : Prop :=
  ∃ D : DataW Unit, w.ownsMap Tryz.prog 9 (plainElem Tryz.prog 3) mb n D ∧ Maps.size D = n ∧
    ∀ k, Sz k → Maps.has D (.string k.data.toList) = (f k).isSome ∧ D.atKey (.string k.data.toList) (.lit (.int .i64 0)) = .lit (.int .i64 (((f k).getD 0 : Nat) : Int))
theorem SM.lt {w : World} {mb n : Nat} {f : ByteArray → Option Nat} (h : SM w mb n f) : mb < w.heap.size := by
  obtain ⟨D, h, _⟩ := h
  exact h.lt
theorem SM.isMap {w : World} {mb n : Nat} {f : ByteArray → Option Nat} (h : SM w mb n f) : ∃ es c, w.heap[mb]? = some (.map es c) := by
  obtain ⟨D, ⟨es, c, hb, _⟩, _⟩ := h
  exact ⟨es, c, hb⟩
theorem SM.same {w w' : World} {mb n : Nat} {f : ByteArray → Option Nat} (h : SM w mb n f) (hb : w'.heap[mb]? = w.heap[mb]?) : SM w' mb n f := by
  obtain ⟨D, ⟨es, c, hb', r⟩, r'⟩ := h
  exact ⟨D, ⟨es, c, hb.trans hb', r⟩, r'⟩
theorem SM.keep {w w' : World} {mb n : Nat} {f : ByteArray → Option Nat} {S : Nat → Prop} (h : SM w mb n f) (k : Keeps S w w') (hS : ¬ S mb) : SM w' mb n f := h.same (k.block mb h.lt hS)
theorem key_int {k : ByteArray} (h : Sz k) : keyOf Tryz.prog 9 (.string k) = some (.string k.data.toList) := Go.WideMaps.keyOf_string_mk underS (by unfold Sz at h; unfold maxLen; omega)
theorem wf0 : (Lit.int .i64 0).wf = true := by decide
theorem wfN {n : Nat} (h : n ≤ 9223372036854775807) : (Lit.int .i64 (n : Int)).wf = true := wf_of_i64 ⟨by omega, by omega⟩
theorem SM.look {w : World} {mb n : Nat} {f : ByteArray → Option Nat} (h : SM w mb n f) {k : ByteArray} (hk : Sz k) :
    (Instr.lookup 40 (.map (some mb)) (.string k) true).run Tryz.prog w = .ok (.tuple #[.int .i64 (((f k).getD 0 : Nat) : Int), .bool (f k).isSome]) w := by
  obtain ⟨D, h1, h2, h3⟩ := h
  obtain ⟨v, ps, hrun, hv⟩ := h1.look_ok keyed underM (zeroI w) (plainElem_int underI wf0) (key_int hk)
  obtain ⟨a, rfl, e, _⟩ := plainElem_int_inv underI hv
  have e' := congrArg Prod.fst e
  simp only [(h3 k hk).2] at e'
  cases e'
  rw [hrun, (h3 k hk).1]
theorem keeps_turned {w w' : World} {b : Nat} (h : w.mapTurned w' b) : Keeps (fun k => k = b) w w' := (Keeps.refl _ w).grown h.grown (fun _ _ e => by cases e; rfl)
theorem ne_key {a b : ByteArray} (h : a ≠ b) : (Lit.string a.data.toList) ≠ (Lit.string b.data.toList) := fun e => h (by injection e with e; cases a; cases b; simp only [ByteArray.mk.injEq]; exact Array.ext' e)
theorem SM.put {w : World} {mb n : Nat} {f : ByteArray → Option Nat} (h : SM w mb n f) {k : ByteArray} (hk : Sz k) {v : Nat} (hv : v ≤ 9223372036854775807) (hn : n < 9223372036854775807) :
    ∃ w', (Instr.mapUpdate 40 (.map (some mb)) (.string k) (.int .i64 (v : Int))).run Tryz.prog w = .ok () w' ∧ SM w' mb (if (f k).isSome then n else n + 1) (upd f k (some v)) ∧ Keeps (fun i => i = mb) w w' := by
  obtain ⟨D, h1, h2, h3⟩ := h
  obtain ⟨w', hrun, hown, ht⟩ := h1.store keyed underM (by unfold maxLen; omega) (key_int hk) (plainElem_int underI (wfN hv))
  have hT := h1.tidy keyed
  refine ⟨w', hrun, ⟨D.put (.string k.data.toList) (.lit (.int .i64 (v : Int))), ?_, ?_, fun x hx => ?_⟩, keeps_turned ht⟩
  · have e := size_put (k := .string k.data.toList) hT (.lit (.int .i64 (v : Int)))
    rw [(h3 k hk).1, h2] at e
    rw [← e]
    exact tight hown
  · have e := size_put (k := .string k.data.toList) hT (.lit (.int .i64 (v : Int)))
    rw [(h3 k hk).1, h2] at e
    exact e
  · by_cases c : x = k
    · subst c
      have hkl : WideAt.IsKeyLit (.string x.data.toList) := trivial
      rw [has_put_same h1.isMap hkl, atKey_put_same h1.isMap hkl]
      simp [upd]
    · rw [has_put_other (ne_key c), atKey_put_other (ne_key c)]
      simp only [upd]
      rw [if_neg c]
      exact h3 x hx
theorem SM.made (w : World) : SM (w.alloc (.map #[] 0)) w.heap.size 0 (fun _ => none) :=
  ⟨.map [], World.ownsMap_made w _ _ _, rfl, fun _ _ => ⟨rfl, rfl⟩⟩
end Go.Proofs.YtclednbclgkdaaaGreatDoor
namespace Go.Proofs.YtclednbclgkdaaaGreatDoor
open Go.RowKit Go.Deep Go.ChangeShapes Go.WideShapes Go.ChangeAt
attribute [local go_sem] Oper.semAt_some run_store_nf run_store_f
/-- Jumps' cells: the place, the word. -/
def jcl (l : List (Nat × Pc)) : List Value := l.flatMap fun x => [.int .i64 (x.1 : Int), .string x.2.t, .int .i64 x.2.ln, .int .i64 x.2.col]
theorem jI : Tryz.prog.underlying 41 = some (.slice 64) := by kernel_rfl
theorem jI0 : (Tryz.prog.info? 64).map (fun i => (i.zero, i.size, i.bytes)) = some (some (.agg #[.int .i64 0, .string ⟨#[]⟩, .int .i64 0, .int .i64 0]), 4, 40) := by kernel_rfl
theorem jIi : ∃ i, Tryz.prog.info? 64 = some i ∧ i.zero = some (.agg #[.int .i64 0, .string ⟨#[]⟩, .int .i64 0, .int .i64 0]) ∧ i.size = 4 ∧ i.bytes = 40 := by
  have h := jI0
  cases hq : Tryz.prog.info? 64 with
  | none => rw [hq] at h; cases h
  | some i =>
    rw [hq] at h
    injection h with h
    injection h with h1 h2
    injection h2 with h2 h3
    exact ⟨i, rfl, h1, h2, h3⟩
theorem append_j {W : World} {base k : Nat} {v : Value} {js : List (Nat × Pc)} (hown : W.ownsRow base 64 4 v k (jcl js)) (hb : base ≤ W.heap.size) (hk : (k + 1) * 40 ≤ 140737488355328) (n : Nat) (p : Pc) :
    ∃ v' w', (Builtin.append_ #[41, 41] 41 #[v, .slice (some ⟨W.heap.size, 0, none⟩) 1 1]).run Tryz.prog (W.alloc (.cells #[.int .i64 (n : Int), .string p.t, .int .i64 p.ln, .int .i64 p.col] 64)) = .ok v' w' ∧ w'.ownsRow base 64 4 v' (k + 1) (jcl (js ++ [(n, p)])) ∧ Keeps (fun i => v.ownBlock = some i) W w' ∧ (v'.ownBlock = v.ownBlock ∨ v'.ownBlock = some (W.heap.size + 1)) := by
  obtain ⟨i0, hi0, hz0, hz1, hz2⟩ := jIi
  obtain ⟨v', w', hr, ho, hg, _, hbl⟩ := run_append_own_at (P := Tryz.prog) (w := W.alloc (.cells (jcl [(n, p)]).toArray 64)) base 41 41 64 i0 _ 4 40 jI hi0 hz0 hz1 hz2 rfl (by decide) v k (jcl js) (((Keeps.refl (fun _ => False) W).alloc _).owns hown (fun _ _ e => e)) ⟨W.heap.size, 0, none⟩ 1 1 (jcl [(n, p)]) rfl (fun j u hu => by
      rw [add_at]
      have := (CL.made W (jcl [(n, p)]) 64).c j u hu
      simpa using this) (fun u hu => by
      simp [jcl] at hu
      rcases hu with rfl | rfl | rfl | rfl <;> rfl) (by unfold maxLen; omega) (by omega) (Nat.le_trans hb (by simp))
  refine ⟨v', w', hr, ?_, ((Keeps.refl _ W).alloc _).grown hg (fun i _ e => e), by simpa using hbl⟩
  unfold jcl
  rw [List.flatMap_append]
  simpa [jcl] using ho
/-- A reader in memory: code, labels, jumps. -/
structure RJ (w : World) (base R mb : Nat) (qs : List Ins) (n : Nat) (f : ByteArray → Option Nat) (js : List (Nat × Pc)) : Prop where
  x : ∃ cv jv, CL w R [cv, .map (some mb), jv] ∧ w.ownsRow base 73 11 cv qs.length (icl qs) ∧ w.ownsRow base 64 4 jv js.length (jcl js) ∧ cv.ownBlock ≠ some R ∧ jv.ownBlock ≠ some R ∧ cv.ownBlock ≠ some mb ∧ jv.ownBlock ≠ some mb ∧ ∀ g, cv.ownBlock = some g → jv.ownBlock ≠ some g
  m : SM w mb n f
  b : base ≤ R ∧ base ≤ mb ∧ mb ≠ R
theorem RJ.keep {w w' : World} {base R mb n : Nat} {qs : List Ins} {f : ByteArray → Option Nat} {js : List (Nat × Pc)} (h : RJ w base R mb qs n f js) (k : Keeps (fun _ => False) w w') : RJ w' base R mb qs n f js := by
  obtain ⟨⟨cv, jv, hc, ho, hj, hn⟩, hm, hb⟩ := h
  exact ⟨⟨cv, jv, hc.keep (by show 0 < 3; decide) k (fun e => e), k.owns ho (fun _ _ e => e), k.owns hj (fun _ _ e => e), hn⟩, hm.keep k (fun e => e), hb⟩
/-- What reading a line may turn: the reader, its code, its labels, its jumps. -/
def JRw (w : World) (base R mb k : Nat) : Prop := base ≤ k ∧ (k = R ∨ k = mb ∨ (∃ cur x, w.heap[k]? = some (.cells cur 73 x)) ∨ ∃ cur x, w.heap[k]? = some (.cells cur 64 x))
set_option maxHeartbeats 500000 in
set_option maxRecDepth 100000 in
theorem filn_1 {w : World} {r : Value} {ib : Nat} (t : ByteArray) (ln col : Int) (_hs : t.size ≤ 4096) (hT : PT w) (hb : regB t = false) : Calls Tryz.prog 39 #[r, .pointer (some ⟨ib, 0, none⟩), .int .i64 1, .agg #[.string t, .int .i64 ln, .int .i64 col]] w fun e w' => e = pan (103, ln, col) ∧ Keeps (fun _ => False) w w' := by
  have m1 := CL.made w [.string t, .int .i64 ln, .int .i64 col] 58
  have k2 : Keeps (fun _ => False) w (w.alloc (.cells #[.string t, .int .i64 ln, .int .i64 col] 58)) := (Keeps.refl _ w).alloc _
  have hC := regm_no (w := (w.alloc (.cells #[.string t, .int .i64 ln, .int .i64 col] 58))) t ln col _hs (errIs_keep hT.er k2) hb
  have y0 := m1.c 0 _ rfl
  have y1 := m1.c 1 _ rfl
  have y2 := m1.c 2 _ rfl
  go_enter Tryz.func39, Tryz.ntmps39
  go_wp2_with (go_at_call 60; refine hC.mono ?_; rintro e w4 ⟨rfl, k4⟩; have K2 := k2.trans k4)
  exact ⟨rfl, rfl, K2⟩
set_option maxHeartbeats 500000 in
set_option maxRecDepth 100000 in
theorem filn_2 {w : World} {r : Value} {ib : Nat} (t : ByteArray) (ln col : Int) (_hs : t.size ≤ 4096) (hT : PT w) (hb : objO t = none) : Calls Tryz.prog 39 #[r, .pointer (some ⟨ib, 0, none⟩), .int .i64 2, .agg #[.string t, .int .i64 ln, .int .i64 col]] w fun e w' => e = pan (103, ln, col) ∧ Keeps (fun _ => False) w w' := by
  have m1 := CL.made w [.string t, .int .i64 ln, .int .i64 col] 58
  have k2 : Keeps (fun _ => False) w (w.alloc (.cells #[.string t, .int .i64 ln, .int .i64 col] 58)) := (Keeps.refl _ w).alloc _
  have hC := object_no (w := (w.alloc (.cells #[.string t, .int .i64 ln, .int .i64 col] 58))) t ln col _hs (errIs_keep hT.er k2) hb
  have y0 := m1.c 0 _ rfl
  have y1 := m1.c 1 _ rfl
  have y2 := m1.c 2 _ rfl
  go_enter Tryz.func39, Tryz.ntmps39
  go_wp2_with (go_at_call 61; refine hC.mono ?_; rintro e w4 ⟨rfl, k4⟩; have K2 := k2.trans k4)
  exact ⟨rfl, rfl, K2⟩
set_option maxHeartbeats 500000 in
set_option maxRecDepth 100000 in
theorem filn_3 {w : World} {r : Value} {ib : Nat} (t : ByteArray) (ln col : Int) (_hs : t.size ≤ 4096) (hT : PT w) (hb : src t = none) : Calls Tryz.prog 39 #[r, .pointer (some ⟨ib, 0, none⟩), .int .i64 3, .agg #[.string t, .int .i64 ln, .int .i64 col]] w fun e w' => e = pan (103, ln, col) ∧ Keeps (fun _ => False) w w' := by
  have m1 := CL.made w [.string t, .int .i64 ln, .int .i64 col] 58
  have k2 : Keeps (fun _ => False) w (w.alloc (.cells #[.string t, .int .i64 ln, .int .i64 col] 58)) := (Keeps.refl _ w).alloc _
  have hC := source_no (w := (w.alloc (.cells #[.string t, .int .i64 ln, .int .i64 col] 58))) t ln col t _hs (errIs_keep hT.er k2) hb
  have y0 := m1.c 0 _ rfl
  have y1 := m1.c 1 _ rfl
  have y2 := m1.c 2 _ rfl
  go_enter Tryz.func39, Tryz.ntmps39
  go_wp2_with (go_at_call 62; refine hC.mono ?_; rintro e w4 ⟨rfl, k4⟩; have K2 := k2.trans k4)
  exact ⟨rfl, rfl, K2⟩
set_option maxHeartbeats 500000 in
set_option maxRecDepth 100000 in
theorem filn_4 {w : World} {r : Value} {ib : Nat} (t : ByteArray) (ln col : Int) (_hs : t.size ≤ 4096) (hT : PT w) (hb : src t = none) : Calls Tryz.prog 39 #[r, .pointer (some ⟨ib, 0, none⟩), .int .i64 4, .agg #[.string t, .int .i64 ln, .int .i64 col]] w fun e w' => e = pan (103, ln, col) ∧ Keeps (fun _ => False) w w' := by
  have m1 := CL.made w [.string t, .int .i64 ln, .int .i64 col] 58
  have k2 : Keeps (fun _ => False) w (w.alloc (.cells #[.string t, .int .i64 ln, .int .i64 col] 58)) := (Keeps.refl _ w).alloc _
  have hC := source_no (w := (w.alloc (.cells #[.string t, .int .i64 ln, .int .i64 col] 58))) t ln col t _hs (errIs_keep hT.er k2) hb
  have y0 := m1.c 0 _ rfl
  have y1 := m1.c 1 _ rfl
  have y2 := m1.c 2 _ rfl
  go_enter Tryz.func39, Tryz.ntmps39
  go_wp2_with (go_at_call 62; refine hC.mono ?_; rintro e w4 ⟨rfl, k4⟩; have K2 := k2.trans k4)
  exact ⟨rfl, rfl, K2⟩
set_option maxHeartbeats 500000 in
set_option maxRecDepth 100000 in
theorem filn_5 {w : World} {r : Value} {ib : Nat} (t : ByteArray) (ln col : Int) (_hs : t.size ≤ 4096) (hT : PT w) (hb : look relT t 1 6 = 0) : Calls Tryz.prog 39 #[r, .pointer (some ⟨ib, 0, none⟩), .int .i64 5, .agg #[.string t, .int .i64 ln, .int .i64 col]] w fun e w' => e = pan (103, ln, col) ∧ Keeps (fun _ => False) w w' := by
  have m1 := CL.made w [.string t, .int .i64 ln, .int .i64 col] 58
  have k2 : Keeps (fun _ => False) w (w.alloc (.cells #[.string t, .int .i64 ln, .int .i64 col] 58)) := (Keeps.refl _ w).alloc _
  have hC := relation_no (w := (w.alloc (.cells #[.string t, .int .i64 ln, .int .i64 col] 58))) t ln col (hT.lt.keep k2) hb
  have y0 := m1.c 0 _ rfl
  have y1 := m1.c 1 _ rfl
  have y2 := m1.c 2 _ rfl
  go_enter Tryz.func39, Tryz.ntmps39
  go_wp2_with (go_at_call 63; refine hC.mono ?_; rintro e w4 ⟨rfl, k4⟩; have K2 := k2.trans k4)
  exact ⟨rfl, rfl, K2⟩
theorem filn_any {w : World} {r : Value} {ib : Nat} {u : Ins} {s : Int} (hs6 : 1 ≤ s ∧ s ≤ 5) (t : ByteArray) (ln col : Int) (hs : t.size ≤ 4096) (hT : PT w) (h : fil u s t = none) : Calls Tryz.prog 39 #[r, .pointer (some ⟨ib, 0, none⟩), .int .i64 s, .agg #[.string t, .int .i64 ln, .int .i64 col]] w fun e w' => e = pan (103, ln, col) ∧ Keeps (fun _ => False) w w' := by
  unfold fil at h
  rcases (by omega : s = 1 ∨ s = 2 ∨ s = 3 ∨ s = 4 ∨ s = 5) with rfl | rfl | rfl | rfl | rfl
  · refine filn_1 t ln col hs hT ?_
    cases hb : regB t with
    | false => rfl
    | true => rw [if_pos rfl, if_pos hb] at h; cases h
  · refine filn_2 t ln col hs hT ?_
    rw [if_neg (by decide), if_pos rfl] at h
    cases ho : objO t with
    | none => rfl
    | some x => rw [ho] at h; cases h
  · refine filn_3 t ln col hs hT ?_
    rw [if_neg (by decide), if_neg (by decide), if_pos rfl] at h
    cases ho : src t with
    | none => rfl
    | some x => rw [ho] at h; cases h
  · refine filn_4 t ln col hs hT ?_
    rw [if_neg (by decide), if_neg (by decide), if_neg (by decide), if_pos rfl] at h
    cases ho : src t with
    | none => rfl
    | some x => rw [ho] at h; cases h
  · refine filn_5 t ln col hs hT ?_
    rw [if_neg (by decide), if_neg (by decide), if_neg (by decide), if_neg (by decide), if_pos rfl] at h
    by_cases hb : look relT t 1 6 = 0
    · exact hb
    · rw [if_pos hb] at h; cases h
set_option maxHeartbeats 500000 in
set_option maxRecDepth 1000000 in
theorem filn_6 {w : World} {r : Value} {ib : Nat} (t : ByteArray) (ln col : Int) (hs : t.size ≤ 4096) (hb : nmB t = false) : Calls Tryz.prog 39 #[r, .pointer (some ⟨ib, 0, none⟩), .int .i64 6, .agg #[.string t, .int .i64 ln, .int .i64 col]] w fun e w' => e = pan (103, ln, col) ∧ Keeps (fun _ => False) w w' := by
  have m1 := CL.made w [.string t, .int .i64 ln, .int .i64 col] 58
  have k2 : Keeps (fun _ => False) w (w.alloc (.cells #[.string t, .int .i64 ln, .int .i64 col] 58)) := (Keeps.refl _ w).alloc _
  go_enter Tryz.func39, Tryz.ntmps39
  go_wp2_with fail
  refine wp_region_held_drew (S := fun w' => Keeps (fun _ => False) (w.alloc (.cells #[.string t, .int .i64 ln, .int .i64 col] 58)) w') (by kernel_rfl) (Keeps.refl _ _).drew (fun hHeld => ?_)
  refine wpAnyH_take (i := 0) (v := .agg #[.string t, .int .i64 ln, .int .i64 col]) rfl (by kernel_rfl) (by kernel_rfl) (by kernel_rfl) (fun _ _ _ h => h) (Or.inl ⟨by rfl, ?_⟩) (by assumption) ?_
  · intro wx hSw
    exact takes_load' 58 _ rfl ⟨w.heap.size, 0, none⟩ rfl (run_pcAt (W := wx) (b := w.heap.size) (o := 0) (p := ⟨t, ln, col⟩) (fun j v e => by have := (m1.keep (by show 0 < 3; decide) hSw (fun e => e)).c j v e; rwa [Nat.zero_add]))
  (try simp only [List.getElem_toArray]); (try simp only [List.getElem_cons_succ]); (try simp only [List.getElem_cons_zero]); (try simp only [Act.put]); (try simp only [List.setIfInBounds_toArray]); (repeat first | simp only [List.set_cons_succ] | simp only [List.set_cons_zero])
  refine wpAnyH_take (i := 1) (v := ?_) rfl (by kernel_rfl) (by kernel_rfl) (by kernel_rfl) (fun _ _ _ h => h) (Or.inl ⟨by rfl, ?_⟩) (by assumption) ?_
  rotate_left
  · intro wx hSw;  go_simp <;> with_reducible rfl
  (try simp only [List.getElem_toArray]); (try simp only [List.getElem_cons_succ]); (try simp only [List.getElem_cons_zero]); (try simp only [Act.put]); (try simp only [List.setIfInBounds_toArray]); (repeat first | simp only [List.set_cons_succ] | simp only [List.set_cons_zero])
  refine wpAnyH_take (i := 2) (v := ?_) rfl (by kernel_rfl) (by kernel_rfl) (by kernel_rfl) (fun _ _ _ h => h) (Or.inl ⟨by rfl, ?_⟩) (by assumption) ?_
  rotate_left
  · intro wx hSw; have p0 := (m1.keep (by show 0 < 3; decide) hSw (fun e => e)).c 0 _ rfl;  go_simp <;> with_reducible rfl
  (try simp only [List.getElem_toArray]); (try simp only [List.getElem_cons_succ]); (try simp only [List.getElem_cons_zero]); (try simp only [Act.put]); (try simp only [List.setIfInBounds_toArray]); (repeat first | simp only [List.set_cons_succ] | simp only [List.set_cons_zero])
  refine wpAnyH_one 3 (by kernel_rfl) rfl rfl ?_
  go_simp
  refine (isName_any _ t hs).mono ?_
  rintro e V1 ⟨rfl, kv1⟩
  refine ⟨hHeld.trans kv1, fun hS1 => ?_⟩
  (try simp only [List.getElem_toArray]); (try simp only [List.getElem_cons_succ]); (try simp only [List.getElem_cons_zero]); (try simp only [Act.put]); (try simp only [List.setIfInBounds_toArray]); (repeat first | simp only [List.set_cons_succ] | simp only [List.set_cons_zero])
  refine wpAnyH_one 4 (by kernel_rfl) rfl rfl ?_
  go_simp
  refine (need_no _ t ln col).mono ?_
  rintro e V2 ⟨rfl, kv2⟩
  exact ⟨rfl, rfl, (k2.trans hS1).trans kv2⟩
end Go.Proofs.YtclednbclgkdaaaGreatDoor
