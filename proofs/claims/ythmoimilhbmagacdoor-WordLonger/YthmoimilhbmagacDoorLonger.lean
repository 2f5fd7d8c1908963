import Derived.Test.YthmoimilhbmagacDoorLongerFacts
import Derived.Test.YthmoimilhbmagacDoorRefFormat
import Derived.Test.YthmoimilhbmagacDoorSatAdd
import Derived.Test.YthmoimilhbmagacDoorDo
import Derived.Test.YthmoimilhbmagacDoorRing0
namespace Go.Proofs.YthmoimilhbmagacDoor
open Go.ChangeShapes Go.WideShapes Go.ChangeAt Go.RowKit

theorem snoc_list (T : ByteArray) (c : UInt8) : (T ++ ⟨#[c]⟩ : ByteArray).toList = T.toList ++ [c] := by
  rw [list_of, ByteArray.data_append, Array.toList_append, ← list_of T]

set_option maxHeartbeats 2000000 in
theorem longer_walk (n : Int) (c : UInt8) (hn : In64 n) (w : World) (he : Env w) :
    Calls Tryd.prog 5 #[.int .i64 n, .int .u8 (c.toNat : Int)] w fun e w' => e = .returned (.bool true) ∧ Below w.heap.size w w' := by
  have hcv := one_byte
  have hc := c.toNat_lt
  go_enter Tryd.func5, Tryd.ntmps5
  go_wp2_with fail
  refine (format_T n hn _ he).mono ?_
  rintro e w1 ⟨T, rfl, hT, t1, t2, hb1⟩
  have HT : Hid (_ = _) := hT
  have he1 := he.step hb1
  have HB : Hid (Below w.heap.size w w1) := hb1
  clear hT hb1
  have HL : Hid ((T ++ ⟨#[c]⟩ : ByteArray).toList = Lib.itoa n ++ [c]) := by show _ = _; rw [snoc_list, HT.out]
  have zs : (T ++ ⟨#[c]⟩ : ByteArray).size ≤ 281474976710656 := by rw [← list_len, snoc_list, List.length_append, list_len]; simp; omega
  have tn : T.toList.isEmpty = false := by rw [list_cons T (by omega)]; rfl
  go_wp2_with fail
  refine (parse_any _ _ zs (he1.step ((Below.refl _ _).alloc (Nat.le_refl _) _)).2).mono ?_
  rintro e w2 ⟨rfl, hb2⟩
  have HB2 : Hid (Below w.heap.size w w2) := (HB.out.alloc HB.out.size _).trans (hb2.mono (by have := HB.out.size; simp; omega))
  clear hb2
  by_cases bad : c.toNat < 48 ∨ 57 < c.toNat ∨ n = 0
  · obtain ⟨p1, p2⟩ := longer_bad n c bad
    rw [← HL.out] at p1 p2
    have p3 : (prsV (T ++ ⟨#[c]⟩ : ByteArray).toList == 0) = true := by rw [p1]; rfl
    clear p1
    have bb : (decide ((c.toNat : Int) < 48) = true) ∨ (decide ((c.toNat : Int) < 48) = false ∧ decide ((57 : Int) < (c.toNat : Int)) = true) ∨ (decide ((c.toNat : Int) < 48) = false ∧ decide ((57 : Int) < (c.toNat : Int)) = false ∧ (n == 0) = true) := by
      by_cases k1 : c.toNat < 48
      · left; simp; omega
      · by_cases k2 : 57 < c.toNat
        · right; left; refine ⟨by simp; omega, by simp; omega⟩
        · right; right; refine ⟨by simp; omega, by simp; omega, by simp; omega⟩
    clear bad
    rcases bb with x1 | ⟨x1, x2⟩ | ⟨x1, x2, x3⟩
    all_goals
      go_wp2
      go_ret
      exact ⟨rfl, HB2.out⟩
  · have c1 : 48 ≤ c.toNat := by omega
    have c2 : c.toNat ≤ 57 := by omega
    have c3 : n ≠ 0 := by omega
    have x1 : decide ((c.toNat : Int) < 48) = false := by simp; omega
    have x2 : decide ((57 : Int) < (c.toNat : Int)) = false := by simp; omega
    have x3 : (n == 0) = false := by simp; omega
    have hk := Kept.start w2 (.cells #[.bool false] 32)
    have hq := calc_cell w2
    clear bad
    by_cases hneg : n < 0
    · skip
      have es : sgn n c = (-((c.toNat : Int) - 48)) := by unfold sgn; rw [if_pos hneg]
      have id : In64 (-((c.toNat : Int) - 48)) := by unfold In64; omega
      by_cases hin : In64 (n * 10 + sgn n c)
      · obtain ⟨p1, p2⟩ := longer_in n c c1 c2 c3 hin
        rw [es] at hin p1
        obtain ⟨b1, b2, b3, b4⟩ := beyond_in n (-((c.toNat : Int) - 48)) hn ⟨by omega, by omega⟩ hin
        have p3 : (prsV (T ++ ⟨#[c]⟩ : ByteArray).toList == ap 1 (ap 3 n 10) (-((c.toNat : Int) - 48))) = true := by rw [b3, HL.out, p1]; simp
        have p4 : prsE (T ++ ⟨#[c]⟩ : ByteArray).toList = 0 := by rw [HL.out]; exact p2
        clear es hin p1 p2 b3
        go_wp2_with (first | (go_at_call 10; refine (do_any _ _ _ _ (by decide) hk).mono ?_; rintro e w3 ⟨rfl, hk1⟩; replace hk := hk1; clear hk1; replace hq := calc_kept hk) | (go_at_call 12; refine (fixed_any hk).mono ?_; rintro e w3 ⟨rfl, hk1⟩; replace hk := hk1; clear hk1; replace hq := calc_kept hk) | (go_at_call 11; refine (satAdd_any _ _ (by assumption) (by assumption) _).mono ?_; rintro e w3 ⟨rfl, rfl⟩))
        go_ret
        exact ⟨rfl, HB2.out.trans ((calc_below hk).mono HB2.out.size)⟩
      · obtain ⟨p1, p2⟩ := longer_out n c c1 c2 c3 hin
        rw [es] at hin
        obtain ⟨b4, b1⟩ := beyond_out n (-((c.toNat : Int) - 48)) hn ⟨by omega, by omega⟩ hin
        have p3 : (prsV (T ++ ⟨#[c]⟩ : ByteArray).toList == 0) = true := by rw [HL.out, p1]; rfl
        have p4 : prsE (T ++ ⟨#[c]⟩ : ByteArray).toList = 13 := by rw [HL.out]; exact p2
        clear es hin p1 p2
        rcases b1 with b1 | ⟨b1, b2⟩
        all_goals
          go_wp2_with (first | (go_at_call 10; refine (do_any _ _ _ _ (by decide) hk).mono ?_; rintro e w3 ⟨rfl, hk1⟩; replace hk := hk1; clear hk1; replace hq := calc_kept hk) | (go_at_call 12; refine (fixed_any hk).mono ?_; rintro e w3 ⟨rfl, hk1⟩; replace hk := hk1; clear hk1; replace hq := calc_kept hk) | (go_at_call 11; refine (satAdd_any _ _ (by assumption) (by assumption) _).mono ?_; rintro e w3 ⟨rfl, rfl⟩))
          go_ret
          exact ⟨rfl, HB2.out.trans ((calc_below hk).mono HB2.out.size)⟩
    · skip
      have es : sgn n c = ((c.toNat : Int) - 48) := by unfold sgn; rw [if_neg hneg]
      have id : In64 ((c.toNat : Int) - 48) := by unfold In64; omega
      by_cases hin : In64 (n * 10 + sgn n c)
      · obtain ⟨p1, p2⟩ := longer_in n c c1 c2 c3 hin
        rw [es] at hin p1
        obtain ⟨b1, b2, b3, b4⟩ := beyond_in n ((c.toNat : Int) - 48) hn ⟨by omega, by omega⟩ hin
        have p3 : (prsV (T ++ ⟨#[c]⟩ : ByteArray).toList == ap 1 (ap 3 n 10) ((c.toNat : Int) - 48)) = true := by rw [b3, HL.out, p1]; simp
        have p4 : prsE (T ++ ⟨#[c]⟩ : ByteArray).toList = 0 := by rw [HL.out]; exact p2
        clear es hin p1 p2 b3
        go_wp2_with (first | (go_at_call 10; refine (do_any _ _ _ _ (by decide) hk).mono ?_; rintro e w3 ⟨rfl, hk1⟩; replace hk := hk1; clear hk1; replace hq := calc_kept hk) | (go_at_call 12; refine (fixed_any hk).mono ?_; rintro e w3 ⟨rfl, hk1⟩; replace hk := hk1; clear hk1; replace hq := calc_kept hk) | (go_at_call 11; refine (satAdd_any _ _ (by assumption) (by assumption) _).mono ?_; rintro e w3 ⟨rfl, rfl⟩))
        go_ret
        exact ⟨rfl, HB2.out.trans ((calc_below hk).mono HB2.out.size)⟩
      · obtain ⟨p1, p2⟩ := longer_out n c c1 c2 c3 hin
        rw [es] at hin
        obtain ⟨b4, b1⟩ := beyond_out n ((c.toNat : Int) - 48) hn ⟨by omega, by omega⟩ hin
        have p3 : (prsV (T ++ ⟨#[c]⟩ : ByteArray).toList == 0) = true := by rw [HL.out, p1]; rfl
        have p4 : prsE (T ++ ⟨#[c]⟩ : ByteArray).toList = 13 := by rw [HL.out]; exact p2
        clear es hin p1 p2
        rcases b1 with b1 | ⟨b1, b2⟩
        all_goals
          go_wp2_with (first | (go_at_call 10; refine (do_any _ _ _ _ (by decide) hk).mono ?_; rintro e w3 ⟨rfl, hk1⟩; replace hk := hk1; clear hk1; replace hq := calc_kept hk) | (go_at_call 12; refine (fixed_any hk).mono ?_; rintro e w3 ⟨rfl, hk1⟩; replace hk := hk1; clear hk1; replace hq := calc_kept hk) | (go_at_call 11; refine (satAdd_any _ _ (by assumption) (by assumption) _).mono ?_; rintro e w3 ⟨rfl, rfl⟩))
          go_ret
          exact ⟨rfl, HB2.out.trans ((calc_below hk).mono HB2.out.size)⟩
theorem longer_law (n b : Int) (hn : In64 n) (hb : (Lit.int .u8 b).wf = true) (w : World) (he : Env w) :
    Calls Tryd.prog 5 #[.int .i64 n, .int .u8 b] w fun e w' => e = .returned (.bool true) ∧ Below w.heap.size w w' := by
  have hr : 0 ≤ b ∧ b ≤ 255 := by
    simp [Lit.wf, IntKind.min, IntKind.max, IntKind.signed, IntKind.bits] at hb
    omega
  obtain ⟨k, rfl⟩ := Int.eq_ofNat_of_zero_le hr.1
  have e : ((UInt8.ofNat k).toNat : Int) = k := by rw [UInt8.toNat_ofNat']; omega
  have h := longer_walk n (UInt8.ofNat k) hn w he
  rw [e] at h
  exact h
end Go.Proofs.YthmoimilhbmagacDoor
