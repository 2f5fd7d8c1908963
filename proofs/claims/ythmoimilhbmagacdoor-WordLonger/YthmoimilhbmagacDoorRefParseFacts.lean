import Derived.Test.YthmoimilhbmagacDoorRound
namespace Go.Proofs.YthmoimilhbmagacDoor
open Go.RowKit

theorem ret2 {a b c d : Int} (h : a = c) (k : b = d) : Ending.returned (.tuple #[.int .i64 a, .int .i64 b]) = .returned (.tuple #[.int .i64 c, .int .i64 d]) := by rw [h, k]

theorem range_ways {t m : List UInt8} {M : Nat} (hm : m.length = 19) (hd : m.all digB = true) (hM : natv 0 m = M) (h1 : 1000000000000000000 ≤ M) (h2 : M < 10000000000000000000)
    (ht : t.all digB = true) (hh : t = [48] ∨ ∃ e r, t = e :: r ∧ 49 ≤ e.toNat) :
    (19 < t.length ∧ M < natv 0 t) ∨ (t.length = 19 ∧ Op.bytesLess t m = false ∧ (t == m) = false ∧ M < natv 0 t) ∨
    (t.length = 19 ∧ (Op.bytesLess t m = true ∨ (Op.bytesLess t m = false ∧ (t == m) = true)) ∧ natv 0 t ≤ M) ∨ (t.length < 19 ∧ natv 0 t ≤ M) := by
  by_cases k1 : 19 < t.length
  · left
    refine ⟨k1, ?_⟩
    rcases hh with rfl | ⟨e, r, rfl, h49⟩
    · simp at k1
    · have hge := natv_ge r (0 * 10 + (e.toNat - 48))
      rw [← natv_cons] at hge
      have hp : 10 ^ 19 ≤ 10 ^ r.length := Nat.pow_le_pow_right (by decide) (by simp at k1; omega)
      have e19 : (10 : Nat) ^ 19 = 10000000000000000000 := rfl
      have : 1 * 10 ^ r.length ≤ (0 * 10 + (e.toNat - 48)) * 10 ^ r.length := Nat.mul_le_mul_right _ (by omega)
      omega
  · by_cases k2 : t.length = 19
    · obtain ⟨l1, l2⟩ := less_iff 0 t m (by omega) ht hd
      rw [hM] at l1 l2
      by_cases k3 : natv 0 t < M
      · right; right; left
        exact ⟨k2, .inl (l1.2 k3), by omega⟩
      · have b1 : Op.bytesLess t m = false := by rw [Bool.eq_false_iff]; exact fun q => k3 (l1.1 q)
        by_cases k4 : natv 0 t = M
        · right; right; left
          exact ⟨k2, .inr ⟨b1, l2.2 k4⟩, by omega⟩
        · right; left
          exact ⟨k2, b1, by rw [Bool.eq_false_iff]; exact fun q => k4 (l2.1 q), by omega⟩
    · right; right; right
      refine ⟨by omega, ?_⟩
      have hlt := natv_lt t 0 ht
      have hp : 10 ^ t.length ≤ 10 ^ 18 := Nat.pow_le_pow_right (by decide) (by omega)
      have e18 : (10 : Nat) ^ 18 = 1000000000000000000 := rfl
      omega

/-- What the first k digits spell. -/
def natTo (t : ByteArray) (k : Nat) : Nat := natv 0 (t.toList.take k)
theorem natTo_zero (t : ByteArray) : natTo t 0 = 0 := by unfold natTo; rw [List.take_zero, natv_nil]
theorem natTo_succ (t : ByteArray) (k : Nat) (h : k < t.size) : natTo t (k + 1) = natTo t k * 10 + (t[k].toNat - 48) := by
  unfold natTo
  have hl : k < t.toList.length := by rw [list_len]; exact h
  have e : t.toList[k]'hl = t[k] := by
    have := list_get t k h
    rw [List.getElem?_eq_getElem hl] at this
    exact Option.some.inj this
  rw [List.take_succ_eq_append_getElem hl, e, natv_snoc]
theorem natTo_le (t : ByteArray) (k : Nat) : natTo t k ≤ natv 0 t.toList := by
  unfold natTo
  have e : t.toList = t.toList.take k ++ t.toList.drop k := (List.take_append_drop k _).symm
  have h := natv_append (t.toList.take k) (t.toList.drop k) 0
  rw [← e] at h
  rw [h]
  have hge := natv_ge (t.toList.drop k) (natv 0 (t.toList.take k))
  exact Nat.le_trans (Nat.le_mul_of_pos_right _ (Nat.pow_pos (by decide))) hge
theorem natTo_all (t : ByteArray) : natTo t t.size = natv 0 t.toList := by
  unfold natTo
  rw [← list_len, List.take_length]
theorem form_zero {s : ByteArray} (h : 0 < s.size) (h4 : s[0].toNat = 48) (h5 : s.size = 1) : numForm s.toList = s.toList.all digB ∧ s.toList = [48] := by
  have e := list_cons s h
  have e2 : s.toList.drop 1 = [] := List.eq_nil_of_length_eq_zero (by rw [List.length_drop, list_len]; omega)
  have e3 : s[0] = 48 := UInt8.toNat_inj.1 h4
  rw [e2, e3] at e
  rw [e]
  exact ⟨by decide, rfl⟩
theorem form_zeros {s : ByteArray} (h : 0 < s.size) (h4 : s[0].toNat = 48) (h5 : 1 < s.size) : numForm s.toList = false := by
  rw [(form_plain h (by omega)).1 h4]
  rw [Bool.eq_false_iff]
  intro q
  have q' : s.toList = [48] := by simpa using q
  have := congrArg List.length q'
  rw [list_len] at this
  simp at this
  omega
theorem neg_plain {s : ByteArray} (h : 0 < s.size) (h1 : s[0].toNat ≠ 45) : neg? s.toList = false ∧ digs s.toList = s.toList ∧ lim s.toList = 9223372036854775807 := by
  have e := list_cons s h
  have e1 : neg? s.toList = false := by rw [e]; show decide (s[0].toNat = 45) = false; simp [h1]
  refine ⟨e1, ?_, by unfold lim; rw [e1]; rfl⟩
  rw [e]; show (if s[0].toNat = 45 then _ else _) = _; rw [if_neg h1]
theorem neg_minus {s : ByteArray} (h : 0 < s.size) (h1 : s[0].toNat = 45) : neg? s.toList = true ∧ digs s.toList = (s.extract 1 s.size).toList ∧ lim s.toList = 9223372036854775808 := by
  have e := list_cons s h
  have e1 : neg? s.toList = true := by rw [e]; show decide (s[0].toNat = 45) = true; simp [h1]
  refine ⟨e1, ?_, by unfold lim; rw [e1]; rfl⟩
  rw [list_tail, e]; show (if s[0].toNat = 45 then _ else _) = _; rw [if_pos h1]; rfl
theorem prs_of {l : List UInt8} {v : Nat} (h : numForm l = true) (hv : natv 0 (digs l) = v) (h2 : v ≤ lim l) : prsV l = (if neg? l then -((v : Nat) : Int) else ((v : Nat) : Int)) ∧ prsE l = 0 := by
  refine ⟨by unfold prsV; rw [hv, if_pos ⟨h, h2⟩], prs_ok h (by rw [hv]; exact h2)⟩
theorem mp_all : ([57, 50, 50, 51, 51, 55, 50, 48, 51, 54, 56, 53, 52, 55, 55, 53, 56, 48, 55] : List UInt8).all digB = true := by decide
theorem mp_nat : natv 0 [57, 50, 50, 51, 51, 55, 50, 48, 51, 54, 56, 53, 52, 55, 55, 53, 56, 48, 55] = 9223372036854775807 := by decide
theorem mm_all : ([57, 50, 50, 51, 51, 55, 50, 48, 51, 54, 56, 53, 52, 55, 55, 53, 56, 48, 56] : List UInt8).all digB = true := by decide
theorem mm_nat : natv 0 [57, 50, 50, 51, 51, 55, 50, 48, 51, 54, 56, 53, 52, 55, 55, 53, 56, 48, 56] = 9223372036854775808 := by decide
end Go.Proofs.YthmoimilhbmagacDoor
