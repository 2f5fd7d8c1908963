import Derived.Test.YtdpnknleobobkaaGreatDoorParseW
namespace Go.Proofs.YtdpnknleobobkaaGreatDoor
open Go.RowKit

theorem dgt (u : Nat) (h : u < 10) : (UInt8.ofNat (48 + u)).toNat = 48 + u := by
  rw [UInt8.toNat_ofNat']; omega
theorem dec_small {u : Nat} (h : u < 10) : Lib.decDigits u = [UInt8.ofNat (48 + u)] := by rw [Lib.decDigits, dif_pos h]
theorem dec_big {u : Nat} (h : ¬ u < 10) : Lib.decDigits u = Lib.decDigits (u / 10) ++ [UInt8.ofNat (48 + u % 10)] := by rw [Lib.decDigits, dif_neg h]
theorem dig_dgt (u : Nat) (h : u < 10) : digB (UInt8.ofNat (48 + u)) = true := (digB_iff _).2 (by rw [dgt u h]; omega)
theorem dec_all (n : Nat) : ∀ u, u ≤ n → (Lib.decDigits u).all digB = true ∧ natv 0 (Lib.decDigits u) = u ∧ Lib.decDigits u ≠ [] ∧ (0 < u → ∃ e r, Lib.decDigits u = e :: r ∧ 49 ≤ e.toNat) := by
  induction n with
  | zero =>
    intro u hu
    have h0 : u = 0 := by omega
    subst h0
    rw [dec_small (by decide)]
    refine ⟨by rw [List.all_cons, dig_dgt 0 (by decide)]; rfl, by rw [natv_cons, natv_nil, dgt 0 (by decide)], by simp, fun h => absurd h (by decide)⟩
  | succ n ih =>
    intro u hu
    by_cases h : u < 10
    · rw [dec_small h]
      refine ⟨by rw [List.all_cons, dig_dgt u h]; rfl, by rw [natv_cons, natv_nil, dgt u h]; omega, by simp, fun h0 => ⟨_, [], rfl, by rw [dgt u h]; omega⟩⟩
    · obtain ⟨i1, i2, i3, i4⟩ := ih (u / 10) (by omega)
      rw [dec_big h]
      refine ⟨by rw [List.all_append, i1, List.all_cons, dig_dgt _ (by omega)]; rfl, by rw [natv_snoc, i2, dgt _ (by omega)]; omega, by simp, fun _ => ?_⟩
      obtain ⟨e, r, he, h49⟩ := i4 (by omega)
      exact ⟨e, r ++ [UInt8.ofNat (48 + u % 10)], by rw [he]; rfl, h49⟩
theorem dec_digs (u : Nat) : (Lib.decDigits u).all digB = true := (dec_all u u (Nat.le_refl _)).1
theorem dec_natv (u : Nat) : natv 0 (Lib.decDigits u) = u := (dec_all u u (Nat.le_refl _)).2.1
theorem dec_head (u : Nat) (h : 0 < u) : ∃ e r, Lib.decDigits u = e :: r ∧ 49 ≤ e.toNat := (dec_all u u (Nat.le_refl _)).2.2.2 h
theorem ofNat_toNat48 (c : UInt8) (h : 48 ≤ c.toNat) : UInt8.ofNat (48 + (c.toNat - 48)) = c := by
  rw [show 48 + (c.toNat - 48) = c.toNat by omega]; exact UInt8.ofNat_toNat
/-- Digits without a leading 0 are the number's text. -/
theorem dec_back (n : Nat) : ∀ d : List UInt8, d.length ≤ n → d.all digB = true → (∃ e r, d = e :: r ∧ 49 ≤ e.toNat) → Lib.decDigits (natv 0 d) = d := by
  induction n with
  | zero => intro d hl _ hh; obtain ⟨e, r, rfl, _⟩ := hh; simp at hl
  | succ n ih =>
    intro d hl ha hh
    obtain ⟨e, r, rfl, h49⟩ := hh
    rcases List.eq_nil_or_concat r with rfl | ⟨r', c, rfl⟩
    · rw [List.all_cons, Bool.and_eq_true] at ha
      have he := (digB_iff e).1 ha.1
      rw [natv_cons, natv_nil, show 0 * 10 + (e.toNat - 48) = e.toNat - 48 by omega, dec_small (by omega), ofNat_toNat48 e (by omega)]
    · have e1 : e :: r'.concat c = (e :: r') ++ [c] := by simp
      rw [e1] at ha hl ⊢
      rw [List.all_append, Bool.and_eq_true] at ha
      have hc : digB c = true := by simpa using ha.2
      have hc := (digB_iff c).1 hc
      have ih1 := ih (e :: r') (by simp at hl ⊢; omega) ha.1 ⟨e, r', rfl, h49⟩
      have hge := natv_ge r' (0 * 10 + (e.toNat - 48))
      rw [← natv_cons] at hge
      have hp : 1 ≤ natv 0 (e :: r') := by
        refine Nat.le_trans ?_ hge
        have : 0 < 10 ^ r'.length := Nat.pow_pos (by decide)
        exact Nat.mul_pos (by omega) this
      rw [natv_snoc, dec_big (by omega), show (natv 0 (e :: r') * 10 + (c.toNat - 48)) / 10 = natv 0 (e :: r') by omega, ih1, show (natv 0 (e :: r') * 10 + (c.toNat - 48)) % 10 = c.toNat - 48 by omega, ofNat_toNat48 c (by omega)]
theorem dec_len (u : Nat) (h : u ≤ 9223372036854775808) : 1 ≤ (Lib.decDigits u).length ∧ (Lib.decDigits u).length ≤ 19 := by
  by_cases h0 : u = 0
  · subst h0; rw [dec_small (by decide)]; simp
  · obtain ⟨e, r, he, h49⟩ := dec_head u (by omega)
    have hn := dec_natv u
    rw [he] at hn ⊢
    have hge := natv_ge r (0 * 10 + (e.toNat - 48))
    rw [← natv_cons, hn] at hge
    have h1 : 1 * 10 ^ r.length ≤ u := Nat.le_trans (Nat.mul_le_mul_right _ (by omega)) hge
    rw [List.length_cons]
    refine ⟨by omega, ?_⟩
    by_cases k : r.length ≤ 18
    · omega
    · have : 10 ^ 19 ≤ 10 ^ r.length := Nat.pow_le_pow_right (by decide) (by omega)
      have e19 : (10 : Nat) ^ 19 = 10000000000000000000 := rfl
      omega

/-! A number's text. -/
theorem itoa_neg' {n : Int} (h : n < 0) : Lib.itoa n = 45 :: Lib.decDigits n.natAbs := by unfold Lib.itoa; rw [if_pos h]
theorem itoa_pos' {n : Int} (h : ¬ n < 0) : Lib.itoa n = Lib.decDigits n.natAbs := by unfold Lib.itoa; rw [if_neg h]; congr 1; omega
theorem form_dec_neg (u : Nat) (h : 0 < u) : numForm (45 :: Lib.decDigits u) = true := by
  obtain ⟨e, r, he, h49⟩ := dec_head u h
  have hd := dec_digs u
  rw [he] at hd ⊢
  rw [numForm_cons, if_pos (by decide)]
  simp only
  rw [if_neg (by omega)]; exact hd
theorem form_dec (u : Nat) : numForm (Lib.decDigits u) = true ∧ neg? (Lib.decDigits u) = false ∧ digs (Lib.decDigits u) = Lib.decDigits u := by
  by_cases h : 0 < u
  · obtain ⟨e, r, he, h49⟩ := dec_head u h
    have hd := dec_digs u
    rw [he] at hd ⊢
    have h5 := hd
    rw [List.all_cons, Bool.and_eq_true] at h5
    have h6 := (digB_iff e).1 h5.1
    refine ⟨?_, ?_, ?_⟩
    · rw [numForm_cons, if_neg (by omega), if_neg (by omega)]; exact hd
    · show decide (e.toNat = 45) = false
      simp; omega
    · show (if e.toNat = 45 then r else e :: r) = e :: r
      rw [if_neg (by omega)]
  · have h0 : u = 0 := by omega
    subst h0
    rw [dec_small (by decide)]
    exact ⟨by decide, by decide, by decide⟩
theorem round_to (n : Int) (h : In64 n) : prsV (Lib.itoa n) = n ∧ prsE (Lib.itoa n) = 0 ∧ 1 ≤ (Lib.itoa n).length ∧ (Lib.itoa n).length ≤ 20 := by
  unfold In64 at h
  by_cases hn : n < 0
  · rw [itoa_neg' hn]
    have hl := dec_len n.natAbs (by omega)
    have hf := form_dec_neg n.natAbs (by omega)
    have hg : neg? (45 :: Lib.decDigits n.natAbs) = true := by show decide ((45 : UInt8).toNat = 45) = true; decide
    have hd : digs (45 :: Lib.decDigits n.natAbs) = Lib.decDigits n.natAbs := by
      show (if (45 : UInt8).toNat = 45 then Lib.decDigits n.natAbs else 45 :: Lib.decDigits n.natAbs) = _; rw [if_pos (by decide)]
    have hv := dec_natv n.natAbs
    refine ⟨?_, ?_, by rw [List.length_cons]; omega, by rw [List.length_cons]; omega⟩
    · unfold prsV lim
      rw [hf, hg, hd, hv, if_pos ⟨rfl, by simp; omega⟩]
      simp; omega
    · unfold prsE lim
      rw [hf, hg, hd, hv, if_pos rfl, if_pos (by simp; omega)]
  · rw [itoa_pos' hn]
    have hl := dec_len n.natAbs (by omega)
    obtain ⟨hf, hg, hd⟩ := form_dec n.natAbs
    have hv := dec_natv n.natAbs
    refine ⟨?_, ?_, hl.1, by omega⟩
    · unfold prsV lim
      rw [hf, hg, hd, hv, if_pos ⟨rfl, by simp; omega⟩]
      simp; omega
    · unfold prsE lim
      rw [hf, hg, hd, hv, if_pos rfl, if_pos (by simp; omega)]
theorem round_from {l : List UInt8} (h : prsE l = 0) : Lib.itoa (prsV l) = l ∧ In64 (prsV l) := by
  unfold prsE at h
  by_cases hf : numForm l = true
  · rw [if_pos hf] at h
    by_cases hl : natv 0 (digs l) ≤ lim l
    · obtain ⟨h1, h2, h3, h4⟩ := form_digs hf
      have hV : prsV l = if neg? l then -((natv 0 (digs l) : Nat) : Int) else ((natv 0 (digs l) : Nat) : Int) := by unfold prsV; rw [if_pos ⟨hf, hl⟩]
      have hL : lim l = if neg? l then 9223372036854775808 else 9223372036854775807 := rfl
      rw [hV]
      have back : ∀ e r, digs l = e :: r → 49 ≤ e.toNat → Lib.decDigits (natv 0 (digs l)) = digs l ∧ 0 < natv 0 (digs l) := by
        intro e r he h49
        refine ⟨dec_back _ _ (Nat.le_refl _) h1 ⟨e, r, he, h49⟩, ?_⟩
        rw [he]
        have hge := natv_ge r (0 * 10 + (e.toNat - 48))
        rw [← natv_cons] at hge
        have : 0 < 10 ^ r.length := Nat.pow_pos (by decide)
        exact Nat.lt_of_lt_of_le (Nat.mul_pos (by omega) this) hge
      cases hn : neg? l
      · rw [hn] at hL
        simp only [Bool.false_eq_true, if_false] at hL ⊢
        have hd : digs l = l := by
          cases l with
          | nil => rfl
          | cons c r =>
            have : decide (c.toNat = 45) = false := hn
            show (if c.toNat = 45 then r else c :: r) = c :: r
            rw [if_neg (by simpa using this)]
        refine ⟨?_, by unfold In64; omega⟩
        rw [itoa_pos' (by omega), Int.natAbs_natCast]
        rcases h3 with h3 | ⟨e, r, he, h49⟩
        · rw [h3, natv_cons, natv_nil, ← hd, h3]
          exact dec_small (by decide)
        · rw [(back e r he h49).1, hd]
      · rw [hn] at hL
        simp only [if_true] at hL ⊢
        obtain ⟨e, r, he, h49⟩ := h4 hn
        obtain ⟨b1, b2⟩ := back e r he h49
        refine ⟨?_, by unfold In64; omega⟩
        rw [itoa_neg' (by omega), Int.natAbs_neg, Int.natAbs_natCast, b1]
        cases l with
        | nil => cases hn
        | cons c r =>
          have hc : c.toNat = 45 := of_decide_eq_true hn
          have hcc : c = 45 := UInt8.toNat_inj.1 hc
          show (45 : UInt8) :: (if c.toNat = 45 then r else c :: r) = c :: r
          rw [if_pos hc, hcc]
    · rw [if_neg hl] at h; cases h
  · rw [if_neg hf] at h; cases h
theorem round_else {l : List UInt8} (h : prsE l ≠ 0) : prsV l = 0 ∧ (prsE l = 12 ∨ prsE l = 13) := by
  by_cases hf : numForm l = true
  · by_cases hl : natv 0 (digs l) ≤ lim l
    · exact absurd (prs_ok hf hl) h
    · obtain ⟨a, b⟩ := prs_range hf hl
      exact ⟨a, .inr b⟩
  · obtain ⟨a, b⟩ := prs_bad (by simpa using hf)
    exact ⟨a, .inl b⟩
theorem one_minus {n : Int} (h : n < 0) : prsV (49 :: Lib.itoa n) = 0 ∧ prsE (49 :: Lib.itoa n) = 12 := by
  refine prs_bad ?_
  rw [itoa_neg' h, numForm_cons, if_neg (by decide), if_neg (by decide)]
  rfl
end Go.Proofs.YtdpnknleobobkaaGreatDoor
