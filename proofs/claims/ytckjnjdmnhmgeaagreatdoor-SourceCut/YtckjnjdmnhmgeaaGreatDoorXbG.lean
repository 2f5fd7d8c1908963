import Derived.Test.YtckjnjdmnhmgeaaGreatDoorXaS
namespace Go.Proofs.YtckjnjdmnhmgeaaGreatDoor
theorem num_bg {R : Bs} {t : Tr} {R1 : Bs} (h : num R = .ok (t, R1)) : bgE t + R1.length ≤ R.length := by
  have hl := num_lt h
  have : bgE t = 1 := by
    unfold num at h
    split at h
    · first
      | cases h
      | (obtain ⟨R2, h1, h2⟩ := thr_ok h; injection h2 with h2; injection h2 with h2a h2; subst h2a; simp [bgE, bgL])
    · first
      | cases h
      | (split at h <;> first | cases h | (obtain ⟨R2, h1, h2⟩ := thr_ok h; injection h2 with h2; injection h2 with h2a h2; subst h2a; simp [bgE, bgL]))
      | (obtain ⟨R2, h1, h2⟩ := thr_ok h; injection h2 with h2; injection h2 with h2a h2; subst h2a; simp [bgE, bgL])
  omega
theorem rd_bg : ∀ d : Nat,
    (∀ least R t R1, 1 ≤ least → ex d least R = .ok (t, R1) → bgE t + R1.length ≤ R.length) ∧
    (∀ left str least R t R1, 1 ≤ least → lp d left str least R = .ok (t, R1) → bgE t + R1.length ≤ bgE left + R.length) ∧
    (∀ R t R1, opd d R = .ok (t, R1) → bgE t + R1.length ≤ R.length) ∧
    (∀ R t R1, lst d R = .ok (t, R1) → bgE t + R1.length ≤ R.length) ∧
    (∀ R t R1, obj d R = .ok (t, R1) → bgE t + 1 + R1.length ≤ R.length) ∧
    (∀ R t R1, (tok R = kMin ∨ tok R = kMax) → pr d R = .ok (t, R1) → bgE t + R1.length ≤ R.length)
  | 0 => ⟨fun _ _ _ _ _ h => by simp [ex] at h, fun _ _ _ _ _ _ _ h => by simp [lp] at h, fun _ _ _ h => by simp [opd] at h, fun _ _ _ h => by simp [lst] at h, fun _ _ _ h => by simp [obj] at h, fun _ _ _ _ h => by simp [pr] at h⟩
  | d + 1 => by
    obtain ⟨i1, i2, i3, i4, i5, i6⟩ := rd_bg d
    refine ⟨fun least R t R1 hl h => ?_, fun left str least R t R1 hl h => ?_, fun R t R1 h => ?_, fun R t R1 h => ?_, fun R t R1 h => ?_, fun R t R1 hm h => ?_⟩
    · rw [ex] at h
      obtain ⟨a, R2, h1, h2⟩ := thn_ok h
      have := i3 _ _ _ h1
      have := i2 _ _ _ _ _ _ hl h2
      first | omega | (simp only [bgE, bgL] at *; omega)
    · rw [lp] at h
      split at h
      · injection h with h; injection h with ha h; subst h ha; first | exact Nat.le_refl _ | omega
      · rename_i hb
        obtain ⟨R2, h1, h2⟩ := thr_ok h
        obtain ⟨a, R3, h3, h4⟩ := thn_ok h2
        have h5 := nxt_lt h1 (fun e => hb (.inl (by rw [e, bnd_nil]; exact hl)))
        have := i1 _ _ _ _ (by omega) h3
        have := i2 _ _ _ _ _ _ hl h4
        first | omega | (simp only [bgE, bgL] at *; omega)
    · rw [opd] at h
      split at h
      · rename_i ht
        obtain ⟨R2, h1, h2⟩ := thr_ok h
        obtain ⟨a, R3, h3, h4⟩ := thn_ok h2
        injection h4 with h4; injection h4 with h4a h4; subst h4 h4a
        have := nxt_lt h1 (by rw [ht]; decide)
        have := i3 _ _ _ h3
        first | omega | (simp only [bgE, bgL] at *; omega)
      · split at h
        · rename_i ht
          obtain ⟨R2, h1, h2⟩ := thr_ok h
          obtain ⟨a, R3, h3, h4⟩ := thn_ok h2
          injection h4 with h4; injection h4 with h4a h4; subst h4 h4a
          have := nxt_lt h1 (by rw [ht]; decide)
          have := i3 _ _ _ h3
          first | omega | (simp only [bgE, bgL] at *; omega)
        · exact i4 _ _ _ h
    · rw [lst] at h
      split at h
      · obtain ⟨a, R3, h3, h4⟩ := thn_ok h
        injection h4 with h4; injection h4 with h4a h4; subst h4 h4a
        have := i5 _ _ _ h3
        simp only [bgE, bgL] at *; omega
      · split at h
        · rename_i ht
          obtain ⟨R2, h1, h2⟩ := thr_ok h
          obtain ⟨a, R3, h3, h4⟩ := thn_ok h2
          injection h4 with h4; injection h4 with h4a h4; subst h4 h4a
          have := nxt_lt h1 (by rw [ht]; decide)
          have := i5 _ _ _ h3
          first | omega | (simp only [bgE, bgL] at *; omega)
        · split at h
          · rename_i ht; exact i6 _ _ _ ht h
          · split at h
            · rename_i ht
              obtain ⟨R2, h1, h2⟩ := thr_ok h
              obtain ⟨a, R3, h3, h4⟩ := thn_ok h2
              obtain ⟨R4, h5, h6⟩ := thr_ok h4
              injection h6 with h6; injection h6 with h6a h6; subst h6 h6a
              have := nxt_lt h1 (by rw [ht]; decide)
              have := i1 _ _ _ _ (Nat.le_refl _) h3
              have := need_lt h5 (by decide)
              first | omega | (simp only [bgE, bgL] at *; omega)
            · split at h
              · rename_i ht
                obtain ⟨R2, h1, h2⟩ := thr_ok h
                injection h2 with h2; injection h2 with h2a h2; subst h2 h2a
                have := nxt_lt h1 (isNm_ne ht)
                simp only [bgE, bgL] at *; omega
              · exact num_bg h
    · rw [obj] at h
      obtain ⟨R2, h1, h2⟩ := thr_ok h
      obtain ⟨a, R3, h3, h4⟩ := thn_ok h2
      obtain ⟨R4, h5, h6⟩ := thr_ok h4
      injection h6 with h6; injection h6 with h6a h6; subst h6 h6a
      have := need_lt h1 (by decide)
      have := i1 _ _ _ _ (Nat.le_refl _) h3
      have := need_lt h5 (by decide)
      first | omega | (simp only [bgE, bgL] at *; omega)
    · rw [pr] at h
      obtain ⟨R2, h1, h2⟩ := thr_ok h
      obtain ⟨R3, h3, h4⟩ := thr_ok h2
      obtain ⟨a, R4, h5, h6⟩ := thn_ok h4
      obtain ⟨R5, h7, h8⟩ := thr_ok h6
      obtain ⟨b, R6, h9, h10⟩ := thn_ok h8
      obtain ⟨R7, h11, h12⟩ := thr_ok h10
      injection h12 with h12; injection h12 with h12a h12; subst h12 h12a
      have := nxt_lt h1 (by rcases hm with e | e <;> rw [e] <;> decide)
      have := need_lt h3 (by decide)
      have := i1 _ _ _ _ (Nat.le_refl _) h5
      have := need_lt h7 (by decide)
      have := i1 _ _ _ _ (Nat.le_refl _) h9
      have := need_lt h11 (by decide)
      first | omega | (simp only [bgE, bgL] at *; omega)
theorem smp_bg {R : Bs} {s : St} {R1 : Bs} (h : smp R = .ok (s, R1)) : bgS s + 3 * R1.length ≤ 3 * R.length := by
  have i1 := fun R t R1 => (rd_bg FU).1 1 R t R1 (Nat.le_refl _)
  have i5 := (rd_bg FU).2.2.2.2.1
  unfold smp at h
  split at h
  · obtain ⟨a, R2, h1, h2⟩ := thn_ok h
    obtain ⟨R3, h3, h4⟩ := thr_ok h2
    obtain ⟨b, R4, h5, h6⟩ := thn_ok h4
    injection h6 with h6; injection h6 with h6a h6; subst h6 h6a
    have := i5 _ _ _ h1
    have := need_lt h3 (by decide)
    have := i1 _ _ _ h5
    first | omega | ((try simp only [tr0] at *); (try simp only [bgS] at *); (try simp only [bgSL] at *); (try simp only [bgE] at *); (try simp only [bgL] at *); omega)
  · split at h
    · rename_i ht
      obtain ⟨R2, h1, h2⟩ := thr_ok h
      obtain ⟨a, R3, h3, h4⟩ := thn_ok h2
      injection h4 with h4; injection h4 with h4a h4; subst h4 h4a
      have := nxt_lt h1 (by rw [ht]; decide)
      have := i5 _ _ _ h3
      first | omega | ((try simp only [tr0] at *); (try simp only [bgS] at *); (try simp only [bgSL] at *); (try simp only [bgE] at *); (try simp only [bgL] at *); omega)
    · split at h
      · rename_i ht
        obtain ⟨R2, h1, h2⟩ := thr_ok h
        injection h2 with h2; injection h2 with h2a h2; subst h2 h2a
        have := nxt_lt h1 (by rw [ht]; decide)
        ((try simp only [tr0] at *); (try simp only [bgS] at *); (try simp only [bgSL] at *); (try simp only [bgE] at *); (try simp only [bgL] at *); omega)
      · split at h
        · rename_i ht
          obtain ⟨R2, h1, h2⟩ := thr_ok h
          obtain ⟨a, R3, h3, h4⟩ := thn_ok h2
          injection h4 with h4; injection h4 with h4a h4; subst h4 h4a
          have := nxt_lt h1 (by rw [ht]; decide)
          have := i1 _ _ _ h3
          first | omega | ((try simp only [tr0] at *); (try simp only [bgS] at *); (try simp only [bgSL] at *); (try simp only [bgE] at *); (try simp only [bgL] at *); omega)
        · split at h
          · rename_i ht
            obtain ⟨R2, h1, h2⟩ := thr_ok h
            obtain ⟨R3, h3, h4⟩ := thr_ok h2
            obtain ⟨a, R4, h5, h6⟩ := thn_ok h4
            injection h6 with h6; injection h6 with h6a h6; subst h6 h6a
            have := nxt_lt h1 (isNm_ne ht)
            have := need_lt h3 (by decide)
            have := i1 _ _ _ h5
            first | omega | ((try simp only [tr0] at *); (try simp only [bgS] at *); (try simp only [bgSL] at *); (try simp only [bgE] at *); (try simp only [bgL] at *); omega)
          · cases h
theorem rs_bg : ∀ d : Nat,
    (∀ en R t R1, sts d en R = .ok (t, R1) → bgSL t + 3 * R1.length ≤ 3 * R.length) ∧
    (∀ R t R1, stm d R = .ok (t, R1) → bgS t + 3 * R1.length ≤ 3 * R.length) ∧
    (∀ R t R1, brn d R = .ok (t, R1) → bgS t + 3 * R1.length ≤ 3 * R.length) ∧
    (∀ R t R1, oth d R = .ok (t, R1) → bgSL t + 3 * R1.length ≤ 3 * R.length) ∧
    (∀ R t R1, blk d R = .ok (t, R1) → bgSL t + 3 * R1.length ≤ 3 * R.length)
  | 0 => ⟨fun _ _ _ _ h => by simp [sts] at h, fun _ _ _ h => by simp [stm] at h, fun _ _ _ h => by simp [brn] at h, fun _ _ _ h => by simp [oth] at h, fun _ _ _ h => by simp [blk] at h⟩
  | d + 1 => by
    have i0 := fun R t R1 => (rd_bg FU).1 1 R t R1 (Nat.le_refl _)
    obtain ⟨i1, i2, i3, i4, i5⟩ := rs_bg d
    refine ⟨fun en R t R1 h => ?_, fun R t R1 h => ?_, fun R t R1 h => ?_, fun R t R1 h => ?_, fun R t R1 h => ?_⟩
    · rw [sts] at h
      split at h
      · injection h with h; injection h with ha h; subst h ha; simp only [bgSL]; omega
      · obtain ⟨a, R2, h1, h2⟩ := thn_ok h
        obtain ⟨b, R3, h3, h4⟩ := thn_ok h2
        injection h4 with h4; injection h4 with h4a h4; subst h4 h4a
        have := i2 _ _ _ h1
        have := i1 _ _ _ _ h3
        first | omega | ((try simp only [tr0] at *); (try simp only [bgS] at *); (try simp only [bgSL] at *); (try simp only [bgE] at *); (try simp only [bgL] at *); omega)
    · rw [stm] at h
      split at h
      · exact i3 _ _ _ h
      · split at h
        · rename_i ht
          obtain ⟨R2, h1, h2⟩ := thr_ok h
          obtain ⟨a, R3, h3, h4⟩ := thn_ok h2
          obtain ⟨l, R4, h5, h6⟩ := thn_ok h4
          injection h6 with h6; injection h6 with h6a h6; subst h6 h6a
          have := nxt_lt h1 (by rw [ht]; decide)
          have := i0 _ _ _ h3
          have := i5 _ _ _ h5
          first | omega | ((try simp only [tr0] at *); (try simp only [bgS] at *); (try simp only [bgSL] at *); (try simp only [bgE] at *); (try simp only [bgL] at *); omega)
        · obtain ⟨s, R2, h1, h2⟩ := thn_ok h
          obtain ⟨R3, h3, h4⟩ := thr_ok h2
          injection h4 with h4; injection h4 with h4a h4; subst h4 h4a
          have := smp_bg h1
          have := need_lt h3 (by decide)
          first | omega | ((try simp only [tr0] at *); (try simp only [bgS] at *); (try simp only [bgSL] at *); (try simp only [bgE] at *); (try simp only [bgL] at *); omega)
    · rw [brn] at h
      obtain ⟨R2, h1, h2⟩ := thr_ok h
      obtain ⟨a, R3, h3, h4⟩ := thn_ok h2
      obtain ⟨l, R4, h5, h6⟩ := thn_ok h4
      have := need_lt h1 (by decide)
      have := i0 _ _ _ h3
      have := i5 _ _ _ h5
      split at h6
      · rename_i ht
        obtain ⟨R5, h7, h8⟩ := thr_ok h6
        obtain ⟨m, R6, h9, h10⟩ := thn_ok h8
        injection h10 with h10; injection h10 with h10a h10; subst h10 h10a
        have := nxt_lt h7 (by rw [ht]; decide)
        have := i4 _ _ _ h9
        first | omega | ((try simp only [tr0] at *); (try simp only [bgS] at *); (try simp only [bgSL] at *); (try simp only [bgE] at *); (try simp only [bgL] at *); omega)
      · injection h6 with h6; injection h6 with h6a h6; subst h6 h6a
        first | omega | ((try simp only [tr0] at *); (try simp only [bgS] at *); (try simp only [bgSL] at *); (try simp only [bgE] at *); (try simp only [bgL] at *); omega)
    · rw [oth] at h
      split at h
      · obtain ⟨s, R2, h1, h2⟩ := thn_ok h
        injection h2 with h2; injection h2 with h2a h2; subst h2 h2a
        have := i3 _ _ _ h1
        ((try simp only [tr0] at *); (try simp only [bgS] at *); (try simp only [bgSL] at *); (try simp only [bgE] at *); (try simp only [bgL] at *); omega)
      · exact i5 _ _ _ h
    · rw [blk] at h
      obtain ⟨R2, h1, h2⟩ := thr_ok h
      obtain ⟨a, R3, h3, h4⟩ := thn_ok h2
      obtain ⟨R4, h5, h6⟩ := thr_ok h4
      injection h6 with h6; injection h6 with h6a h6; subst h6 h6a
      have := need_lt h1 (by decide)
      have := i1 _ _ _ _ h3
      have := need_lt h5 (by decide)
      first | omega | ((try simp only [tr0] at *); (try simp only [bgS] at *); (try simp only [bgSL] at *); (try simp only [bgE] at *); (try simp only [bgL] at *); omega)
end Go.Proofs.YtckjnjdmnhmgeaaGreatDoor
