import Derived.Test.YtehblpbefkopbaaDoorParseW
import Derived.Test.YtehblpbefkopbaaDoorXaS
namespace Go.Proofs.YtehblpbefkopbaaDoor
open Go.RowKit

theorem dgt (u : Nat) (h : u < 10) : (UInt8.ofNat (48 + u)).toNat = 48 + u := by
  rw [UInt8.toNat_ofNat']; omega
theorem dec_small {u : Nat} (h : u < 10) : Lib.decDigits u = [UInt8.ofNat (48 + u)] := by rw [Lib.decDigits, dif_pos h]
theorem dec_big {u : Nat} (h : ¬ u < 10) : Lib.decDigits u = Lib.decDigits (u / 10) ++ [UInt8.ofNat (48 + u % 10)] := by rw [Lib.decDigits, dif_neg h]
theorem dig_dgt (u : Nat) (h : u < 10) : digB (UInt8.ofNat (48 + u)) = true := (digB_iff _).2 (by rw [dgt u h]; omega)
theorem dec_all (n : Nat) : ∀ u, u ≤ n → (Lib.decDigits u).all digB = true ∧ natv 0 (Lib.decDigits u) = u ∧ Lib.decDigits u ≠ [] ∧ (0 < u → ∃ e r, Lib.decDigits u = e :: r ∧ 49 ≤ e.toNat) := by
  induction n with
  | zero =>
    intro u hu
    have h0 : u = 0 := by omega
    subst h0
    rw [dec_small (by decide)]
    refine ⟨by rw [List.all_cons, dig_dgt 0 (by decide)]; rfl, by rw [natv_cons, natv_nil, dgt 0 (by decide)], by simp, fun h => absurd h (by decide)⟩
  | succ n ih =>
    intro u hu
    by_cases h : u < 10
    · rw [dec_small h]
      refine ⟨by rw [List.all_cons, dig_dgt u h]; rfl, by rw [natv_cons, natv_nil, dgt u h]; omega, by simp, fun h0 => ⟨_, [], rfl, by rw [dgt u h]; omega⟩⟩
    · obtain ⟨i1, i2, i3, i4⟩ := ih (u / 10) (by omega)
      rw [dec_big h]
      refine ⟨by rw [List.all_append, i1, List.all_cons, dig_dgt _ (by omega)]; rfl, by rw [natv_snoc, i2, dgt _ (by omega)]; omega, by simp, fun _ => ?_⟩
      obtain ⟨e, r, he, h49⟩ := i4 (by omega)
      exact ⟨e, r ++ [UInt8.ofNat (48 + u % 10)], by rw [he]; rfl, h49⟩
theorem dec_digs (u : Nat) : (Lib.decDigits u).all digB = true := (dec_all u u (Nat.le_refl _)).1
theorem dec_natv (u : Nat) : natv 0 (Lib.decDigits u) = u := (dec_all u u (Nat.le_refl _)).2.1
theorem dec_head (u : Nat) (h : 0 < u) : ∃ e r, Lib.decDigits u = e :: r ∧ 49 ≤ e.toNat := (dec_all u u (Nat.le_refl _)).2.2.2 h
theorem ofNat_toNat48 (c : UInt8) (h : 48 ≤ c.toNat) : UInt8.ofNat (48 + (c.toNat - 48)) = c := by
  rw [show 48 + (c.toNat - 48) = c.toNat by omega]; exact UInt8.ofNat_toNat
/-- Digits without a leading 0 are the number's text. -/
theorem dec_back (n : Nat) : ∀ d : List UInt8, d.length ≤ n → d.all digB = true → (∃ e r, d = e :: r ∧ 49 ≤ e.toNat) → Lib.decDigits (natv 0 d) = d := by
  induction n with
  | zero => intro d hl _ hh; obtain ⟨e, r, rfl, _⟩ := hh; simp at hl
  | succ n ih =>
    intro d hl ha hh
    obtain ⟨e, r, rfl, h49⟩ := hh
    rcases List.eq_nil_or_concat r with rfl | ⟨r', c, rfl⟩
    · rw [List.all_cons, Bool.and_eq_true] at ha
      have he := (digB_iff e).1 ha.1
      rw [natv_cons, natv_nil, show 0 * 10 + (e.toNat - 48) = e.toNat - 48 by omega, dec_small (by omega), ofNat_toNat48 e (by omega)]
    · have e1 : e :: r'.concat c = (e :: r') ++ [c] := by simp
      rw [e1] at ha hl ⊢
      rw [List.all_append, Bool.and_eq_true] at ha
      have hc : digB c = true := by simpa using ha.2
      have hc := (digB_iff c).1 hc
      have ih1 := ih (e :: r') (by simp at hl ⊢; omega) ha.1 ⟨e, r', rfl, h49⟩
      have hge := natv_ge r' (0 * 10 + (e.toNat - 48))
      rw [← natv_cons] at hge
      have hp : 1 ≤ natv 0 (e :: r') := by
        refine Nat.le_trans ?_ hge
        have : 0 < 10 ^ r'.length := Nat.pow_pos (by decide)
        exact Nat.mul_pos (by omega) this
      rw [natv_snoc, dec_big (by omega), show (natv 0 (e :: r') * 10 + (c.toNat - 48)) / 10 = natv 0 (e :: r') by omega, ih1, show (natv 0 (e :: r') * 10 + (c.toNat - 48)) % 10 = c.toNat - 48 by omega, ofNat_toNat48 c (by omega)]
theorem dec_len (u : Nat) (h : u ≤ 9223372036854775808) : 1 ≤ (Lib.decDigits u).length ∧ (Lib.decDigits u).length ≤ 19 := by
  by_cases h0 : u = 0
  · subst h0; rw [dec_small (by decide)]; simp
  · obtain ⟨e, r, he, h49⟩ := dec_head u (by omega)
    have hn := dec_natv u
    rw [he] at hn ⊢
    have hge := natv_ge r (0 * 10 + (e.toNat - 48))
    rw [← natv_cons, hn] at hge
    have h1 : 1 * 10 ^ r.length ≤ u := Nat.le_trans (Nat.mul_le_mul_right _ (by omega)) hge
    rw [List.length_cons]
    refine ⟨by omega, ?_⟩
    by_cases k : r.length ≤ 18
    · omega
    · have : 10 ^ 19 ≤ 10 ^ r.length := Nat.pow_le_pow_right (by decide) (by omega)
      have e19 : (10 : Nat) ^ 19 = 10000000000000000000 := rfl
      omega

/-! A number's text. -/
theorem itoa_neg' {n : Int} (h : n < 0) : Lib.itoa n = 45 :: Lib.decDigits n.natAbs := by unfold Lib.itoa; rw [if_pos h]
theorem itoa_pos' {n : Int} (h : ¬ n < 0) : Lib.itoa n = Lib.decDigits n.natAbs := by unfold Lib.itoa; rw [if_neg h]; congr 1; omega
theorem form_dec_neg (u : Nat) (h : 0 < u) : numForm (45 :: Lib.decDigits u) = true := by
  obtain ⟨e, r, he, h49⟩ := dec_head u h
  have hd := dec_digs u
  rw [he] at hd ⊢
  rw [numForm_cons, if_pos (by decide)]
  simp only
  rw [if_neg (by omega)]; exact hd
theorem form_dec (u : Nat) : numForm (Lib.decDigits u) = true ∧ neg? (Lib.decDigits u) = false ∧ digs (Lib.decDigits u) = Lib.decDigits u := by
  by_cases h : 0 < u
  · obtain ⟨e, r, he, h49⟩ := dec_head u h
    have hd := dec_digs u
    rw [he] at hd ⊢
    have h5 := hd
    rw [List.all_cons, Bool.and_eq_true] at h5
    have h6 := (digB_iff e).1 h5.1
    refine ⟨?_, ?_, ?_⟩
    · rw [numForm_cons, if_neg (by omega), if_neg (by omega)]; exact hd
    · show decide (e.toNat = 45) = false
      simp; omega
    · show (if e.toNat = 45 then r else e :: r) = e :: r
      rw [if_neg (by omega)]
  · have h0 : u = 0 := by omega
    subst h0
    rw [dec_small (by decide)]
    exact ⟨by decide, by decide, by decide⟩
theorem round_to (n : Int) (h : In64 n) : prsV (Lib.itoa n) = n ∧ prsE (Lib.itoa n) = 0 ∧ 1 ≤ (Lib.itoa n).length ∧ (Lib.itoa n).length ≤ 20 := by
  unfold In64 at h
  by_cases hn : n < 0
  · rw [itoa_neg' hn]
    have hl := dec_len n.natAbs (by omega)
    have hf := form_dec_neg n.natAbs (by omega)
    have hg : neg? (45 :: Lib.decDigits n.natAbs) = true := by show decide ((45 : UInt8).toNat = 45) = true; decide
    have hd : digs (45 :: Lib.decDigits n.natAbs) = Lib.decDigits n.natAbs := by
      show (if (45 : UInt8).toNat = 45 then Lib.decDigits n.natAbs else 45 :: Lib.decDigits n.natAbs) = _; rw [if_pos (by decide)]
    have hv := dec_natv n.natAbs
    refine ⟨?_, ?_, by rw [List.length_cons]; omega, by rw [List.length_cons]; omega⟩
    · unfold prsV lim
      rw [hf, hg, hd, hv, if_pos ⟨rfl, by simp; omega⟩]
      simp; omega
    · unfold prsE lim
      rw [hf, hg, hd, hv, if_pos rfl, if_pos (by simp; omega)]
  · rw [itoa_pos' hn]
    have hl := dec_len n.natAbs (by omega)
    obtain ⟨hf, hg, hd⟩ := form_dec n.natAbs
    have hv := dec_natv n.natAbs
    refine ⟨?_, ?_, hl.1, by omega⟩
    · unfold prsV lim
      rw [hf, hg, hd, hv, if_pos ⟨rfl, by simp; omega⟩]
      simp; omega
    · unfold prsE lim
      rw [hf, hg, hd, hv, if_pos rfl, if_pos (by simp; omega)]
theorem round_from {l : List UInt8} (h : prsE l = 0) : Lib.itoa (prsV l) = l ∧ In64 (prsV l) := by
  unfold prsE at h
  by_cases hf : numForm l = true
  · rw [if_pos hf] at h
    by_cases hl : natv 0 (digs l) ≤ lim l
    · obtain ⟨h1, h2, h3, h4⟩ := form_digs hf
      have hV : prsV l = if neg? l then -((natv 0 (digs l) : Nat) : Int) else ((natv 0 (digs l) : Nat) : Int) := by unfold prsV; rw [if_pos ⟨hf, hl⟩]
      have hL : lim l = if neg? l then 9223372036854775808 else 9223372036854775807 := rfl
      rw [hV]
      have back : ∀ e r, digs l = e :: r → 49 ≤ e.toNat → Lib.decDigits (natv 0 (digs l)) = digs l ∧ 0 < natv 0 (digs l) := by
        intro e r he h49
        refine ⟨dec_back _ _ (Nat.le_refl _) h1 ⟨e, r, he, h49⟩, ?_⟩
        rw [he]
        have hge := natv_ge r (0 * 10 + (e.toNat - 48))
        rw [← natv_cons] at hge
        have : 0 < 10 ^ r.length := Nat.pow_pos (by decide)
        exact Nat.lt_of_lt_of_le (Nat.mul_pos (by omega) this) hge
      cases hn : neg? l
      · rw [hn] at hL
        simp only [Bool.false_eq_true, if_false] at hL ⊢
        have hd : digs l = l := by
          cases l with
          | nil => rfl
          | cons c r =>
            have : decide (c.toNat = 45) = false := hn
            show (if c.toNat = 45 then r else c :: r) = c :: r
            rw [if_neg (by simpa using this)]
        refine ⟨?_, by unfold In64; omega⟩
        rw [itoa_pos' (by omega), Int.natAbs_natCast]
        rcases h3 with h3 | ⟨e, r, he, h49⟩
        · rw [h3, natv_cons, natv_nil, ← hd, h3]
          exact dec_small (by decide)
        · rw [(back e r he h49).1, hd]
      · rw [hn] at hL
        simp only [if_true] at hL ⊢
        obtain ⟨e, r, he, h49⟩ := h4 hn
        obtain ⟨b1, b2⟩ := back e r he h49
        refine ⟨?_, by unfold In64; omega⟩
        rw [itoa_neg' (by omega), Int.natAbs_neg, Int.natAbs_natCast, b1]
        cases l with
        | nil => cases hn
        | cons c r =>
          have hc : c.toNat = 45 := of_decide_eq_true hn
          have hcc : c = 45 := UInt8.toNat_inj.1 hc
          show (45 : UInt8) :: (if c.toNat = 45 then r else c :: r) = c :: r
          rw [if_pos hc, hcc]
    · rw [if_neg hl] at h; cases h
  · rw [if_neg hf] at h; cases h
theorem round_else {l : List UInt8} (h : prsE l ≠ 0) : prsV l = 0 ∧ (prsE l = 12 ∨ prsE l = 13) := by
  by_cases hf : numForm l = true
  · by_cases hl : natv 0 (digs l) ≤ lim l
    · exact absurd (prs_ok hf hl) h
    · obtain ⟨a, b⟩ := prs_range hf hl
      exact ⟨a, .inr b⟩
  · obtain ⟨a, b⟩ := prs_bad (by simpa using hf)
    exact ⟨a, .inl b⟩
theorem one_minus {n : Int} (h : n < 0) : prsV (49 :: Lib.itoa n) = 0 ∧ prsE (49 :: Lib.itoa n) = 12 := by
  refine prs_bad ?_
  rw [itoa_neg' h, numForm_cons, if_neg (by decide), if_neg (by decide)]
  rfl
/-! What a tree's text reads as: expressions, without memory. -/
/-- How strongly an expression holds together. -/
def stE : Tr → Nat
  | .mk k _ w _ => if k = 5 ∨ k = 6 then 6 else if k = 7 then (bnd w).1 else 7
/-- What a reading takes it for. -/
def sgE : Tr → Nat
  | .mk k _ w _ => if k = 7 ∧ (bnd w).2 ≠ 8 then (bnd w).1 else 7
def brk (c : Bool) (t : Bs) : Bs := if c then 40 :: (t ++ [41]) else t
/-- An expression's text. -/
def pE : Tr → Bs
  | .mk k n w [] => if k = 1 then Lib.itoa n else w
  | .mk k _ _ [a] => if k = 3 then 91 :: (pE a ++ [93]) else if k = 4 then kTake ++ (32 :: 91 :: (pE a ++ [93])) else (if k = 5 then 45 else 33) :: brk (decide (stE a < 6)) (pE a)
  | .mk _ _ w (a :: b :: _) => if (bnd w).2 = 8 then w ++ (40 :: (pE a ++ (44 :: 32 :: (pE b ++ [41])))) else brk (decide (stE a < (bnd w).2)) (pE a) ++ (32 :: (w ++ (32 :: brk (decide (stE b < (bnd w).1 + 1)) (pE b))))
inductive WfE : Tr → Prop
  | num {n : Int} : 0 ≤ n → In64 n → WfE (.mk 1 n [] [])
  | name {w : Bs} : isNm w = true → WfE (.mk 2 0 w [])
  | obj {a : Tr} : WfE a → WfE (.mk 3 0 [] [a])
  | tak {a : Tr} : WfE a → WfE (.mk 4 0 [] [a])
  | neg {a : Tr} : WfE a → WfE (.mk 5 0 [] [a])
  | not {a : Tr} : WfE a → WfE (.mk 6 0 [] [a])
  | bin {w : Bs} {a b : Tr} : 0 < (bnd w).1 → WfE a → WfE b → WfE (.mk 7 0 w [a, b])
/-- What stands behind a word or a number is none of it. -/
def Sep (Y : Bs) : Prop := ∀ b r, Y = b :: r → isLD b = false
/-- What stands there begins with a token, or nothing does. -/
def gd (Y : Bs) : Prop := badB (spk false Y) = false
theorem tw_sep (p : UInt8 → Bool) {w Y : Bs} (hw : w.all p = true) (hY : ∀ b r, Y = b :: r → p b = false) : (w ++ Y).takeWhile p = w := by
  induction w with
  | nil =>
    cases Y with
    | nil => rfl
    | cons b r => rw [List.nil_append, List.takeWhile_cons, hY b r rfl]; rfl
  | cons a w ih =>
    rw [List.all_cons, Bool.and_eq_true] at hw
    rw [List.cons_append, List.takeWhile_cons, if_pos hw.1, ih hw.2]
/-- The words: of at most 16 letters and digits, a letter ahead. -/
def isWd (w : Bs) : Prop := ∃ b r, w = b :: r ∧ isL b = true ∧ w.all isLD = true ∧ w.length ≤ 16
theorem all_tw {p : UInt8 → Bool} : ∀ {l : Bs}, l.takeWhile p = l → l.all p = true
  | [], _ => rfl
  | b :: r, h => by
    rw [List.takeWhile_cons] at h
    split at h
    · rename_i hb
      injection h with _ h
      rw [List.all_cons, hb, all_tw h]; rfl
    · cases h
theorem nm_wd {w : Bs} (h : isNm w = true) : isWd w ∧ kpt.contains w = false := by
  cases w with
  | nil => cases h
  | cons b r =>
    unfold isNm at h
    simp only [Bool.and_eq_true, Bool.not_eq_true'] at h
    obtain ⟨⟨h1, h2⟩, h3⟩ := h
    have h2 : fwd (b :: r) = b :: r := by simpa using h2
    refine ⟨⟨b, r, rfl, h1, ?_, ?_⟩, h3⟩
    · unfold fwd at h2
      split at h2
      · cases h2
      · exact all_tw h2
    · unfold fwd at h2
      split at h2
      · cases h2
      · rename_i h16
        rw [h2] at h16; omega
theorem tok_wd {w Y : Bs} (h : isWd w) (hY : Sep Y) : tok (w ++ Y) = w := by
  obtain ⟨b, r, rfl, h1, h2, h3⟩ := h
  have e : (b :: r ++ Y).takeWhile isLD = b :: r := tw_sep isLD h2 hY
  show tok (b :: (r ++ Y)) = _
  rw [tok, if_pos h1]
  unfold fwd
  rw [← List.cons_append, e, if_neg (by omega)]
theorem kw_wd : ∀ w ∈ kpt, isWd w := by
  intro w hw
  simp only [kpt, List.mem_cons, List.not_mem_nil, or_false] at hw
  rcases hw with rfl | rfl | rfl | rfl | rfl | rfl | rfl | rfl | rfl <;> exact ⟨_, _, rfl, by decide, by decide, by decide⟩
theorem itoa_dg {n : Int} (h0 : 0 ≤ n) (h : In64 n) : (Lib.itoa n).all digB = true ∧ Lib.itoa n ≠ [] ∧ (Lib.itoa n).length ≤ 19 := by
  have e := itoa_pos' (n := n) (by omega)
  have hu : n.natAbs ≤ 9223372036854775808 := by unfold In64 at h; omega
  rw [e]
  have := dec_len n.natAbs hu
  exact ⟨dec_digs _, fun e => by rw [e] at this; simp at this, this.2⟩
theorem dig_nl {b : UInt8} (h : digB b = true) : isL b = false := by
  unfold digB at h
  unfold isL
  simp only [Bool.and_eq_true, decide_eq_true_eq] at h
  have : ¬ 97 ≤ b.toNat := by omega
  rw [decide_eq_false this]; rfl
theorem tok_num {n : Int} (h0 : 0 ≤ n) (h : In64 n) {Y : Bs} (hY : Sep Y) : tok (Lib.itoa n ++ Y) = Lib.itoa n := by
  obtain ⟨h1, h2, h3⟩ := itoa_dg h0 h
  have hr := round_to n h
  generalize Lib.itoa n = L at *
  cases L with
  | nil => exact absurd rfl h2
  | cons b r =>
    have hb : digB b = true := by rw [List.all_cons, Bool.and_eq_true] at h1; exact h1.1
    have e : (b :: r ++ Y).takeWhile digB = b :: r := tw_sep digB h1 (fun b r e => by
      have := hY b r e
      unfold isLD at this
      rw [Bool.or_eq_false_iff] at this
      exact this.2)
    show tok (b :: (r ++ Y)) = _
    rw [tok, if_neg (by rw [dig_nl hb]; decide), if_pos hb]
    unfold fnm
    rw [← List.cons_append, e, if_pos hr.2.1]
theorem bnd_cases {w : Bs} (h : 0 < (bnd w).1) : ∃ x ∈ bnds, x.1 = w ∧ bnd w = x.2 := by
  have : ∀ L : List (Bs × Nat × Nat), 0 < (bndL L w).1 → ∃ x ∈ L, x.1 = w ∧ bndL L w = x.2 := by
    intro L
    induction L with
    | nil => intro h; cases h
    | cons x r ih =>
      intro h
      unfold bndL at h ⊢
      by_cases hx : x.1 = w
      · rw [if_pos hx]
        exact ⟨x, List.mem_cons_self, hx, rfl⟩
      · rw [if_neg hx] at h ⊢
        obtain ⟨y, h1, h2⟩ := ih h
        exact ⟨y, List.mem_cons_of_mem _ h1, h2⟩
  exact this bnds h
/-- The operators: their strengths, and how they stand as tokens. -/
theorem op_facts {w : Bs} (h : 0 < (bnd w).1) (h8 : (bnd w).2 ≠ 8) : 1 ≤ (bnd w).1 ∧ (bnd w).1 ≤ (bnd w).2 ∧ (bnd w).2 ≤ 5 ∧ (bnd w).1 ≤ 5 ∧ w.length ≤ 2 ∧ w ≠ [] ∧ (∀ Y, tok (w ++ 32 :: Y) = w) ∧ ∀ Y, spk false (w ++ 32 :: Y) = w ++ 32 :: Y := by
  obtain ⟨x, hx, rfl, e⟩ := bnd_cases h
  rw [e] at h8 ⊢
  clear e h
  simp only [bnds, List.mem_cons, List.not_mem_nil, or_false] at hx
  rcases hx with rfl | rfl | rfl | rfl | rfl | rfl | rfl | rfl | rfl | rfl | rfl | rfl | rfl | rfl | rfl | rfl | rfl | rfl | rfl | rfl
  all_goals first | exact absurd rfl h8 | exact ⟨by decide, by decide, by decide, by decide, by decide, by decide, fun _ => rfl, fun _ => rfl⟩
theorem pair_facts {w : Bs} (h : 0 < (bnd w).1) (h8 : (bnd w).2 = 8) : (w = kMin ∨ w = kMax) ∧ (bnd w).1 = 7 := by
  obtain ⟨x, hx, rfl, e⟩ := bnd_cases h
  rw [e] at h8 ⊢
  clear e h
  simp only [bnds, List.mem_cons, List.not_mem_nil, or_false] at hx
  rcases hx with rfl | rfl | rfl | rfl | rfl | rfl | rfl | rfl | rfl | rfl | rfl | rfl | rfl | rfl | rfl | rfl | rfl | rfl | rfl | rfl
  all_goals first | (exfalso; revert h8; decide) | exact ⟨by decide, rfl⟩
theorem adv_of {tk Y : Bs} (h : tok (tk ++ Y) = tk) : adv (tk ++ Y) = spk false Y := by
  unfold adv
  rw [h, List.drop_left]
theorem nx {tk Y : Bs} (h : tok (tk ++ Y) = tk) (g : gd Y) : nxt (tk ++ Y) = .ok (spk false Y) := by
  unfold nxt
  rw [adv_of h, if_neg (by rw [show badB (spk false Y) = false from g]; decide)]
theorem nd {tk Y : Bs} (h : tok (tk ++ Y) = tk) (g : gd Y) : need tk (tk ++ Y) = .ok (spk false Y) := by
  unfold need
  rw [if_pos h, nx h g]
/-- A text that begins with a token. -/
structure Hd (X : Bs) : Prop where
  s : spk false X = X
  t : tok X ≠ []
  n : ∀ r, X ≠ 61 :: r
theorem Hd.gd {X : Bs} (h : Hd X) : gd X := by
  unfold Go.Proofs.YtehblpbefkopbaaDoor.gd badB
  rw [h.s]
  cases hx : tok X with
  | nil => exact absurd hx h.t
  | cons b r => rfl
theorem hd_wd {w Y : Bs} (h : isWd w) (hY : Sep Y) : Hd (w ++ Y) := by
  have ht := tok_wd h hY
  obtain ⟨b, r, rfl, h1, h2, h3⟩ := h
  have hb : 97 ≤ b.toNat ∧ b.toNat ≤ 122 := by
    unfold isL at h1
    simpa using h1
  refine ⟨?_, by rw [ht]; simp, fun r' e => ?_⟩
  · show spk false (b :: (r ++ Y)) = _
    rw [spk, if_neg, if_neg]
    · rfl
    · intro e; rw [e] at hb; revert hb; decide
    · intro e
      rcases e with e | e | e <;> (rw [e] at hb; revert hb; decide)
  · injection e with e _
    rw [e] at hb; revert hb; decide
theorem hd_num {n : Int} (h0 : 0 ≤ n) (h : In64 n) {Y : Bs} (hY : Sep Y) : Hd (Lib.itoa n ++ Y) := by
  have ht := tok_num h0 h hY
  obtain ⟨h1, h2, h3⟩ := itoa_dg h0 h
  generalize Lib.itoa n = L at *
  cases L with
  | nil => exact absurd rfl h2
  | cons b r =>
    have hb : digB b = true := by rw [List.all_cons, Bool.and_eq_true] at h1; exact h1.1
    have hb : 48 ≤ b.toNat ∧ b.toNat ≤ 57 := by
      unfold digB at hb
      simpa using hb
    refine ⟨?_, by rw [ht]; simp, fun r' e => ?_⟩
    · show spk false (b :: (r ++ Y)) = _
      rw [spk, if_neg, if_neg]
      · rfl
      · intro e; rw [e] at hb; revert hb; decide
      · intro e
        rcases e with e | e | e <;> (rw [e] at hb; revert hb; decide)
    · injection e with e _
      rw [e] at hb; revert hb; decide
theorem hd_91 (Y : Bs) : Hd (91 :: Y) := ⟨rfl, by rw [show tok (91 :: Y) = [91] from rfl]; simp, fun r e => by injection e with e _; revert e; decide⟩
theorem hd_40 (Y : Bs) : Hd (40 :: Y) := ⟨rfl, by rw [show tok (40 :: Y) = [40] from rfl]; simp, fun r e => by injection e with e _; revert e; decide⟩
theorem hd_45 (Y : Bs) : Hd (45 :: Y) := ⟨rfl, by rw [show tok (45 :: Y) = [45] from rfl]; simp, fun r e => by injection e with e _; revert e; decide⟩
theorem tok_33 {Y : Bs} (h : ∀ r, Y ≠ 61 :: r) : tok (33 :: Y) = [33] := by
  cases Y with
  | nil => rfl
  | cons b r =>
    have hb : (61 == b) = false := by rw [beq_eq_false_iff_ne]; intro e; exact h r (by rw [e])
    rw [show tok (33 :: b :: r) = fsgL sgs (33 :: b :: r) from rfl]
    have e : List.isPrefixOf [33, 61] (33 :: b :: r) = false := by simp [List.isPrefixOf, hb]
    show (if List.isPrefixOf [33, 61] (33 :: b :: r) = true then _ else _) = _
    rw [e]; rfl
theorem hd_33 {Y : Bs} (h : ∀ r, Y ≠ 61 :: r) : Hd (33 :: Y) := ⟨rfl, by rw [tok_33 h]; simp, fun r e => by injection e with e _; revert e; decide⟩
theorem pE_pos {e : Tr} (h : WfE e) : (6 ≤ stE e ∧ stE e ≤ 7 ∧ sgE e = 7) ∨ (1 ≤ stE e ∧ stE e ≤ 5 ∧ sgE e = stE e) := by
  cases h with
  | num _ _ => exact .inl ⟨by simp [stE], by simp [stE], rfl⟩
  | name _ => exact .inl ⟨by simp [stE], by simp [stE], rfl⟩
  | obj _ => exact .inl ⟨by simp [stE], by simp [stE], rfl⟩
  | tak _ => exact .inl ⟨by simp [stE], by simp [stE], rfl⟩
  | neg _ => exact .inl ⟨by simp [stE], by simp [stE], rfl⟩
  | not _ => exact .inl ⟨by simp [stE], by simp [stE], rfl⟩
  | @bin w a b hb _ _ =>
    have e1 : stE (.mk 7 0 w [a, b]) = (bnd w).1 := rfl
    by_cases h8 : (bnd w).2 = 8
    · have := (pair_facts hb h8).2
      refine .inl ⟨by rw [e1]; omega, by rw [e1]; omega, ?_⟩
      show (if (7 : Int) = 7 ∧ (bnd w).2 ≠ 8 then (bnd w).1 else 7) = 7
      rw [if_neg (fun h => h.2 h8)]
    · have := op_facts hb h8
      refine .inr ⟨this.1, this.2.2.2.1, ?_⟩
      show (if (7 : Int) = 7 ∧ (bnd w).2 ≠ 8 then (bnd w).1 else 7) = (bnd w).1
      rw [if_pos ⟨rfl, h8⟩]
theorem sep_b {b : UInt8} (h : isLD b = false) (Y : Bs) : Sep (b :: Y) := fun c r e => by injection e with e _; rw [← e]; exact h
theorem hd_brk {c : Bool} {t Y : Bs} (h : Hd (t ++ Y)) : Hd (brk c t ++ Y) := by
  unfold brk
  cases c with
  | true => exact hd_40 _
  | false => exact h
theorem hd_pE {e : Tr} (h : WfE e) : ∀ Y, Sep Y → Hd (pE e ++ Y) := by
  induction h with
  | num h0 h => intro Y hY; rw [pE, if_pos rfl]; exact hd_num h0 h hY
  | name h => intro Y hY; rw [pE, if_neg (by decide)]; exact hd_wd (nm_wd h).1 hY
  | obj _ _ => intro Y hY; rw [pE, if_pos rfl]; exact hd_91 _
  | tak _ _ => intro Y hY; rw [pE, if_neg (by decide), if_pos rfl, List.append_assoc]; exact hd_wd (kw_wd _ (by decide)) (sep_b (by decide) _)
  | neg _ _ => intro Y hY; rw [pE, if_neg (by decide), if_neg (by decide), if_pos rfl]; exact hd_45 _
  | @not a _ ih =>
    intro Y hY
    rw [pE, if_neg (by decide), if_neg (by decide), if_neg (by decide), List.cons_append]
    exact hd_33 (hd_brk (ih Y hY)).n
  | @bin w a b hb _ _ iha ihb =>
    intro Y hY
    rw [pE]
    split
    · rename_i h8
      have hw := (pair_facts hb h8).1
      rw [List.append_assoc]
      exact hd_wd (kw_wd _ (by rcases hw with rfl | rfl <;> decide)) (sep_b (by decide) _)
    · rw [List.append_assoc]
      exact hd_brk (iha _ (sep_b (by decide) _))
theorem lp_stop {d : Nat} {left : Tr} {str least : Nat} {R : Bs} (h : (bnd (tok R)).1 < least) (hd : 1 ≤ d) : lp d left str least R = .ok (left, R) := by
  obtain ⟨d, rfl⟩ : ∃ q, d = q + 1 := ⟨d - 1, by omega⟩
  rw [lp, if_pos (.inl h)]
theorem lp_go {d : Nat} {left : Tr} {str least : Nat} {w R : Bs} (ht : tok R = w) (h1 : least ≤ (bnd w).1) (h2 : (bnd w).2 ≤ str) : lp (d + 1) left str least R = thr (nxt R) fun R1 => thn (ex d ((bnd w).1 + 1) R1) fun t R2 => lp d (.mk 7 0 w [left, t]) (bnd w).1 least R2 := by
  rw [lp, ht, if_neg (by omega)]
def OKO (e : Tr) : Prop := sgE e = 7 → ∀ Y, Sep Y → gd Y → ∀ d, 16 * bgE e ≤ d + 2 → opd d (pE e ++ Y) = .ok (e, spk false Y)
def OKX (e : Tr) : Prop := ∀ least, least ≤ stE e → ∀ Y, Sep Y → gd Y → (bnd (tok (spk false Y))).1 ≤ stE e → ∀ (res : Except Bs (Tr × Bs)) D0, (∀ d, D0 ≤ d → lp d e (sgE e) least (spk false Y) = res) → ∀ d, D0 + 16 * bgE e ≤ d → ex d least (pE e ++ Y) = res
theorem x_of_o {e : Tr} (h : OKO e) (h7 : sgE e = 7) : OKX e := by
  intro least _ Y hY hg _ res D0 hres d hd
  have hp := bgE_pos e
  obtain ⟨d, rfl⟩ : ∃ q, d = q + 1 := ⟨d - 1, by omega⟩
  rw [ex, h h7 Y hY hg d (by omega)]
  show lp d e 7 least (spk false Y) = res
  rw [← h7]
  exact hres d (by omega)
theorem gd_93 (Y : Bs) : gd (93 :: Y) := rfl
theorem gd_41 (Y : Bs) : gd (41 :: Y) := rfl
theorem gd_44 (Y : Bs) : gd (44 :: Y) := rfl
theorem gd_32 {Y : Bs} (h : gd Y) : gd (32 :: Y) := h
/-- What stands in brackets is read to its closing sign. -/
theorem in_br {a : Tr} (ha : WfE a) (hX : OKX a) {c : UInt8} (hc : isLD c = false) (hs : ∀ Y, spk false (c :: Y) = c :: Y) (hb : ∀ Y, (bnd (tok (c :: Y))).1 = 0) (hgd : ∀ Y, gd (c :: Y)) (Y : Bs) (d : Nat) (hd : 16 * bgE a + 1 ≤ d) : ex d 1 (pE a ++ c :: Y) = .ok (a, c :: Y) := by
  have hp := pE_pos ha
  refine hX 1 (by omega) (c :: Y) (sep_b hc Y) (hgd Y) (by rw [hs, hb]; omega) _ 1 (fun d hd => ?_) d (by omega)
  rw [hs]
  exact lp_stop (by rw [hb]; decide) hd
theorem in_41 {a : Tr} (ha : WfE a) (hX : OKX a) (Y : Bs) (d : Nat) (hd : 16 * bgE a + 1 ≤ d) : ex d 1 (pE a ++ 41 :: Y) = .ok (a, 41 :: Y) := in_br ha hX (by decide) (fun _ => rfl) (fun _ => rfl) gd_41 Y d hd
theorem in_44 {a : Tr} (ha : WfE a) (hX : OKX a) (Y : Bs) (d : Nat) (hd : 16 * bgE a + 1 ≤ d) : ex d 1 (pE a ++ 44 :: Y) = .ok (a, 44 :: Y) := in_br ha hX (by decide) (fun _ => rfl) (fun _ => rfl) gd_44 Y d hd
theorem in_93 {a : Tr} (ha : WfE a) (hX : OKX a) (Y : Bs) (d : Nat) (hd : 16 * bgE a + 1 ≤ d) : ex d 1 (pE a ++ 93 :: Y) = .ok (a, 93 :: Y) := in_br ha hX (by decide) (fun _ => rfl) (fun _ => rfl) gd_93 Y d hd
theorem nx1 {c : UInt8} {Y : Bs} (h : tok (c :: Y) = [c]) (g : gd Y) : nxt (c :: Y) = .ok (spk false Y) := nx (tk := [c]) h g
theorem nd1 {c : UInt8} {Y : Bs} (h : tok (c :: Y) = [c]) (g : gd Y) : need [c] (c :: Y) = .ok (spk false Y) := nd (tk := [c]) h g
theorem bk {a : Tr} (ha : WfE a) (hX : OKX a) (Y : Bs) (hg : gd Y) (d : Nat) (hd : 16 * bgE a + 3 ≤ d) : opd d (brk true (pE a) ++ Y) = .ok (a, spk false Y) := by
  obtain ⟨d, rfl⟩ : ∃ q, d = q + 2 := ⟨d - 2, by omega⟩
  have e : brk true (pE a) ++ Y = 40 :: (pE a ++ 41 :: Y) := by
    show (40 :: (pE a ++ [41])) ++ Y = _
    simp
  have hh := hd_pE ha (41 :: Y) (sep_b (by decide) Y)
  rw [e, opd, show tok (40 :: (pE a ++ 41 :: Y)) = [40] from rfl, if_neg (by decide), if_neg (by decide), lst, show tok (40 :: (pE a ++ 41 :: Y)) = [40] from rfl, if_neg (by decide), if_neg (by decide), if_neg (by decide), if_pos rfl, nx1 rfl hh.gd, hh.s]
  show thn (ex d 1 (pE a ++ 41 :: Y)) _ = _
  rw [in_41 ha hX Y d (by omega)]
  show thr (need [41] (41 :: Y)) _ = _
  rw [nd1 rfl hg]
  rfl
theorem rop {b : Tr} (hb : WfE b) (hX : OKX b) {lv : Nat} (Y : Bs) (hY : Sep Y) (hg : gd Y) (hs : (bnd (tok (spk false Y))).1 < lv) (d : Nat) (hd : 16 * bgE b + 5 ≤ d) : ex d lv (brk (decide (stE b < lv)) (pE b) ++ Y) = .ok (b, spk false Y) := by
  by_cases c : stE b < lv
  · rw [decide_eq_true c]
    obtain ⟨d, rfl⟩ : ∃ q, d = q + 1 := ⟨d - 1, by omega⟩
    rw [ex, bk hb hX Y hg d (by omega)]
    exact lp_stop hs (by omega)
  · rw [decide_eq_false c]
    exact hX lv (by omega) Y hY hg (by omega) _ 1 (fun d hd => lp_stop hs hd) d (by omega)
theorem lop {a : Tr} (ha : WfE a) (hX : OKX a) {lf least : Nat} (hl : least ≤ lf) (h5 : lf ≤ 5) (Y : Bs) (hk : (bnd (tok (spk false Y))).1 ≤ lf) (hY : Sep Y) (hg : gd Y) (res : Except Bs (Tr × Bs)) (D1 : Nat) (hres : ∀ s, lf ≤ s → ∀ d, D1 ≤ d → lp d a s least (spk false Y) = res) (d : Nat) (hd : D1 + 16 * bgE a + 5 ≤ d) : ex d least (brk (decide (stE a < lf)) (pE a) ++ Y) = res := by
  by_cases c : stE a < lf
  · rw [decide_eq_true c]
    obtain ⟨d, rfl⟩ : ∃ q, d = q + 1 := ⟨d - 1, by omega⟩
    rw [ex, bk ha hX Y hg d (by omega)]
    exact hres 7 (by omega) d (by omega)
  · rw [decide_eq_false c]
    have := pE_pos ha
    exact hX least (by omega) Y hY hg (by omega) _ D1 (hres _ (by omega)) d (by omega)
theorem uop {a : Tr} (ha : WfE a) (hO : OKO a) (hX : OKX a) (Y : Bs) (hY : Sep Y) (hg : gd Y) (d : Nat) (hd : 16 * bgE a + 3 ≤ d) : opd d (brk (decide (stE a < 6)) (pE a) ++ Y) = .ok (a, spk false Y) := by
  by_cases c : stE a < 6
  · rw [decide_eq_true c]
    exact bk ha hX Y hg d hd
  · rw [decide_eq_false c]
    have := pE_pos ha
    exact hO (by omega) Y hY hg d (by omega)
theorem o_num {n : Int} (h0 : 0 ≤ n) (h : In64 n) : OKO (.mk 1 n [] []) := by
  intro _ Y hY hg d hd
  have hd : 6 ≤ d := by unfold bgE bgL at hd; omega
  obtain ⟨d, rfl⟩ : ∃ q, d = q + 2 := ⟨d - 2, by omega⟩
  rw [pE, if_pos rfl]
  have ht := tok_num h0 h hY
  have hn := nx ht hg
  obtain ⟨h1, h2, h3⟩ := itoa_dg h0 h
  have hr := round_to n h
  generalize Lib.itoa n = L at *
  have hne : ∀ x : Bs, x.all digB = false → L ≠ x := fun x hx e => by rw [e, hx] at h1; cases h1
  have hnm : ¬ isNm L = true := by
    cases L with
    | nil => exact absurd rfl h2
    | cons b r =>
      have hb : digB b = true := by rw [List.all_cons, Bool.and_eq_true] at h1; exact h1.1
      show ¬ (isL b && fwd (b :: r) == b :: r && !kpt.contains (b :: r)) = true
      rw [dig_nl hb]
      simp
  rw [opd, ht, if_neg (hne _ (by decide)), if_neg (hne _ (by decide)), lst, ht, if_neg (hne _ (by decide)), if_neg (hne _ (by decide)), if_neg (by rintro (e | e); exact hne _ (by decide) e; exact hne _ (by decide) e), if_neg (hne _ (by decide)), if_neg hnm]
  unfold num
  rw [ht, if_pos hr.2.1, hn, hr.1]
  rfl
theorem o_name {w : Bs} (h : isNm w = true) : OKO (.mk 2 0 w []) := by
  intro _ Y hY hg d hd
  have hd : 6 ≤ d := by unfold bgE bgL at hd; omega
  obtain ⟨d, rfl⟩ : ∃ q, d = q + 2 := ⟨d - 2, by omega⟩
  rw [pE, if_neg (by decide)]
  have ht := tok_wd (nm_wd h).1 hY
  have hne : ∀ x : Bs, isNm x = false → w ≠ x := fun x hx e => by rw [e, hx] at h; cases h
  rw [opd, ht, if_neg (hne _ (by decide)), if_neg (hne _ (by decide)), lst, ht, if_neg (hne _ (by decide)), if_neg (hne _ (by decide)), if_neg (by rintro (e | e); exact hne _ (by decide) e; exact hne _ (by decide) e), if_neg (hne _ (by decide)), if_pos h, nx ht hg]
  rfl
/-- An object's number. -/
theorem ob {a : Tr} (ha : WfE a) (hX : OKX a) (Y : Bs) (hg : gd Y) (d : Nat) (hd : 16 * bgE a + 2 ≤ d) : obj d (91 :: (pE a ++ 93 :: Y)) = .ok (a, spk false Y) := by
  obtain ⟨d, rfl⟩ : ∃ q, d = q + 1 := ⟨d - 1, by omega⟩
  have hh := hd_pE ha (93 :: Y) (sep_b (by decide) Y)
  rw [obj, nd1 rfl hh.gd, hh.s]
  show thn (ex d 1 (pE a ++ 93 :: Y)) _ = _
  rw [in_93 ha hX Y d (by omega)]
  show thr (need [93] (93 :: Y)) _ = _
  rw [nd1 rfl hg]
  rfl
theorem bg_one (k n : Int) (w : Bs) (a : Tr) : bgE (.mk k n w [a]) = 1 + bgE a := by
  rw [bgE, bgL, bgL]; omega
theorem bg_two (k n : Int) (w : Bs) (a b : Tr) : bgE (.mk k n w [a, b]) = 1 + bgE a + bgE b := by
  rw [bgE, bgL, bgL, bgL]; omega
theorem o_obj {a : Tr} (ha : WfE a) (hX : OKX a) : OKO (.mk 3 0 [] [a]) := by
  intro _ Y _ hg d hd
  rw [bg_one] at hd
  obtain ⟨d, rfl⟩ : ∃ q, d = q + 2 := ⟨d - 2, by omega⟩
  rw [pE, if_pos rfl]
  have e : 91 :: (pE a ++ [93]) ++ Y = 91 :: (pE a ++ 93 :: Y) := by simp
  rw [e, opd, show tok (91 :: (pE a ++ 93 :: Y)) = [91] from rfl, if_neg (by decide), if_neg (by decide), lst, show tok (91 :: (pE a ++ 93 :: Y)) = [91] from rfl, if_pos rfl, ob ha hX Y hg d (by omega)]
  rfl
theorem o_tak {a : Tr} (ha : WfE a) (hX : OKX a) : OKO (.mk 4 0 [] [a]) := by
  intro _ Y _ hg d hd
  rw [bg_one] at hd
  obtain ⟨d, rfl⟩ : ∃ q, d = q + 2 := ⟨d - 2, by omega⟩
  rw [pE, if_neg (by decide), if_pos rfl]
  have e : kTake ++ (32 :: 91 :: (pE a ++ [93])) ++ Y = kTake ++ (32 :: 91 :: (pE a ++ 93 :: Y)) := by simp
  have ht : tok (kTake ++ (32 :: 91 :: (pE a ++ 93 :: Y))) = kTake := tok_wd (kw_wd _ (by decide)) (sep_b (by decide) _)
  have hn : nxt (kTake ++ (32 :: 91 :: (pE a ++ 93 :: Y))) = .ok (91 :: (pE a ++ 93 :: Y)) := nx ht (gd_32 (hd_91 _).gd)
  rw [e, opd, ht, if_neg (by decide), if_neg (by decide), lst, ht, if_neg (by decide), if_pos rfl, hn]
  show thn (obj d (91 :: (pE a ++ 93 :: Y))) _ = _
  rw [ob ha hX Y hg d (by omega)]
  rfl
theorem o_neg {a : Tr} (ha : WfE a) (hO : OKO a) (hX : OKX a) : OKO (.mk 5 0 [] [a]) := by
  intro _ Y hY hg d hd
  rw [bg_one] at hd
  obtain ⟨d, rfl⟩ : ∃ q, d = q + 1 := ⟨d - 1, by omega⟩
  rw [pE, if_neg (by decide), if_neg (by decide), if_pos rfl, List.cons_append]
  have hh : Hd (brk (decide (stE a < 6)) (pE a) ++ Y) := hd_brk (hd_pE ha Y hY)
  rw [opd, show tok (45 :: (brk (decide (stE a < 6)) (pE a) ++ Y)) = [45] from rfl, if_pos rfl, nx1 rfl hh.gd, hh.s]
  show thn (opd d (brk (decide (stE a < 6)) (pE a) ++ Y)) _ = _
  rw [uop ha hO hX Y hY hg d (by omega)]
  rfl
theorem o_not {a : Tr} (ha : WfE a) (hO : OKO a) (hX : OKX a) : OKO (.mk 6 0 [] [a]) := by
  intro _ Y hY hg d hd
  rw [bg_one] at hd
  obtain ⟨d, rfl⟩ : ∃ q, d = q + 1 := ⟨d - 1, by omega⟩
  rw [pE, if_neg (by decide), if_neg (by decide), if_neg (by decide), List.cons_append]
  have hh : Hd (brk (decide (stE a < 6)) (pE a) ++ Y) := hd_brk (hd_pE ha Y hY)
  have ht := tok_33 hh.n
  rw [opd, ht, if_neg (by decide), if_pos rfl, nx1 ht hh.gd, hh.s]
  show thn (opd d (brk (decide (stE a < 6)) (pE a) ++ Y)) _ = _
  rw [uop ha hO hX Y hY hg d (by omega)]
  rfl
theorem o_pair {w : Bs} {a b : Tr} (hb : 0 < (bnd w).1) (h8 : (bnd w).2 = 8) (ha : WfE a) (hc : WfE b) (hX : OKX a) (hZ : OKX b) : OKO (.mk 7 0 w [a, b]) := by
  intro _ Y _ hg d hd
  rw [bg_two] at hd
  obtain ⟨d, rfl⟩ : ∃ q, d = q + 3 := ⟨d - 3, by omega⟩
  rw [pE, if_pos h8]
  have hw := (pair_facts hb h8).1
  have e : w ++ (40 :: (pE a ++ (44 :: 32 :: (pE b ++ [41])))) ++ Y = w ++ (40 :: (pE a ++ (44 :: 32 :: (pE b ++ 41 :: Y)))) := by simp
  have ht : tok (w ++ (40 :: (pE a ++ (44 :: 32 :: (pE b ++ 41 :: Y))))) = w := tok_wd (kw_wd _ (by rcases hw with rfl | rfl <;> decide)) (sep_b (by decide) _)
  have hn := nx ht (hd_40 _).gd
  have ha' := hd_pE ha (44 :: 32 :: (pE b ++ 41 :: Y)) (sep_b (by decide) _)
  have hb' := hd_pE hc (41 :: Y) (sep_b (by decide) _)
  rw [e, opd, ht, if_neg (by rcases hw with rfl | rfl <;> decide), if_neg (by rcases hw with rfl | rfl <;> decide), lst, ht, if_neg (by rcases hw with rfl | rfl <;> decide), if_neg (by rcases hw with rfl | rfl <;> decide), if_pos hw, pr, ht, hn]
  show thr (need [40] (40 :: (pE a ++ (44 :: 32 :: (pE b ++ 41 :: Y))))) _ = _
  rw [nd1 rfl ha'.gd, ha'.s]
  show thn (ex d 1 (pE a ++ (44 :: 32 :: (pE b ++ 41 :: Y)))) _ = _
  rw [in_44 ha hX _ d (by omega)]
  show thr (need [44] (44 :: 32 :: (pE b ++ 41 :: Y))) _ = _
  rw [nd1 rfl (gd_32 hb'.gd), show spk false (32 :: (pE b ++ 41 :: Y)) = spk false (pE b ++ 41 :: Y) from rfl, hb'.s]
  show thn (ex d 1 (pE b ++ 41 :: Y)) _ = _
  rw [in_41 hc hZ Y d (by omega)]
  show thr (need [41] (41 :: Y)) _ = _
  rw [nd1 rfl hg]
  rfl
theorem x_bin {w : Bs} {a b : Tr} (hb : 0 < (bnd w).1) (h8 : (bnd w).2 ≠ 8) (ha : WfE a) (hc : WfE b) (hX : OKX a) (hZ : OKX b) : OKX (.mk 7 0 w [a, b]) := by
  intro least hl Y hY hg hk res D0 hres d hd
  rw [bg_two] at hd
  obtain ⟨f1, f2, f3, f4, -, -, f7, f8⟩ := op_facts hb h8
  have hsg : sgE (.mk 7 0 w [a, b]) = (bnd w).1 := by
    show (if (7 : Int) = 7 ∧ (bnd w).2 ≠ 8 then (bnd w).1 else 7) = (bnd w).1
    rw [if_pos ⟨rfl, h8⟩]
  rw [hsg] at hres
  have hl : least ≤ (bnd w).1 := hl
  rw [pE, if_neg h8, List.append_assoc]
  have e : 32 :: (w ++ 32 :: brk (decide (stE b < (bnd w).1 + 1)) (pE b)) ++ Y = 32 :: (w ++ 32 :: (brk (decide (stE b < (bnd w).1 + 1)) (pE b) ++ Y)) := by simp
  rw [e]
  have hh : Hd (brk (decide (stE b < (bnd w).1 + 1)) (pE b) ++ Y) := hd_brk (hd_pE hc Y hY)
  have hne : w ≠ [] := by intro h; rw [h] at hb; revert hb; decide
  have hgw : gd (32 :: (w ++ 32 :: (brk (decide (stE b < (bnd w).1 + 1)) (pE b) ++ Y))) := by
    refine gd_32 ?_
    unfold gd badB
    rw [f8, f7]
    cases w with
    | nil => exact absurd rfl hne
    | cons x y => rfl
  have hsw : spk false (32 :: (w ++ 32 :: (brk (decide (stE b < (bnd w).1 + 1)) (pE b) ++ Y))) = w ++ 32 :: (brk (decide (stE b < (bnd w).1 + 1)) (pE b) ++ Y) := f8 _
  have hk : (bnd (tok (spk false Y))).1 ≤ (bnd w).1 := hk
  refine lop ha hX (by omega) f3 _ (by rw [hsw, f7]; exact f2) (sep_b (by decide) _) hgw res (D0 + 16 * bgE b + 6) (fun s hs d hd => ?_) d (by omega)
  obtain ⟨d, rfl⟩ : ∃ q, d = q + 1 := ⟨d - 1, by omega⟩
  rw [hsw, lp_go (f7 _) hl hs, nx (f7 _) (gd_32 hh.gd), show spk false (32 :: (brk (decide (stE b < (bnd w).1 + 1)) (pE b) ++ Y)) = spk false (brk (decide (stE b < (bnd w).1 + 1)) (pE b) ++ Y) from rfl, hh.s]
  show thn (ex d ((bnd w).1 + 1) (brk (decide (stE b < (bnd w).1 + 1)) (pE b) ++ Y)) _ = _
  rw [rop hc hZ Y hY hg (by omega) d (by omega)]
  exact hres d (by omega)
/-- An expression's text reads as the expression. -/
theorem rdE {e : Tr} (h : WfE e) : OKO e ∧ OKX e := by
  induction h with
  | num h0 h => exact ⟨o_num h0 h, x_of_o (o_num h0 h) rfl⟩
  | name h => exact ⟨o_name h, x_of_o (o_name h) rfl⟩
  | obj ha ih => exact ⟨o_obj ha ih.2, x_of_o (o_obj ha ih.2) rfl⟩
  | tak ha ih => exact ⟨o_tak ha ih.2, x_of_o (o_tak ha ih.2) rfl⟩
  | neg ha ih => exact ⟨o_neg ha ih.1 ih.2, x_of_o (o_neg ha ih.1 ih.2) rfl⟩
  | not ha ih => exact ⟨o_not ha ih.1 ih.2, x_of_o (o_not ha ih.1 ih.2) rfl⟩
  | @bin w a b hb ha hc iha ihb =>
    by_cases h8 : (bnd w).2 = 8
    · have ho := o_pair hb h8 ha hc iha.2 ihb.2
      refine ⟨ho, x_of_o ho ?_⟩
      show (if (7 : Int) = 7 ∧ (bnd w).2 ≠ 8 then (bnd w).1 else 7) = 7
      rw [if_neg (fun h => h.2 h8)]
    · refine ⟨fun h7 => ?_, x_bin hb h8 ha hc iha.2 ihb.2⟩
      have := op_facts hb h8
      have h7 : (if (7 : Int) = 7 ∧ (bnd w).2 ≠ 8 then (bnd w).1 else 7) = 7 := h7
      rw [if_pos ⟨rfl, h8⟩] at h7
      omega
/-! What a tree's text reads as: statements, without memory. -/
def kdS : St → Int
  | .mk k _ _ _ _ _ => k
mutual
/-- A statement's text, without the tabs ahead of it and the new line behind it. -/
def pS : Bs → St → Bs
  | t, .mk k w a b th el =>
    if k = 1 then w ++ (32 :: 58 :: 61 :: 32 :: (pE a ++ [59]))
    else if k = 2 then 91 :: (pE a ++ (93 :: 32 :: 58 :: 61 :: 32 :: (pE b ++ [59])))
    else if k = 3 then kRel ++ (32 :: 91 :: (pE a ++ [93, 59]))
    else if k = 4 then kIf ++ (32 :: (pE a ++ (32 :: 123 :: 10 :: (pL (t ++ [9]) th ++ (t ++ (125 :: pO t el))))))
    else if k = 5 then kWhile ++ (32 :: (pE a ++ (32 :: 123 :: 10 :: (pL (t ++ [9]) th ++ (t ++ [125])))))
    else if k = 6 then kAbort ++ [59]
    else kRet ++ (32 :: (pE a ++ [59]))
def pO : Bs → List St → Bs
  | _, [] => []
  | t, s :: r => 32 :: (kElse ++ (32 :: (if r.isEmpty && decide (kdS s = 4) then pS t s else 123 :: 10 :: ((t ++ [9]) ++ (pS (t ++ [9]) s ++ (10 :: (pL (t ++ [9]) r ++ (t ++ [125]))))))))
def pL : Bs → List St → Bs
  | _, [] => []
  | t, s :: r => t ++ (pS t s ++ (10 :: pL t r))
end
mutual
def WfS : St → Prop
  | .mk k w a b th el => (k = 1 ∧ isNm w = true ∧ WfE a ∧ b = tr0 ∧ th = [] ∧ el = []) ∨ (k = 2 ∧ w = [] ∧ WfE a ∧ WfE b ∧ th = [] ∧ el = []) ∨ (k = 3 ∧ w = [] ∧ WfE a ∧ b = tr0 ∧ th = [] ∧ el = []) ∨ (k = 4 ∧ w = [] ∧ WfE a ∧ b = tr0 ∧ WfL th ∧ WfL el) ∨ (k = 5 ∧ w = [] ∧ WfE a ∧ b = tr0 ∧ WfL th ∧ el = []) ∨ (k = 6 ∧ w = [] ∧ a = tr0 ∧ b = tr0 ∧ th = [] ∧ el = []) ∨ (k = 7 ∧ w = [] ∧ WfE a ∧ b = tr0 ∧ th = [] ∧ el = [])
def WfL : List St → Prop
  | [] => True
  | s :: r => WfS s ∧ WfL r
end
/-- Tabs. -/
def tbs (t : Bs) : Prop := t.all (· == 9) = true
theorem tbs_more {t : Bs} (h : tbs t) : tbs (t ++ [9]) := by
  unfold tbs at h ⊢
  rw [List.all_append, h]; rfl
theorem spk_tbs : ∀ {t : Bs}, tbs t → ∀ X, spk false (t ++ X) = spk false X
  | [], _, X => rfl
  | b :: t, h, X => by
    unfold tbs at h
    rw [List.all_cons, Bool.and_eq_true] at h
    have hb : b = 9 := by simpa using h.1
    rw [List.cons_append, spk, if_pos (by rw [hb]; decide)]
    exact spk_tbs (by unfold tbs; exact h.2) X
theorem gd_spk {X Y : Bs} (h : spk false X = spk false Y) (g : gd Y) : gd X := by
  unfold gd at g ⊢
  rw [h]; exact g
theorem in_gen {a : Tr} (ha : WfE a) (hs : bgE a ≤ 20000) (Y : Bs) (hY : Sep Y) (hg : gd Y) (h0 : (bnd (tok (spk false Y))).1 = 0) : ex FU 1 (pE a ++ Y) = .ok (a, spk false Y) := by
  have hp := pE_pos ha
  refine (rdE ha).2 1 (by omega) Y hY hg (by omega) _ 1 (fun d hd => lp_stop (by omega) hd) FU (by unfold FU; omega)
theorem ob_gen {a : Tr} (ha : WfE a) (hs : bgE a ≤ 20000) (Y : Bs) (hg : gd Y) : obj FU (91 :: (pE a ++ 93 :: Y)) = .ok (a, spk false Y) := ob ha (rdE ha).2 Y hg FU (by unfold FU; omega)
/-- How a statement begins. -/
structure Hs (X : Bs) : Prop extends Hd X where
  b : tok X ≠ [125]
  e : tok X ≠ kElse
theorem hs_kw {w : Bs} (hw : w ∈ kpt) (he : w ≠ kElse) {Y : Bs} (hY : Sep Y) : Hs (w ++ Y) :=
  ⟨hd_wd (kw_wd w hw) hY, by rw [tok_wd (kw_wd w hw) hY]; intro e; rw [e] at hw; revert hw; decide, by rw [tok_wd (kw_wd w hw) hY]; exact he⟩
theorem hs_pS {s : St} (h : WfS s) (t Y : Bs) : Hs (pS t s ++ Y) := by
  obtain ⟨k, w, a, b, th, el⟩ := s
  unfold WfS at h
  rcases h with ⟨rfl, hw, -, -, -, -⟩ | ⟨rfl, -, -, -, -, -⟩ | ⟨rfl, -, -, -, -, -⟩ | ⟨rfl, -, -, -, -, -⟩ | ⟨rfl, -, -, -, -, -⟩ | ⟨rfl, -, -, -, -, -⟩ | ⟨rfl, -, -, -, -, -⟩
  · rw [pS, if_pos rfl, List.append_assoc]
    have hm := nm_wd hw
    have ht : tok (w ++ (32 :: 58 :: 61 :: 32 :: (pE a ++ [59]) ++ Y)) = w := tok_wd hm.1 (sep_b (by decide) _)
    refine ⟨hd_wd hm.1 (sep_b (by decide) _), ?_, ?_⟩
    · rw [ht]; intro e; rw [e] at hw; revert hw; decide
    · rw [ht]; intro e; rw [e] at hw; revert hw; decide
  · rw [pS, if_neg (by decide), if_pos rfl, List.cons_append]
    exact ⟨hd_91 _, by rw [show ∀ Y, tok (91 :: Y) = [91] from fun _ => rfl]; decide, by rw [show ∀ Y, tok (91 :: Y) = [91] from fun _ => rfl]; decide⟩
  · rw [pS, if_neg (by decide), if_neg (by decide), if_pos rfl, List.append_assoc]
    exact hs_kw (by decide) (by decide) (sep_b (by decide) _)
  · rw [pS, if_neg (by decide), if_neg (by decide), if_neg (by decide), if_pos rfl, List.append_assoc]
    exact hs_kw (by decide) (by decide) (sep_b (by decide) _)
  · rw [pS, if_neg (by decide), if_neg (by decide), if_neg (by decide), if_neg (by decide), if_pos rfl, List.append_assoc]
    exact hs_kw (by decide) (by decide) (sep_b (by decide) _)
  · rw [pS, if_neg (by decide), if_neg (by decide), if_neg (by decide), if_neg (by decide), if_neg (by decide), if_pos rfl, List.append_assoc]
    exact hs_kw (by decide) (by decide) (sep_b (by decide) _)
  · rw [pS, if_neg (by decide), if_neg (by decide), if_neg (by decide), if_neg (by decide), if_neg (by decide), if_neg (by decide), List.append_assoc]
    exact hs_kw (by decide) (by decide) (sep_b (by decide) _)
/-- What follows statements. -/
theorem gd_pL {l : List St} (h : WfL l) {t : Bs} (ht : tbs t) {Y : Bs} (hg : gd Y) : gd (pL t l ++ Y) := by
  cases l with
  | nil => rw [pL]; exact hg
  | cons s r =>
    unfold WfL at h
    rw [pL, List.append_assoc, List.append_assoc]
    exact gd_spk (spk_tbs ht _) (hs_pS h.1 t _).gd
theorem ne_pL {l : List St} (h : WfL l) {t : Bs} (ht : tbs t) {Y : Bs} (hg : tok (spk false Y) ≠ kElse) : tok (spk false (pL t l ++ Y)) ≠ kElse := by
  cases l with
  | nil => rw [pL]; exact hg
  | cons s r =>
    unfold WfL at h
    have h1 := hs_pS h.1 t (10 :: (pL t r ++ Y))
    rw [pL, List.append_assoc, List.append_assoc, spk_tbs ht]
    have e : (10 :: pL t r) ++ Y = 10 :: (pL t r ++ Y) := rfl
    rw [e, h1.s]
    exact h1.e
def OKS (s : St) : Prop := ∀ t, tbs t → ∀ Y, gd Y → tok (spk false Y) ≠ kElse → (∀ d, 16 * bgS s ≤ d → stm d (pS t s ++ Y) = .ok (s, spk false Y)) ∧ (kdS s = 4 → ∀ d, 16 * bgS s ≤ d + 1 → brn d (pS t s ++ Y) = .ok (s, spk false Y))
def OKL (l : List St) : Prop := ∀ t, tbs t → ∀ Y en, gd Y → tok (spk false Y) = en → (en = [] ∨ en = [125]) → ∀ d, 16 * bgSL l + 1 ≤ d → sts d en (spk false (pL t l ++ Y)) = .ok (l, spk false Y)
theorem rdL_nil : OKL [] := by
  intro t _ Y en _ he _ d hd
  obtain ⟨d, rfl⟩ : ∃ q, d = q + 1 := ⟨d - 1, by omega⟩
  rw [pL, List.nil_append, sts, if_pos he]
theorem rdL_cons {s : St} {r : List St} (hs : WfS s) (hr : WfL r) (i1 : OKS s) (i2 : OKL r) : OKL (s :: r) := by
  intro t ht Y en hg he hen d hd
  have hb : bgSL (s :: r) = bgS s + bgSL r := by rw [bgSL]
  rw [hb] at hd
  have hp := bgS_pos s
  obtain ⟨d, rfl⟩ : ∃ q, d = q + 1 := ⟨d - 1, by omega⟩
  have h1 := hs_pS hs t (10 :: (pL t r ++ Y))
  have e : pL t (s :: r) ++ Y = t ++ (pS t s ++ (10 :: (pL t r ++ Y))) := by rw [pL]; simp
  rw [e, spk_tbs ht, h1.s, sts, if_neg (by rcases hen with h | h <;> rw [h]; exact h1.t; exact h1.b)]
  have hnk : tok (spk false Y) ≠ kElse := by rw [he]; rcases hen with h | h <;> rw [h] <;> decide
  rw [(i1 t ht (10 :: (pL t r ++ Y)) (gd_spk rfl (gd_pL hr ht hg)) (ne_pL hr ht hnk)).1 d (by omega)]
  show thn (sts d en (spk false (pL t r ++ Y))) _ = _
  rw [i2 t ht Y en hg he hen d (by omega)]
  rfl
/-- A block. -/
theorem rd_blk {l : List St} (h : WfL l) (i : OKL l) {t : Bs} (ht : tbs t) (Y : Bs) (hg : gd Y) (d : Nat) (hd : 16 * bgSL l + 2 ≤ d) : blk d (123 :: 10 :: (pL (t ++ [9]) l ++ (t ++ 125 :: Y))) = .ok (l, spk false Y) := by
  obtain ⟨d, rfl⟩ : ∃ q, d = q + 1 := ⟨d - 1, by omega⟩
  have e1 : spk false (t ++ 125 :: Y) = 125 :: Y := spk_tbs ht _
  have g1 : gd (t ++ 125 :: Y) := gd_spk (Y := 125 :: Y) (spk_tbs ht _) rfl
  have g2 : gd (10 :: (pL (t ++ [9]) l ++ (t ++ 125 :: Y))) := gd_spk rfl (gd_pL h (tbs_more ht) g1)
  rw [blk, nd1 rfl g2]
  show thn (sts d [125] (spk false (pL (t ++ [9]) l ++ (t ++ 125 :: Y)))) _ = _
  rw [i (t ++ [9]) (tbs_more ht) _ [125] g1 (by rw [e1]; rfl) (.inr rfl) d (by omega), e1]
  show thr (need [125] (125 :: Y)) _ = _
  rw [nd1 rfl hg]
  rfl
theorem gd_br (X : Bs) : gd (32 :: 123 :: X) := rfl
theorem bnd_br (X : Bs) : (bnd (tok (spk false (32 :: 123 :: X)))).1 = 0 := rfl
theorem gd_59 (Y : Bs) : gd (59 :: Y) := rfl
theorem nd2 {Y : Bs} (g : gd Y) : need [58, 61] (58 :: 61 :: Y) = .ok (spk false Y) := nd (tk := [58, 61]) rfl g
/-- A statement without blocks, behind its reading. -/
theorem stm_simp {d : Nat} {R Y : Bs} {s : St} (h1 : tok R ≠ kIf) (h2 : tok R ≠ kWhile) (h : smp R = .ok (s, 59 :: Y)) (hg : gd Y) (hd : 1 ≤ d) : stm d R = .ok (s, spk false Y) := by
  obtain ⟨d, rfl⟩ : ∃ q, d = q + 1 := ⟨d - 1, by omega⟩
  rw [stm, if_neg h1, if_neg h2, h]
  show thr (need [59] (59 :: Y)) _ = _
  rw [nd1 rfl hg]
  rfl
theorem rd_asg {w : Bs} {a : Tr} (hw : isNm w = true) (ha : WfE a) (hz : bgE a ≤ 20000) : OKS (.mk 1 w a tr0 [] []) := by
  intro t _ Y hg _
  refine ⟨fun d hd => ?_, fun h => absurd (show (1 : Int) = 4 from h) (by decide)⟩
  rw [pS, if_pos rfl]
  have e : w ++ (32 :: 58 :: 61 :: 32 :: (pE a ++ [59])) ++ Y = w ++ (32 :: 58 :: 61 :: 32 :: (pE a ++ 59 :: Y)) := by simp
  rw [e]
  have ht : tok (w ++ (32 :: 58 :: 61 :: 32 :: (pE a ++ 59 :: Y))) = w := tok_wd (nm_wd hw).1 (sep_b (by decide) _)
  have hne : ∀ x : Bs, isNm x = false → w ≠ x := fun x hx e => by rw [e, hx] at hw; cases hw
  have hh := hd_pE ha (59 :: Y) (sep_b (by decide) Y)
  have hn : nxt (w ++ (32 :: 58 :: 61 :: 32 :: (pE a ++ 59 :: Y))) = .ok (58 :: 61 :: 32 :: (pE a ++ 59 :: Y)) := nx ht rfl
  refine stm_simp (by rw [ht]; exact hne _ (by decide)) (by rw [ht]; exact hne _ (by decide)) ?_ hg (by have := bgS_pos (.mk 1 w a tr0 [] []); omega)
  unfold smp
  rw [ht, if_neg (hne _ (by decide)), if_neg (hne _ (by decide)), if_neg (hne _ (by decide)), if_neg (hne _ (by decide)), if_pos hw, hn]
  show thr (need [58, 61] (58 :: 61 :: 32 :: (pE a ++ 59 :: Y))) _ = _
  rw [nd2 (gd_32 hh.gd), show spk false (32 :: (pE a ++ 59 :: Y)) = spk false (pE a ++ 59 :: Y) from rfl, hh.s]
  show thn (ex FU 1 (pE a ++ 59 :: Y)) _ = _
  rw [in_gen ha hz (59 :: Y) (sep_b (by decide) Y) rfl rfl]
  rfl
theorem rd_sto {a b : Tr} (ha : WfE a) (hb : WfE b) (hz : bgE a ≤ 20000) (hy : bgE b ≤ 20000) : OKS (.mk 2 [] a b [] []) := by
  intro t _ Y hg _
  refine ⟨fun d hd => ?_, fun h => absurd (show (2 : Int) = 4 from h) (by decide)⟩
  rw [pS, if_neg (by decide), if_pos rfl]
  have e : 91 :: (pE a ++ (93 :: 32 :: 58 :: 61 :: 32 :: (pE b ++ [59]))) ++ Y = 91 :: (pE a ++ 93 :: (32 :: 58 :: 61 :: 32 :: (pE b ++ 59 :: Y))) := by simp
  rw [e]
  have ht : ∀ Y, tok (91 :: Y) = [91] := fun _ => rfl
  have hh := hd_pE hb (59 :: Y) (sep_b (by decide) Y)
  refine stm_simp (by rw [ht]; decide) (by rw [ht]; decide) ?_ hg (by have := bgS_pos (.mk 2 [] a b [] []); omega)
  unfold smp
  rw [ht, if_pos rfl, ob_gen ha hz (32 :: 58 :: 61 :: 32 :: (pE b ++ 59 :: Y)) rfl]
  show thr (need [58, 61] (58 :: 61 :: 32 :: (pE b ++ 59 :: Y))) _ = _
  rw [nd2 (gd_32 hh.gd), show spk false (32 :: (pE b ++ 59 :: Y)) = spk false (pE b ++ 59 :: Y) from rfl, hh.s]
  show thn (ex FU 1 (pE b ++ 59 :: Y)) _ = _
  rw [in_gen hb hy (59 :: Y) (sep_b (by decide) Y) rfl rfl]
  rfl
theorem rd_rel {a : Tr} (ha : WfE a) (hz : bgE a ≤ 20000) : OKS (.mk 3 [] a tr0 [] []) := by
  intro t _ Y hg _
  refine ⟨fun d hd => ?_, fun h => absurd (show (3 : Int) = 4 from h) (by decide)⟩
  rw [pS, if_neg (by decide), if_neg (by decide), if_pos rfl]
  have e : kRel ++ (32 :: 91 :: (pE a ++ [93, 59])) ++ Y = kRel ++ (32 :: 91 :: (pE a ++ 93 :: 59 :: Y)) := by simp
  rw [e]
  have ht : tok (kRel ++ (32 :: 91 :: (pE a ++ 93 :: 59 :: Y))) = kRel := tok_wd (kw_wd _ (by decide)) (sep_b (by decide) _)
  have hn : nxt (kRel ++ (32 :: 91 :: (pE a ++ 93 :: 59 :: Y))) = .ok (91 :: (pE a ++ 93 :: 59 :: Y)) := nx ht (gd_32 (hd_91 _).gd)
  refine stm_simp (by rw [ht]; decide) (by rw [ht]; decide) ?_ hg (by have := bgS_pos (.mk 3 [] a tr0 [] []); omega)
  unfold smp
  rw [ht, if_neg (by decide), if_pos rfl, hn]
  show thn (obj FU (91 :: (pE a ++ 93 :: 59 :: Y))) _ = _
  rw [ob_gen ha hz (59 :: Y) rfl]
  rfl
theorem rd_abo : OKS (.mk 6 [] tr0 tr0 [] []) := by
  intro t _ Y hg _
  refine ⟨fun d hd => ?_, fun h => absurd (show (6 : Int) = 4 from h) (by decide)⟩
  rw [pS, if_neg (by decide), if_neg (by decide), if_neg (by decide), if_neg (by decide), if_neg (by decide), if_pos rfl, List.append_assoc]
  show stm d (kAbort ++ 59 :: Y) = _
  have ht : tok (kAbort ++ 59 :: Y) = kAbort := tok_wd (kw_wd _ (by decide)) (sep_b (by decide) _)
  have hn : nxt (kAbort ++ 59 :: Y) = .ok (59 :: Y) := nx ht rfl
  refine stm_simp (by rw [ht]; decide) (by rw [ht]; decide) ?_ hg (by have := bgS_pos (.mk 6 [] tr0 tr0 [] []); omega)
  unfold smp
  rw [ht, if_neg (by decide), if_neg (by decide), if_pos rfl, hn]
  rfl
theorem rd_ret {a : Tr} (ha : WfE a) (hz : bgE a ≤ 20000) : OKS (.mk 7 [] a tr0 [] []) := by
  intro t _ Y hg _
  refine ⟨fun d hd => ?_, fun h => absurd (show (7 : Int) = 4 from h) (by decide)⟩
  rw [pS, if_neg (by decide), if_neg (by decide), if_neg (by decide), if_neg (by decide), if_neg (by decide), if_neg (by decide)]
  have e : kRet ++ (32 :: (pE a ++ [59])) ++ Y = kRet ++ (32 :: (pE a ++ 59 :: Y)) := by simp
  rw [e]
  have hh := hd_pE ha (59 :: Y) (sep_b (by decide) Y)
  have ht : tok (kRet ++ (32 :: (pE a ++ 59 :: Y))) = kRet := tok_wd (kw_wd _ (by decide)) (sep_b (by decide) _)
  have hn := nx ht (gd_32 hh.gd)
  refine stm_simp (by rw [ht]; decide) (by rw [ht]; decide) ?_ hg (by have := bgS_pos (.mk 7 [] a tr0 [] []); omega)
  unfold smp
  rw [ht, if_neg (by decide), if_neg (by decide), if_neg (by decide), if_pos rfl, hn, show spk false (32 :: (pE a ++ 59 :: Y)) = spk false (pE a ++ 59 :: Y) from rfl, hh.s]
  show thn (ex FU 1 (pE a ++ 59 :: Y)) _ = _
  rw [in_gen ha hz (59 :: Y) (sep_b (by decide) Y) rfl rfl]
  rfl
theorem bgS_eq (k : Int) (w : Bs) (a b : Tr) (th el : List St) : bgS (.mk k w a b th el) = 1 + bgE a + bgE b + bgSL th + bgSL el := by rw [bgS]
theorem rd_whl {a : Tr} {th : List St} (ha : WfE a) (hz : bgE a ≤ 20000) (hl : WfL th) (i : OKL th) : OKS (.mk 5 [] a tr0 th []) := by
  intro t htb Y hg _
  refine ⟨fun d hd => ?_, fun h => absurd (show (5 : Int) = 4 from h) (by decide)⟩
  rw [bgS_eq] at hd
  rw [pS, if_neg (by decide), if_neg (by decide), if_neg (by decide), if_neg (by decide), if_pos rfl]
  have e : kWhile ++ (32 :: (pE a ++ (32 :: 123 :: 10 :: (pL (t ++ [9]) th ++ (t ++ [125]))))) ++ Y = kWhile ++ (32 :: (pE a ++ (32 :: 123 :: 10 :: (pL (t ++ [9]) th ++ (t ++ 125 :: Y))))) := by simp
  rw [e]
  have hh := hd_pE ha (32 :: 123 :: 10 :: (pL (t ++ [9]) th ++ (t ++ 125 :: Y))) (sep_b (by decide) _)
  have ht : tok (kWhile ++ (32 :: (pE a ++ (32 :: 123 :: 10 :: (pL (t ++ [9]) th ++ (t ++ 125 :: Y)))))) = kWhile := tok_wd (kw_wd _ (by decide)) (sep_b (by decide) _)
  have hn := nx ht (gd_32 hh.gd)
  obtain ⟨d, rfl⟩ : ∃ q, d = q + 1 := ⟨d - 1, by omega⟩
  rw [stm, ht, if_neg (by decide), if_pos rfl, hn, show ∀ X, spk false (32 :: X) = spk false X from fun _ => rfl, hh.s]
  show thn (ex FU 1 (pE a ++ (32 :: 123 :: 10 :: (pL (t ++ [9]) th ++ (t ++ 125 :: Y))))) _ = _
  rw [in_gen ha hz _ (sep_b (by decide) _) (gd_br _) (bnd_br _)]
  show thn (blk d (123 :: 10 :: (pL (t ++ [9]) th ++ (t ++ 125 :: Y)))) _ = _
  rw [rd_blk hl i htb Y hg d (by omega)]
  rfl
/-- What stands behind an If's first block. -/
theorem rd_if {a : Tr} {th el : List St} (ha : WfE a) (hz : bgE a ≤ 20000) (hl : WfL th) (hm : WfL el) (i : OKL th) (j : OKL el) (jo : ∀ s, el = [s] → kdS s = 4 → OKS s) : OKS (.mk 4 [] a tr0 th el) := by
  have main : ∀ t, tbs t → ∀ Y, gd Y → tok (spk false Y) ≠ kElse → ∀ d, 16 * bgS (.mk 4 [] a tr0 th el) ≤ d + 1 → brn d (pS t (.mk 4 [] a tr0 th el) ++ Y) = .ok (.mk 4 [] a tr0 th el, spk false Y) := by
    intro t htb Y hg hnk d hd
    rw [bgS_eq] at hd
    rw [pS, if_neg (by decide), if_neg (by decide), if_neg (by decide), if_pos rfl]
    have e : kIf ++ (32 :: (pE a ++ (32 :: 123 :: 10 :: (pL (t ++ [9]) th ++ (t ++ (125 :: pO t el)))))) ++ Y = kIf ++ (32 :: (pE a ++ (32 :: 123 :: 10 :: (pL (t ++ [9]) th ++ (t ++ 125 :: (pO t el ++ Y)))))) := by simp
    rw [e]
    have hh := hd_pE ha (32 :: 123 :: 10 :: (pL (t ++ [9]) th ++ (t ++ 125 :: (pO t el ++ Y)))) (sep_b (by decide) _)
    have ht : tok (kIf ++ (32 :: (pE a ++ (32 :: 123 :: 10 :: (pL (t ++ [9]) th ++ (t ++ 125 :: (pO t el ++ Y))))))) = kIf := tok_wd (kw_wd _ (by decide)) (sep_b (by decide) _)
    have hn := nd ht (gd_32 hh.gd)
    obtain ⟨d, rfl⟩ : ∃ q, d = q + 1 := ⟨d - 1, by omega⟩
    rw [brn, hn, show ∀ X, spk false (32 :: X) = spk false X from fun _ => rfl, hh.s]
    show thn (ex FU 1 (pE a ++ (32 :: 123 :: 10 :: (pL (t ++ [9]) th ++ (t ++ 125 :: (pO t el ++ Y)))))) _ = _
    rw [in_gen ha hz _ (sep_b (by decide) _) (gd_br _) (bnd_br _)]
    cases el with
    | nil =>
      rw [pO, List.nil_append]
      show thn (blk d (123 :: 10 :: (pL (t ++ [9]) th ++ (t ++ 125 :: Y)))) _ = _
      rw [rd_blk hl i htb Y hg d (by omega)]
      dsimp only [thn]
      rw [if_neg hnk]
    | cons s r =>
      have hw := hm
      unfold WfL at hw
      have hbl : bgSL (s :: r) = bgS s + bgSL r := by rw [bgSL]
      rw [hbl] at hd
      have hp := bgS_pos s
      by_cases hc : (r.isEmpty && decide (kdS s = 4)) = true
      · have hr : r = [] := by
          simp only [Bool.and_eq_true, List.isEmpty_iff] at hc
          exact hc.1
        subst hr
        have h4 : kdS s = 4 := by simpa using hc
        have eo : pO t [s] ++ Y = 32 :: (kElse ++ (32 :: (pS t s ++ Y))) := by
          rw [pO, if_pos hc]; simp
        rw [eo]
        have hss := hs_pS hw.1 t Y
        have hte : tok (kElse ++ (32 :: (pS t s ++ Y))) = kElse := tok_wd (kw_wd _ (by decide)) (sep_b (by decide) _)
        have hsp : spk false (32 :: (kElse ++ (32 :: (pS t s ++ Y)))) = kElse ++ (32 :: (pS t s ++ Y)) := rfl
        show thn (blk d (123 :: 10 :: (pL (t ++ [9]) th ++ (t ++ 125 :: (32 :: (kElse ++ (32 :: (pS t s ++ Y)))))))) _ = _
        rw [rd_blk hl i htb _ (gd_32 (hd_wd (kw_wd _ (by decide)) (sep_b (by decide) _)).gd) d (by omega), hsp]
        dsimp only [thn]
        rw [if_pos hte, nx hte (gd_32 hss.gd), show ∀ X, spk false (32 :: X) = spk false X from fun _ => rfl, hss.s]
        show thn (oth d (pS t s ++ Y)) _ = _
        obtain ⟨d, rfl⟩ : ∃ q, d = q + 1 := ⟨d - 1, by omega⟩
        have hif : tok (pS t s ++ Y) = kIf := by
          obtain ⟨k, w2, a2, b2, th2, el2⟩ := s
          have h4 : k = 4 := h4
          subst h4
          rw [pS, if_neg (by decide), if_neg (by decide), if_neg (by decide), if_pos rfl, List.append_assoc]
          exact tok_wd (kw_wd _ (by decide)) (sep_b (by decide) _)
        rw [oth, if_pos hif, (jo s rfl h4 t htb Y hg hnk).2 h4 d (by omega)]
        rfl
      · have eo : pO t (s :: r) ++ Y = 32 :: (kElse ++ (32 :: (123 :: 10 :: (pL (t ++ [9]) (s :: r) ++ (t ++ 125 :: Y))))) := by
          rw [pO, if_neg hc, pL]; simp
        rw [eo]
        have hte : tok (kElse ++ (32 :: (123 :: 10 :: (pL (t ++ [9]) (s :: r) ++ (t ++ 125 :: Y))))) = kElse := tok_wd (kw_wd _ (by decide)) (sep_b (by decide) _)
        have hsp : spk false (32 :: (kElse ++ (32 :: (123 :: 10 :: (pL (t ++ [9]) (s :: r) ++ (t ++ 125 :: Y)))))) = kElse ++ (32 :: (123 :: 10 :: (pL (t ++ [9]) (s :: r) ++ (t ++ 125 :: Y)))) := rfl
        show thn (blk d (123 :: 10 :: (pL (t ++ [9]) th ++ (t ++ 125 :: (32 :: (kElse ++ (32 :: (123 :: 10 :: (pL (t ++ [9]) (s :: r) ++ (t ++ 125 :: Y)))))))))) _ = _
        rw [rd_blk hl i htb _ (gd_32 (hd_wd (kw_wd _ (by decide)) (sep_b (by decide) _)).gd) d (by omega), hsp]
        dsimp only [thn]
        rw [if_pos hte, nx hte rfl]
        show thn (oth d (123 :: 10 :: (pL (t ++ [9]) (s :: r) ++ (t ++ 125 :: Y)))) _ = _
        obtain ⟨d, rfl⟩ : ∃ q, d = q + 1 := ⟨d - 1, by omega⟩
        rw [oth, if_neg (show ¬ tok (123 :: 10 :: (pL (t ++ [9]) (s :: r) ++ (t ++ 125 :: Y))) = kIf by rw [show ∀ X, tok (123 :: X) = [123] from fun _ => rfl]; decide), rd_blk hm j htb Y hg d (by rw [hbl]; omega)]
        rfl
  intro t htb Y hg hnk
  refine ⟨fun d hd => ?_, fun _ => main t htb Y hg hnk⟩
  have hb := bgS_pos (.mk 4 [] a tr0 th el)
  obtain ⟨d, rfl⟩ : ∃ q, d = q + 1 := ⟨d - 1, by omega⟩
  have hif : tok (pS t (.mk 4 [] a tr0 th el) ++ Y) = kIf := by
    rw [pS, if_neg (by decide), if_neg (by decide), if_neg (by decide), if_pos rfl, List.append_assoc]
    exact tok_wd (kw_wd _ (by decide)) (sep_b (by decide) _)
  rw [stm, if_pos hif]
  exact main t htb Y hg hnk d hd
theorem rdS : ∀ n : Nat, (∀ s, bgS s ≤ n → n ≤ 20000 → WfS s → OKS s) ∧ (∀ l, bgSL l ≤ n → n ≤ 20000 → WfL l → OKL l)
  | 0 => by
    refine ⟨fun s h => absurd h (by have := bgS_pos s; omega), fun l h _ _ => ?_⟩
    cases l with
    | nil => exact rdL_nil
    | cons s r => exact absurd h (by have := bgS_pos s; rw [bgSL]; omega)
  | n + 1 => by
    obtain ⟨i1, i2⟩ := rdS n
    have j1 : ∀ s, bgS s ≤ n + 1 → n + 1 ≤ 20000 → WfS s → OKS s := by
      intro s hb hn hw
      obtain ⟨k, w, a, b, th, el⟩ := s
      rw [bgS_eq] at hb
      have ha := bgE_pos a
      have hb0 := bgE_pos b
      unfold WfS at hw
      rcases hw with ⟨rfl, h1, h2, rfl, rfl, rfl⟩ | ⟨rfl, rfl, h1, h2, rfl, rfl⟩ | ⟨rfl, rfl, h1, rfl, rfl, rfl⟩ | ⟨rfl, rfl, h1, rfl, h2, h3⟩ | ⟨rfl, rfl, h1, rfl, h2, rfl⟩ | ⟨rfl, rfl, rfl, rfl, rfl, rfl⟩ | ⟨rfl, rfl, h1, rfl, rfl, rfl⟩
      · exact rd_asg h1 h2 (by omega)
      · exact rd_sto h1 h2 (by omega) (by omega)
      · exact rd_rel h1 (by omega)
      · refine rd_if h1 (by omega) h2 h3 (i2 th (by omega) (by omega) h2) (i2 el (by omega) (by omega) h3) (fun s hs _ => ?_)
        subst hs
        have e : bgSL [s] = bgS s := by rw [bgSL, bgSL]; rfl
        rw [e] at hb
        unfold WfL at h3
        exact i1 s (by omega) (by omega) h3.1
      · exact rd_whl h1 (by omega) h2 (i2 th (by omega) (by omega) h2)
      · exact rd_abo
      · exact rd_ret h1 (by omega)
    refine ⟨j1, fun l h hn hw => ?_⟩
    cases l with
    | nil => exact rdL_nil
    | cons s r =>
      unfold WfL at hw
      have e : bgSL (s :: r) = bgS s + bgSL r := by rw [bgSL]
      rw [e] at h
      have := bgS_pos s
      exact rdL_cons hw.1 hw.2 (j1 s (by omega) hn hw.1) (i2 r (by omega) (by omega) hw.2)
/-- A program's text reads as the program. -/
theorem prs0_pL {l : List St} (h : WfL l) (hb : bgSL l ≤ 20000) : prs0 (pL [] l) = .ok (l, []) := by
  have h1 := (rdS (bgSL l)).2 l (Nat.le_refl _) hb h [] rfl [] [] rfl rfl (.inl rfl) FU (by unfold FU; omega)
  have h2 := gd_pL h (t := []) rfl (Y := []) rfl
  rw [List.append_nil] at h1 h2
  unfold prs0
  unfold gd at h2
  rw [h2, if_neg (by decide)]
  exact h1
end Go.Proofs.YtehblpbefkopbaaDoor
