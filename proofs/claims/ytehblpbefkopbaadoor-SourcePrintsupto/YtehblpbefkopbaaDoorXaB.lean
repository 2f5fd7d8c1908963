import Derived.Test.YtehblpbefkopbaaDoorXaA
namespace Go.Proofs.YtehblpbefkopbaaDoor
/-! A dressed text is read as the text itself, without memory. -/
def dsep : Bs := [32, 35, 125, 32, 101, 108, 115, 101, 32, 123, 10, 9]
def dr : Bs → Bs
  | [] => []
  | b :: r => if b = 10 then dsep ++ dr r else b :: dr r
theorem dr_nil : dr [] = [] := rfl
theorem dr_nl (r : Bs) : dr (10 :: r) = dsep ++ dr r := by rw [dr, if_pos rfl]
theorem dr_cons {b : UInt8} (h : b ≠ 10) (r : Bs) : dr (b :: r) = b :: dr r := by rw [dr, if_neg h]
theorem dr_isEmpty (R : Bs) : (dr R).isEmpty = R.isEmpty := by
  cases R with
  | nil => rfl
  | cons b r =>
    by_cases h : b = 10
    · subst h; rw [dr_nl]; rfl
    · rw [dr_cons h]; rfl
theorem dr_app : ∀ (t r : Bs), dr (t ++ r) = dr t ++ dr r
  | [], r => by rw [dr_nil]; rfl
  | b :: t, r => by
    rw [List.cons_append]
    by_cases h : b = 10
    · subst h; rw [dr_nl, dr_nl, dr_app t r, List.append_assoc]
    · rw [dr_cons h, dr_cons h, dr_app t r, List.cons_append]
theorem dr_plain : ∀ (t : Bs), (10 : UInt8) ∉ t → dr t = t
  | [], _ => rfl
  | b :: t, h => by
    rw [dr_cons (fun e => h (by rw [e]; exact List.mem_cons_self)), dr_plain t (fun e => h (List.mem_cons_of_mem _ e))]
theorem take_dr (p : UInt8 → Bool) (h10 : p 10 = false) (h32 : p 32 = false) : ∀ R : Bs, (dr R).takeWhile p = R.takeWhile p
  | [] => rfl
  | b :: r => by
    by_cases h : b = 10
    · subst h
      rw [dr_nl, dsep, List.cons_append, List.takeWhile_cons, h32, List.takeWhile_cons, h10]
      rfl
    · rw [dr_cons h, List.takeWhile_cons, List.takeWhile_cons, take_dr p h10 h32 r]
theorem pre_dr : ∀ (s R : Bs), (10 : UInt8) ∉ s → (32 : UInt8) ∉ s → s.isPrefixOf (dr R) = s.isPrefixOf R
  | [], R, _, _ => by simp
  | c :: s, [], _, _ => rfl
  | c :: s, b :: r, h1, h2 => by
    have c10 : c ≠ 10 := fun e => h1 (by rw [e]; exact List.mem_cons_self)
    have c32 : c ≠ 32 := fun e => h2 (by rw [e]; exact List.mem_cons_self)
    by_cases h : b = 10
    · subst h
      rw [dr_nl, dsep, List.cons_append]
      show (c == 32 && _) = (c == 10 && _)
      rw [beq_eq_false_iff_ne.2 c32, beq_eq_false_iff_ne.2 c10]
      rfl
    · rw [dr_cons h]
      show (c == b && _) = (c == b && _)
      rw [pre_dr s r (fun e => h1 (List.mem_cons_of_mem _ e)) (fun e => h2 (List.mem_cons_of_mem _ e))]
theorem fsg_dr : ∀ (L : List Bs) (R : Bs), (∀ s ∈ L, (10 : UInt8) ∉ s ∧ (32 : UInt8) ∉ s) → fsgL L (dr R) = fsgL L R
  | [], _, _ => rfl
  | s :: L, R, h => by
    have hs := h s List.mem_cons_self
    rw [fsgL, fsgL, pre_dr s R hs.1 hs.2, fsg_dr L R (fun x hx => h x (List.mem_cons_of_mem _ hx))]
theorem sgs_no : ∀ s ∈ sgs, (10 : UInt8) ∉ s ∧ (32 : UInt8) ∉ s := by decide
theorem sgs_nl (r : Bs) : fsgL sgs (10 :: r) = [] := by
  simp [sgs, fsgL, List.isPrefixOf]
theorem sgs_bl (r : Bs) : fsgL sgs (32 :: r) = [] := by
  simp [sgs, fsgL, List.isPrefixOf]
theorem tok_cons (b : UInt8) (r : Bs) : tok (b :: r) = if isL b then fwd (b :: r) else if digB b then fnm (b :: r) else fsgL sgs (b :: r) := rfl
theorem tok_dr (R : Bs) : tok (dr R) = tok R := by
  cases R with
  | nil => rfl
  | cons b r =>
    by_cases h : b = 10
    · subst h
      rw [dr_nl, dsep, List.cons_append]
      rw [tok_cons, tok_cons, if_neg (by decide), if_neg (by decide), if_neg (by decide), if_neg (by decide), sgs_nl, sgs_bl]
    · have hd := dr_cons h r
      have e1 := take_dr isLD (by decide) (by decide) (b :: r)
      have e2 := take_dr digB (by decide) (by decide) (b :: r)
      have e3 := fsg_dr sgs (b :: r) sgs_no
      rw [hd] at e1 e2 e3 ⊢
      rw [tok_cons, tok_cons]
      unfold fwd fnm
      rw [e1, e2, e3]
theorem spk_dr : ∀ (c : Bool) (l : Bs), spk c (dr l) = dr (spk c l)
  | _, [] => by simp [spk, dr]
  | true, b :: r => by
    by_cases h : b = 10
    · subst h
      have := spk_dr false r
      rw [dr_nl, dsep]
      simp [spk, this]
    · rw [dr_cons h, spk, spk, if_neg h, if_neg h]
      exact spk_dr true r
  | false, b :: r => by
    by_cases h : b = 10
    · subst h
      have := spk_dr false r
      rw [dr_nl, dsep]
      simp [spk, this]
    · rw [dr_cons h, spk, spk]
      split
      · exact spk_dr false r
      · split
        · exact spk_dr true r
        · rw [dr_cons h]
theorem takeWhile_no (p : UInt8 → Bool) (h10 : p 10 = false) : ∀ l : Bs, (10 : UInt8) ∉ l.takeWhile p
  | [] => by simp
  | b :: r => by
    rw [List.takeWhile_cons]
    split
    · rename_i h
      intro e
      rcases List.mem_cons.1 e with e | e
      · rw [← e, h10] at h; cases h
      · exact takeWhile_no p h10 r e
    · simp
theorem fsgL_mem : ∀ (L : List Bs) (R : Bs), fsgL L R = [] ∨ fsgL L R ∈ L
  | [], _ => .inl rfl
  | s :: L, R => by
    unfold fsgL
    split
    · exact .inr List.mem_cons_self
    · rcases fsgL_mem L R with e | e
      · exact .inl e
      · exact .inr (List.mem_cons_of_mem _ e)
theorem tok_no (R : Bs) : (10 : UInt8) ∉ tok R := by
  unfold tok
  split
  · simp
  · split
    · unfold fwd; split
      · simp
      · exact takeWhile_no _ (by decide) _
    · split
      · unfold fnm; split
        · exact takeWhile_no _ (by decide) _
        · simp
      · rcases fsgL_mem sgs _ with e | e
        · rw [e]; simp
        · exact (sgs_no _ e).1
theorem adv_dr (R : Bs) : adv (dr R) = dr (adv R) := by
  unfold adv
  rw [tok_dr]
  obtain ⟨q, hq⟩ := tok_pre R
  have e1 : R.drop (tok R).length = q := by
    have : (tok R ++ q).drop (tok R).length = q := List.drop_left
    rwa [hq] at this
  have e2 : (dr R).drop (tok R).length = dr q := by
    have h1 : dr R = tok R ++ dr q := by have := dr_app (tok R) q; rw [hq, dr_plain _ (tok_no R)] at this; exact this
    rw [h1, List.drop_left]
  rw [e1, e2, spk_dr]
theorem badB_dr (R : Bs) : badB (dr R) = badB R := by unfold badB; rw [tok_dr, dr_isEmpty]
/-- What a dressed text's reading comes to. -/
def mpR (x : Except Bs Bs) : Except Bs Bs := match x with
  | .error e => .error (dr e)
  | .ok R => .ok (dr R)
def mpT {α : Type} (x : Except Bs (α × Bs)) : Except Bs (α × Bs) := match x with
  | .error e => .error (dr e)
  | .ok (a, R) => .ok (a, dr R)
theorem nxt_dr (R : Bs) : nxt (dr R) = mpR (nxt R) := by
  unfold nxt
  rw [adv_dr, badB_dr]
  split <;> rfl
theorem need_dr (w R : Bs) : need w (dr R) = mpR (need w R) := by
  unfold need
  rw [tok_dr, nxt_dr]
  split <;> rfl
theorem thn_dr {α β : Type} {x : Except Bs (α × Bs)} {f g : α → Bs → Except Bs (β × Bs)} (h : ∀ a R, f a (dr R) = mpT (g a R)) : thn (mpT x) f = mpT (thn x g) := by
  cases x with
  | error e => rfl
  | ok a => exact h a.1 a.2
theorem thr_dr {β : Type} {x : Except Bs Bs} {f g : Bs → Except Bs (β × Bs)} (h : ∀ R, f (dr R) = mpT (g R)) : thr (mpR x) f = mpT (thr x g) := by
  cases x with
  | error e => rfl
  | ok a => exact h a
theorem num_dr (R : Bs) : num (dr R) = mpT (num R) := by
  unfold num
  rw [tok_dr, nxt_dr]
  split
  · exact thr_dr fun _ => rfl
  · rfl
theorem rd_dr : ∀ d : Nat,
    (∀ least R, ex d least (dr R) = mpT (ex d least R)) ∧ (∀ left str least R, lp d left str least (dr R) = mpT (lp d left str least R)) ∧ (∀ R, opd d (dr R) = mpT (opd d R)) ∧
    (∀ R, lst d (dr R) = mpT (lst d R)) ∧ (∀ R, obj d (dr R) = mpT (obj d R)) ∧ (∀ R, pr d (dr R) = mpT (pr d R))
  | 0 => ⟨fun _ _ => by simp [ex, mpT], fun _ _ _ _ => by simp [lp, mpT], fun _ => by simp [opd, mpT], fun _ => by simp [lst, mpT], fun _ => by simp [obj, mpT], fun _ => by simp [pr, mpT]⟩
  | d + 1 => by
    obtain ⟨i1, i2, i3, i4, i5, i6⟩ := rd_dr d
    refine ⟨fun least R => ?_, fun left str least R => ?_, fun R => ?_, fun R => ?_, fun R => ?_, fun R => ?_⟩
    · rw [ex, ex, i3]
      exact thn_dr fun t R1 => i2 _ _ _ _
    · rw [lp, lp, tok_dr, nxt_dr]
      split
      · rfl
      · refine thr_dr fun R1 => ?_
        rw [i1]
        exact thn_dr fun t R2 => i2 _ _ _ _
    · rw [opd, opd, tok_dr, nxt_dr]
      split
      · refine thr_dr fun R1 => ?_
        rw [i3]
        exact thn_dr fun _ _ => rfl
      · split
        · refine thr_dr fun R1 => ?_
          rw [i3]
          exact thn_dr fun _ _ => rfl
        · exact i4 R
    · rw [lst, lst, tok_dr, nxt_dr, i5, i6, num_dr]
      split
      · exact thn_dr fun _ _ => rfl
      · split
        · refine thr_dr fun R1 => ?_
          rw [i5]
          exact thn_dr fun _ _ => rfl
        · split
          · rfl
          · split
            · refine thr_dr fun R1 => ?_
              rw [i1]
              refine thn_dr fun t R2 => ?_
              rw [need_dr]
              exact thr_dr fun _ => rfl
            · split
              · exact thr_dr fun _ => rfl
              · rfl
    · rw [obj, obj, need_dr]
      refine thr_dr fun R1 => ?_
      rw [i1]
      refine thn_dr fun t R2 => ?_
      rw [need_dr]
      exact thr_dr fun _ => rfl
    · rw [pr, pr, tok_dr, nxt_dr]
      refine thr_dr fun R1 => ?_
      rw [need_dr]
      refine thr_dr fun R2 => ?_
      rw [i1]
      refine thn_dr fun a R3 => ?_
      rw [need_dr]
      refine thr_dr fun R4 => ?_
      rw [i1]
      refine thn_dr fun b R5 => ?_
      rw [need_dr]
      exact thr_dr fun _ => rfl
theorem smp_dr (R : Bs) : smp (dr R) = mpT (smp R) := by
  have i1 := (rd_dr FU).1
  have i5 := (rd_dr FU).2.2.2.2.1
  unfold smp
  rw [tok_dr, nxt_dr, i5]
  split
  · refine thn_dr fun a R1 => ?_
    rw [need_dr]
    refine thr_dr fun R2 => ?_
    rw [i1]
    exact thn_dr fun _ _ => rfl
  · split
    · refine thr_dr fun R1 => ?_
      rw [i5]
      exact thn_dr fun _ _ => rfl
    · split
      · exact thr_dr fun _ => rfl
      · split
        · refine thr_dr fun R1 => ?_
          rw [i1]
          exact thn_dr fun _ _ => rfl
        · split
          · refine thr_dr fun R1 => ?_
            rw [need_dr]
            refine thr_dr fun R2 => ?_
            rw [i1]
            exact thn_dr fun _ _ => rfl
          · rfl
theorem rs_dr : ∀ d : Nat,
    (∀ en R, sts d en (dr R) = mpT (sts d en R)) ∧ (∀ R, stm d (dr R) = mpT (stm d R)) ∧ (∀ R, brn d (dr R) = mpT (brn d R)) ∧ (∀ R, oth d (dr R) = mpT (oth d R)) ∧ (∀ R, blk d (dr R) = mpT (blk d R))
  | 0 => ⟨fun _ _ => by simp [sts, mpT], fun _ => by simp [stm, mpT], fun _ => by simp [brn, mpT], fun _ => by simp [oth, mpT], fun _ => by simp [blk, mpT]⟩
  | d + 1 => by
    have i0 := (rd_dr FU).1
    obtain ⟨i1, i2, i3, i4, i5⟩ := rs_dr d
    refine ⟨fun en R => ?_, fun R => ?_, fun R => ?_, fun R => ?_, fun R => ?_⟩
    · rw [sts, sts, tok_dr, i2]
      split
      · rfl
      · refine thn_dr fun s R1 => ?_
        rw [i1]
        exact thn_dr fun _ _ => rfl
    · rw [stm, stm, tok_dr, nxt_dr, i3, smp_dr]
      split
      · rfl
      · split
        · refine thr_dr fun R1 => ?_
          rw [i0]
          refine thn_dr fun a R2 => ?_
          rw [i5]
          exact thn_dr fun _ _ => rfl
        · refine thn_dr fun s R1 => ?_
          rw [need_dr]
          exact thr_dr fun _ => rfl
    · rw [brn, brn, need_dr]
      refine thr_dr fun R1 => ?_
      rw [i0]
      refine thn_dr fun a R2 => ?_
      rw [i5]
      refine thn_dr fun l R3 => ?_
      rw [tok_dr, nxt_dr]
      split
      · refine thr_dr fun R4 => ?_
        rw [i4]
        exact thn_dr fun _ _ => rfl
      · rfl
    · rw [oth, oth, tok_dr, i3, i5]
      split
      · exact thn_dr fun _ _ => rfl
      · rfl
    · rw [blk, blk, need_dr]
      refine thr_dr fun R1 => ?_
      rw [i1]
      refine thn_dr fun l R2 => ?_
      rw [need_dr]
      exact thr_dr fun _ => rfl
theorem prs0_dr (T : Bs) : prs0 (9 :: dr T) = mpT (prs0 T) := by
  unfold prs0
  have : spk false (9 :: dr T) = dr (spk false T) := by
    rw [spk, if_pos (by decide)]; exact spk_dr false T
  rw [this, badB_dr, (rs_dr FU).1]
  split <;> rfl
/-- The line and the column behind a beginning of a text. -/
def lnO (A : Bs) : Nat := A.count 10 + 1
def colO (A : Bs) : Nat := (A.reverse.takeWhile (fun b => b != 10)).length + 1
theorem lnO_dr (A : Bs) : lnO (9 :: dr A) = lnO A := by
  have : ∀ A : Bs, (dr A).count 10 = A.count 10 := by
    intro A
    induction A with
    | nil => rfl
    | cons b r ih =>
      by_cases h : b = 10
      · subst h; rw [dr_nl, List.count_append, ih]; rw [show dsep.count 10 = 1 by decide, List.count_cons_self]; omega
      · rw [dr_cons h, List.count_cons_of_ne (fun e => h e), List.count_cons_of_ne (fun e => h e), ih]
  unfold lnO
  rw [List.count_cons_of_ne (by decide), this]
theorem colO_app_nl (A s : Bs) (hs : (10 : UInt8) ∉ s) : colO (A ++ 10 :: s) = s.length + 1 := by
  unfold colO
  rw [List.reverse_append, List.reverse_cons, List.append_assoc, List.takeWhile_append_of_pos (by intro b hb; simp; intro e; subst e; exact hs (List.mem_reverse.1 hb))]
  simp
theorem colO_no (s : Bs) (hs : (10 : UInt8) ∉ s) : colO s = s.length + 1 := by
  unfold colO
  have : s.reverse.takeWhile (fun b => b != 10) = s.reverse := by
    have h := List.takeWhile_append_of_pos (l₂ := []) (p := fun b : UInt8 => b != 10) (l₁ := s.reverse) (by intro b hb; simp; intro e; subst e; exact hs (List.mem_reverse.1 hb))
    simpa using h
  rw [this, List.length_reverse]
theorem colO_dr (A : Bs) : colO (9 :: dr A) = colO A + 1 := by
  by_cases h : (10 : UInt8) ∈ A
  · obtain ⟨s, t, e, ht⟩ := List.eq_append_cons_of_mem (List.mem_reverse.2 h)
    have e2 : A = t.reverse ++ 10 :: s.reverse := by
      have := congrArg List.reverse e
      rw [List.reverse_reverse] at this
      rw [this]; simp
    have hs : (10 : UInt8) ∉ s.reverse := by simpa using ht
    have e3 : 9 :: dr A = (9 :: dr t.reverse ++ [32, 35, 125, 32, 101, 108, 115, 101, 32, 123]) ++ 10 :: (9 :: s.reverse) := by
      rw [e2, dr_app, dr_nl, dr_plain _ hs, dsep]; simp
    rw [e3, colO_app_nl _ _ (by intro e; rcases List.mem_cons.1 e with e | e; exact absurd e (by decide); exact hs e), e2, colO_app_nl _ _ hs]
    simp
  · rw [dr_plain _ h, colO_no _ h, colO_no _ (by intro e; rcases List.mem_cons.1 e with e | e; exact absurd e (by decide); exact h e)]
    rfl
end Go.Proofs.YtehblpbefkopbaaDoor
