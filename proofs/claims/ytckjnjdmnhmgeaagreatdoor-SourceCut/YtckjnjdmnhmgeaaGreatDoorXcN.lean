import Derived.Test.YtckjnjdmnhmgeaaGreatDoorXcF
namespace Go.Proofs.YtckjnjdmnhmgeaaGreatDoor
/-! Tokens are local: what a reading comes to, of a longer text and of one that ends at the fault; without memory. -/
/-- A place that is come to, token by token. -/
inductive Rch : Bs → Bs → Prop
  | refl (R : Bs) : Rch R R
  | step {R E : Bs} : Rch (adv R) E → Rch R E
theorem Rch.trans {R S E : Bs} (h : Rch R S) (k : Rch S E) : Rch R E := by
  induction h with
  | refl => exact k
  | step _ ih => exact .step (ih k)
theorem Rch.suf {R E : Bs} (h : Rch R E) : E <:+ R := by
  induction h with
  | refl => exact List.suffix_refl _
  | step _ ih => exact ih.trans (adv_suf _)
/-- Of two places that are come to from one, one is come to from the other. -/
theorem Rch.comp {R S E : Bs} (h : Rch R S) (k : Rch R E) : Rch S E ∨ Rch E S := by
  induction h with
  | refl => exact .inl k
  | step h ih =>
    cases k with
    | refl => exact .inr (.step h)
    | step k => exact ih k
theorem rch_fix {R E : Bs} (hR : adv R = R) (k : Rch R E) : R = E := by
  induction k with
  | refl => rfl
  | step _ ih =>
    rw [hR] at ih
    exact ih hR
theorem suf_nil {E : Bs} (h : E <:+ []) : E = [] := by simpa using h
theorem suf_len {E R : Bs} (h : E <:+ R) (k : R.length ≤ E.length) : E = R := h.eq_of_length_le k
theorem app_ne {X E : Bs} (h : X ≠ []) : X ++ E ≠ E := fun e => by
  have := congrArg List.length e
  rw [List.length_append] at this
  have := List.length_pos_iff.2 h
  omega
/-! ### What is behind a text. -/
theorem spk_app : ∀ (c : Bool) (l t : Bs), spk c l ≠ [] → spk c (l ++ t) = spk c l ++ t
  | c, [], t, h => by simp [spk] at h
  | true, b :: r, t, h => by
    rw [spk] at h
    rw [List.cons_append, spk, spk]
    split
    · rename_i hb
      rw [if_pos hb] at h
      exact spk_app false r t h
    · rename_i hb
      rw [if_neg hb] at h
      exact spk_app true r t h
  | false, b :: r, t, h => by
    rw [spk] at h
    rw [List.cons_append, spk, spk]
    split
    · rename_i hb
      rw [if_pos hb] at h
      exact spk_app false r t h
    · rename_i hb
      rw [if_neg hb] at h
      split
      · rename_i hc
        rw [if_pos hc] at h
        exact spk_app true r t h
      · rfl
theorem spk_end : ∀ (c : Bool) (l t : Bs), spk c l = [] → ∃ c', spk c (l ++ t) = spk c' t
  | c, [], t, _ => ⟨c, rfl⟩
  | true, b :: r, t, h => by
    rw [spk] at h
    rw [List.cons_append, spk]
    split
    · rename_i hb
      rw [if_pos hb] at h
      exact spk_end false r t h
    · rename_i hb
      rw [if_neg hb] at h
      exact spk_end true r t h
  | false, b :: r, t, h => by
    rw [spk] at h
    rw [List.cons_append, spk]
    split
    · rename_i hb
      rw [if_pos hb] at h
      exact spk_end false r t h
    · rename_i hb
      rw [if_neg hb] at h
      split
      · rename_i hc
        rw [if_pos hc] at h
        exact spk_end true r t h
      · rename_i hc
        rw [if_neg hc] at h
        cases h
theorem tw_app_nl (p : UInt8 → Bool) (h10 : p 10 = false) (t : Bs) : ∀ l : Bs, (l ++ 10 :: t).takeWhile p = l.takeWhile p
  | [] => by rw [List.nil_append, List.takeWhile_cons, h10]; rfl
  | b :: r => by
    rw [List.cons_append, List.takeWhile_cons, List.takeWhile_cons, tw_app_nl p h10 t r]
theorem pre_app_nl (t : Bs) : ∀ (s R : Bs), (10 : UInt8) ∉ s → s.isPrefixOf (R ++ 10 :: t) = s.isPrefixOf R
  | [], R, _ => by simp
  | a :: s, [], h => by
    rw [List.nil_append]
    simp only [List.isPrefixOf]
    have : (a == 10) = false := by rw [beq_eq_false_iff_ne]; intro e; exact h (by rw [e]; exact List.mem_cons_self)
    rw [this]; rfl
  | a :: s, b :: R, h => by
    rw [List.cons_append]
    simp only [List.isPrefixOf]
    rw [pre_app_nl t s R (fun e => h (List.mem_cons_of_mem _ e))]
theorem fsg_app_nl (t : Bs) : ∀ (L : List Bs) (R : Bs), (∀ s ∈ L, (10 : UInt8) ∉ s) → fsgL L (R ++ 10 :: t) = fsgL L R
  | [], R, _ => rfl
  | s :: L, R, h => by
    rw [fsgL, fsgL, pre_app_nl t s R (h s List.mem_cons_self), fsg_app_nl t L R (fun x hx => h x (List.mem_cons_of_mem _ hx))]
theorem tok_app_nl {R : Bs} (t : Bs) (h : R ≠ []) : tok (R ++ 10 :: t) = tok R := by
  cases R with
  | nil => exact absurd rfl h
  | cons b r =>
    rw [List.cons_append, tok_cons, tok_cons]
    have e1 : fwd (b :: (r ++ 10 :: t)) = fwd (b :: r) := by
      unfold fwd
      rw [← List.cons_append, tw_app_nl isLD (by decide)]
    have e2 : fnm (b :: (r ++ 10 :: t)) = fnm (b :: r) := by
      unfold fnm
      rw [← List.cons_append, tw_app_nl digB (by decide)]
    rw [e1, e2, ← List.cons_append, fsg_app_nl t sgs _ (fun s hs => (sgs_no s hs).1)]
theorem tok_le (R : Bs) : (tok R).length ≤ R.length := by
  have : tok R <+: R := by
    cases R with
    | nil => exact List.prefix_refl _
    | cons b r =>
      rw [tok_cons]
      split
      · unfold fwd
        split
        · exact List.nil_prefix
        · exact List.takeWhile_prefix _
      · split
        · unfold fnm
          split
          · exact List.takeWhile_prefix _
          · exact List.nil_prefix
        · have : ∀ L : List Bs, fsgL L (b :: r) <+: b :: r := by
            intro L
            induction L with
            | nil => exact List.nil_prefix
            | cons s L ih =>
              rw [fsgL]
              split
              · rename_i h
                exact List.isPrefixOf_iff_prefix.1 h
              · exact ih
          exact this sgs
  exact this.length_le
theorem adv_app_nl {R : Bs} (t : Bs) (h : R ≠ []) (h2 : adv R ≠ []) : adv (R ++ 10 :: t) = adv R ++ 10 :: t := by
  unfold adv at h2 ⊢
  rw [tok_app_nl t h, List.drop_append_of_le_length (tok_le R)]
  exact spk_app _ _ _ h2
theorem badB_app_nl {R : Bs} (t : Bs) (h : R ≠ []) : badB (R ++ 10 :: t) = badB R := by
  unfold badB
  rw [tok_app_nl t h]
  cases R with
  | nil => exact absurd rfl h
  | cons b r => rfl
/-! ### What is ahead of a fault. -/
theorem tw_cut (p : UInt8 → Bool) (E : Bs) : ∀ X : Bs, ((X ++ E).takeWhile p).length ≤ X.length → X.takeWhile p = (X ++ E).takeWhile p
  | [], h => by
    rw [List.nil_append] at h ⊢
    rw [List.eq_nil_of_length_eq_zero (Nat.le_zero.1 h)]; rfl
  | b :: r, h => by
    rw [List.cons_append, List.takeWhile_cons] at h ⊢
    rw [List.takeWhile_cons]
    split
    · rename_i hb
      rw [if_pos hb] at h
      rw [tw_cut p E r (by simpa using h)]
    · rfl
theorem pre_cut {s X E : Bs} (h : s.length ≤ X.length) : s.isPrefixOf (X ++ E) = s.isPrefixOf X := by
  have : s.isPrefixOf (X ++ E) = true ↔ s.isPrefixOf X = true := by
    rw [List.isPrefixOf_iff_prefix, List.isPrefixOf_iff_prefix]
    exact ⟨fun k => List.prefix_of_prefix_length_le k (List.prefix_append _ _) h, fun k => k.trans (List.prefix_append _ _)⟩
  cases h1 : s.isPrefixOf (X ++ E) <;> cases h2 : s.isPrefixOf X <;> simp_all
theorem pre_long {s X E : Bs} (h : s.isPrefixOf X = true) : s.isPrefixOf (X ++ E) = true := List.isPrefixOf_iff_prefix.2 ((List.isPrefixOf_iff_prefix.1 h).trans (List.prefix_append _ _))
theorem fsg_cut (E : Bs) : ∀ (L : List Bs) (X : Bs), fsgL L (X ++ E) ≠ [] → (fsgL L (X ++ E)).length ≤ X.length → fsgL L X = fsgL L (X ++ E)
  | [], X, h, _ => absurd rfl h
  | s :: L, X, h, hl => by
    rw [fsgL] at h hl ⊢
    rw [fsgL]
    by_cases h1 : s.isPrefixOf (X ++ E) = true
    · rw [if_pos h1] at h hl ⊢
      rw [← pre_cut (E := E) hl, if_pos h1]
    · rw [if_neg h1] at h hl ⊢
      rw [if_neg (fun h2 => h1 (pre_long h2))]
      exact fsg_cut E L X h hl
theorem tok_cut {X E : Bs} (hX : X ≠ []) (h : tok (X ++ E) ≠ []) (hl : (tok (X ++ E)).length ≤ X.length) : tok X = tok (X ++ E) := by
  cases X with
  | nil => exact absurd rfl hX
  | cons b r =>
    rw [List.cons_append, tok_cons] at h hl ⊢
    rw [tok_cons]
    split
    · rename_i hb
      rw [if_pos hb] at h hl
      unfold fwd at h hl ⊢
      split at h
      · exact absurd rfl h
      · rename_i h16
        rw [if_neg h16] at hl ⊢
        rw [← List.cons_append] at hl h16 ⊢
        rw [tw_cut isLD E (b :: r) hl, if_neg h16]
    · rename_i hb
      rw [if_neg hb] at h hl
      split
      · rename_i hd
        rw [if_pos hd] at h hl
        unfold fnm at h hl ⊢
        split at h
        · rename_i h16
          rw [if_pos h16] at hl ⊢
          rw [← List.cons_append] at hl h16 ⊢
          rw [tw_cut digB E (b :: r) hl, if_pos h16]
        · exact absurd rfl h
      · rename_i hd
        rw [if_neg hd] at h hl
        rw [← List.cons_append] at h hl ⊢
        exact fsg_cut E sgs (b :: r) h hl
/-- Where the fault's place is come to: the tokens ahead of it are those of the text that ends there. -/
theorem cut_tok {X E : Bs} (hX : X ≠ []) (hs : spk false (X ++ E) = X ++ E) (h : Rch (X ++ E) E) : tok X = tok (X ++ E) ∧ tok X ≠ [] ∧ Rch (adv (X ++ E)) E ∧ ((adv X ≠ [] ∧ adv (X ++ E) = adv X ++ E) ∨ (adv X = [] ∧ adv (X ++ E) = E)) := by
  have ha : Rch (adv (X ++ E)) E := by
    generalize hR : X ++ E = R at h
    cases h with
    | refl => exact absurd hR (app_ne hX)
    | step k => exact k
  have ht : tok (X ++ E) ≠ [] := fun e => by
    have hf : adv (X ++ E) = X ++ E := by unfold adv; rw [e]; exact hs
    exact app_ne hX (rch_fix hf h)
  have hsf := ha.suf.trans (spk_suf false ((X ++ E).drop (tok (X ++ E)).length))
  have hl : (tok (X ++ E)).length ≤ X.length := by
    have h1 := hsf.length_le
    rw [List.length_drop, List.length_append] at h1
    have h2 := tok_le (X ++ E)
    rw [List.length_append] at h2
    omega
  have e := tok_cut hX ht hl
  refine ⟨e, by rw [e]; exact ht, ha, ?_⟩
  have ed : (X ++ E).drop (tok (X ++ E)).length = X.drop (tok (X ++ E)).length ++ E := List.drop_append_of_le_length hl
  unfold adv
  rw [e, ed]
  cases hx : spk false (X.drop (tok (X ++ E)).length) with
  | nil =>
    right
    refine ⟨rfl, ?_⟩
    obtain ⟨c, hc⟩ := spk_end false _ E hx
    rw [hc]
    have h3 := ha.suf
    unfold adv at h3
    rw [ed, hc] at h3
    exact (suf_len h3 (spk_suf c E).length_le).symm
  | cons b r =>
    left
    refine ⟨by simp, ?_⟩
    rw [spk_app _ _ _ (by rw [hx]; simp), hx]
def RT {α : Type} (R : Bs) (x : Except Bs (α × Bs)) : Prop := match x with
  | .error E => Rch R E
  | .ok z => Rch R z.2
/-- With a text behind it: the same, but where it ended at the end. -/
def ExtT {α : Type} (t : Bs) (x y : Except Bs (α × Bs)) : Prop := match x with
  | .error E => E ≠ [] → y = .error (E ++ t)
  | .ok z => z.2 ≠ [] → y = .ok (z.1, z.2 ++ t)
/-- It ends at the end. -/
def NilT {α : Type} (y : Except Bs (α × Bs)) : Prop := match y with
  | .error E => E = []
  | .ok z => z.2 = []
/-- The text that ends where E began. -/
def TrcT {α : Type} (E : Bs) (x y : Except Bs (α × Bs)) : Prop := match x with
  | .error E1 => E1 = E → NilT y
  | .ok z => (z.2 = E → NilT y) ∧ ∀ X1, X1 ≠ [] → z.2 = X1 ++ E → y = .ok (z.1, X1)
/-- A step of the reader. -/
structure Loc {α : Type} (f : Bs → Except Bs (α × Bs)) : Prop where
  rt : ∀ R, RT R (f R)
  ext : ∀ t R, R ≠ [] → ExtT (10 :: t) (f R) (f (R ++ 10 :: t))
  trc : ∀ E X, X ≠ [] → spk false (X ++ E) = X ++ E → Rch (X ++ E) E → TrcT E (f (X ++ E)) (f X)
theorem RT.up {α : Type} {R R' : Bs} {x : Except Bs (α × Bs)} (h : RT R x) (k : Rch R' R) : RT R' x := by
  cases x <;> exact k.trans h
theorem RT.nil {α : Type} {x : Except Bs (α × Bs)} (h : RT [] x) : NilT x := by
  cases x <;> exact suf_nil (Rch.suf h)
theorem rch_spk {R E : Bs} (h : Rch R E) (hR : spk false R = R) : spk false E = E := by
  induction h with
  | refl => exact hR
  | step _ ih =>
    refine ih ?_
    have : ∀ (c : Bool) (l : Bs), spk false (spk c l) = spk c l := by
      intro c l
      induction l generalizing c with
      | nil => rfl
      | cons b r ihl =>
        cases c with
        | true =>
          rw [spk]
          split <;> exact ihl _
        | false =>
          rw [spk]
          split
          · exact ihl _
          · split
            · exact ihl _
            · rename_i h1 h2
              rw [spk, if_neg h1, if_neg h2]
    exact this _ _
theorem Loc.ok {α : Type} (a : α) : Loc (fun R => (.ok (a, R) : Except Bs (α × Bs))) :=
  ⟨fun R => .refl R, fun _ _ _ _ => rfl, fun _ _ hX _ _ => ⟨fun e => absurd e (app_ne hX), fun X1 _ e => by rw [List.append_cancel_right e]⟩⟩
theorem Loc.er {α : Type} : Loc (fun R => (.error R : Except Bs (α × Bs))) :=
  ⟨fun R => .refl R, fun _ _ _ _ => rfl, fun _ _ hX _ _ e => absurd e (app_ne hX)⟩
theorem thn_rt {α β : Type} {R : Bs} {x : Except Bs (α × Bs)} {f : α → Bs → Except Bs (β × Bs)} (h : RT R x) (k : ∀ a R, RT R (f a R)) : RT R (thn x f) := by
  cases x with
  | error E => exact h
  | ok z => exact (k z.1 z.2).up h
theorem NilT.thn {α β : Type} {y : Except Bs (α × Bs)} {f : α → Bs → Except Bs (β × Bs)} (h : NilT y) (k : ∀ a R, RT R (f a R)) : NilT (thn y f) := by
  cases y with
  | error E => exact h
  | ok z =>
    obtain ⟨a, R⟩ := z
    have h : R = [] := h
    subst h
    exact (k a []).nil
theorem Loc.thn {α β : Type} {x : Bs → Except Bs (α × Bs)} {f : α → Bs → Except Bs (β × Bs)} (hx : Loc x) (hf : ∀ a, Loc (f a)) : Loc (fun R => thn (x R) f) := by
  have hr := fun a R => (hf a).rt R
  refine ⟨fun R => thn_rt (hx.rt R) hr, fun t R hR => ?_, fun E X hX hs hE => ?_⟩
  · have h1 := hx.ext t R hR
    cases h : x R with
    | error E =>
      rw [h] at h1
      intro hE
      have h1 : x (R ++ 10 :: t) = .error (E ++ 10 :: t) := h1 hE
      show Go.Proofs.YtckjnjdmnhmgeaaGreatDoor.thn (x (R ++ 10 :: t)) f = _
      rw [h1]; rfl
    | ok z =>
      obtain ⟨a, R1⟩ := z
      rw [h] at h1
      by_cases hn : R1 = []
      · subst hn
        show ExtT (10 :: t) (f a []) _
        have h2 := (hr a []).nil
        cases h3 : f a [] with
        | error E => rw [h3] at h2; intro e; exact absurd h2 e
        | ok z => rw [h3] at h2; intro e; exact absurd h2 e
      · have h1 : x (R ++ 10 :: t) = .ok (a, R1 ++ 10 :: t) := h1 hn
        show ExtT (10 :: t) (f a R1) (Go.Proofs.YtckjnjdmnhmgeaaGreatDoor.thn (x (R ++ 10 :: t)) f)
        rw [h1]
        exact (hf a).ext t R1 hn
  · have h1 := hx.trc E X hX hs hE
    have h0 := hx.rt (X ++ E)
    cases h : x (X ++ E) with
    | error E1 =>
      rw [h] at h1
      intro e
      exact (h1 e).thn hr
    | ok z =>
      obtain ⟨a, R1⟩ := z
      rw [h] at h1 h0
      obtain ⟨h2, h3⟩ := h1
      have h0 : Rch (X ++ E) R1 := h0
      show TrcT E (f a R1) (Go.Proofs.YtckjnjdmnhmgeaaGreatDoor.thn (x X) f)
      rcases h0.comp hE with hc | hc
      · obtain ⟨X1, e1⟩ := hc.suf
        by_cases hn : X1 = []
        · subst hn
          have e1 : E = R1 := e1
          have hN := (h2 e1.symm).thn (f := f) hr
          have h4 := hr a R1
          cases h5 : f a R1 with
          | error E1 => exact fun _ => hN
          | ok z =>
            rw [h5] at h4
            refine ⟨fun _ => hN, fun X2 hX2 e2 => ?_⟩
            have h4 : z.2 <:+ R1 := Rch.suf h4
            rw [e2, ← e1] at h4
            exact absurd (suf_len h4 (by rw [List.length_append]; omega)) (app_ne hX2)
        · have h6 : x X = .ok (a, X1) := h3 X1 hn e1.symm
          rw [h6, ← e1]
          rw [← e1] at hc h0
          exact (hf a).trc E X1 hn (rch_spk h0 hs) hc
      · have hlt := hc.suf
        have h4 := hr a R1
        by_cases he : R1 = E
        · have hN := (h2 he).thn (f := f) hr
          cases h5 : f a R1 with
          | error E1 => exact fun _ => hN
          | ok z =>
            rw [h5] at h4
            refine ⟨fun _ => hN, fun X2 hX2 e2 => ?_⟩
            have h4 : z.2 <:+ R1 := Rch.suf h4
            rw [e2, he] at h4
            exact absurd (suf_len h4 (by rw [List.length_append]; omega)) (app_ne hX2)
        · have hl : R1.length < E.length := by
            have := hlt.length_le
            rcases Nat.lt_or_ge R1.length E.length with h | h
            · exact h
            · exact absurd (suf_len hlt h) he
          cases h5 : f a R1 with
          | error E1 =>
            rw [h5] at h4
            intro e
            have h4 : E1 <:+ R1 := Rch.suf h4
            have := h4.length_le
            rw [e] at this
            omega
          | ok z =>
            rw [h5] at h4
            have h4 : z.2 <:+ R1 := Rch.suf h4
            have h7 := h4.length_le
            refine ⟨fun e => ?_, fun X2 hX2 e2 => ?_⟩
            · rw [e] at h7; omega
            · rw [e2, List.length_append] at h7; omega
/-- A step that looks at its first token. -/
theorem Loc.tok {α : Type} {g : Bs → Bs → Except Bs (α × Bs)} (h : ∀ w, Loc (g w)) : Loc (fun R => g (tok R) R) := by
  refine ⟨fun R => (h _).rt R, fun t R hR => ?_, fun E X hX hs hE => ?_⟩
  · show ExtT _ (g (Go.Proofs.YtckjnjdmnhmgeaaGreatDoor.tok R) R) (g (Go.Proofs.YtckjnjdmnhmgeaaGreatDoor.tok (R ++ 10 :: t)) (R ++ 10 :: t))
    rw [tok_app_nl t hR]
    exact (h _).ext t R hR
  · show TrcT E (g (Go.Proofs.YtckjnjdmnhmgeaaGreatDoor.tok (X ++ E)) (X ++ E)) (g (Go.Proofs.YtckjnjdmnhmgeaaGreatDoor.tok X) X)
    rw [(cut_tok hX hs hE).1]
    exact (h _).trc E X hX hs hE
theorem Loc.ite {α : Type} {p : Prop} [Decidable p] {f g : Bs → Except Bs (α × Bs)} (hf : Loc f) (hg : Loc g) : Loc (fun R => if p then f R else g R) := by
  by_cases h : p
  · simp only [if_pos h]; exact hf
  · simp only [if_neg h]; exact hg
/-- The next token. -/
def nxtT (R : Bs) : Except Bs (Unit × Bs) := match nxt R with
  | .error E => .error E
  | .ok R1 => .ok ((), R1)
theorem thr_thn {β : Type} (x : Except Bs Bs) (f : Bs → Except Bs (β × Bs)) : thr x f = thn (match x with | .error E => .error E | .ok R1 => .ok ((), R1) : Except Bs (Unit × Bs)) (fun _ R => f R) := by
  cases x <;> rfl
theorem nxt_loc : Loc nxtT := by
  refine ⟨fun R => ?_, fun t R hR => ?_, fun E X hX hs hE => ?_⟩
  · unfold nxtT nxt
    by_cases h : badB (adv R) = true
    · rw [if_pos h]; exact .step (.refl _)
    · rw [if_neg h]; exact .step (.refl _)
  · unfold nxtT nxt
    by_cases hn : adv R = []
    · rw [hn]
      rw [if_neg (by decide)]
      intro e; exact absurd rfl e
    · rw [adv_app_nl t hR hn, badB_app_nl t hn]
      by_cases h : badB (adv R) = true
      · rw [if_pos h, if_pos h]; intro _; rfl
      · rw [if_neg h, if_neg h]; intro _; rfl
  · obtain ⟨h1, h2, h3, h4⟩ := cut_tok hX hs hE
    unfold nxtT nxt
    rcases h4 with ⟨h4, h5⟩ | ⟨h4, h5⟩
    · rw [h5] at h3 ⊢
      have hs2 : spk false (adv X ++ E) = adv X ++ E := rch_spk (.step (by rw [h5]; exact .refl _)) hs
      obtain ⟨-, h6, -, -⟩ := cut_tok h4 hs2 h3
      have hb : badB (adv X) = false := by
        unfold badB
        cases ht : Go.Proofs.YtckjnjdmnhmgeaaGreatDoor.tok (adv X) with
        | nil => exact absurd ht h6
        | cons b r => rfl
      rw [if_neg (show ¬ badB (adv X) = true by rw [hb]; decide)]
      by_cases h : badB (adv X ++ E) = true
      · rw [if_pos h]; intro e; exact absurd e (app_ne h4)
      · rw [if_neg h]
        exact ⟨fun e => absurd e (app_ne h4), fun X1 _ e => by rw [List.append_cancel_right e]⟩
    · rw [h4, h5]
      rw [if_neg (show ¬ badB [] = true by decide)]
      by_cases h : badB E = true
      · rw [if_pos h]; intro _; rfl
      · rw [if_neg h]
        refine ⟨fun _ => rfl, fun X1 hX1 e => ?_⟩
        exact absurd e.symm (app_ne hX1)
theorem Loc.nxt {β : Type} {f : Bs → Except Bs (β × Bs)} (hf : Loc f) : Loc (fun R => thr (nxt R) f) := by
  have : (fun R => thr (Go.Proofs.YtckjnjdmnhmgeaaGreatDoor.nxt R) f) = fun R => Go.Proofs.YtckjnjdmnhmgeaaGreatDoor.thn (nxtT R) (fun _ R => f R) := by
    funext R
    rw [thr_thn]
    unfold nxtT
    rfl
  rw [this]
  exact Loc.thn nxt_loc fun _ => hf
theorem Loc.need {β : Type} (w : Bs) {f : Bs → Except Bs (β × Bs)} (hf : Loc f) : Loc (fun R => thr (need w R) f) := by
  have : (fun R => thr (Go.Proofs.YtckjnjdmnhmgeaaGreatDoor.need w R) f) = fun R => (fun v R => if v = w then thr (Go.Proofs.YtckjnjdmnhmgeaaGreatDoor.nxt R) f else .error R) (Go.Proofs.YtckjnjdmnhmgeaaGreatDoor.tok R) R := by
    funext R
    unfold Go.Proofs.YtckjnjdmnhmgeaaGreatDoor.need
    dsimp only
    split <;> rfl
  rw [this]
  exact Loc.tok (g := fun v R => if v = w then thr (Go.Proofs.YtckjnjdmnhmgeaaGreatDoor.nxt R) f else .error R) fun v => Loc.ite (Loc.nxt hf) Loc.er
def numT (v R : Bs) : Except Bs (Tr × Bs) := if prsE v = 0 then thr (nxt R) fun R1 => .ok (.mk 1 (prsV v) [] [], R1) else .error R
theorem num_loc : Loc num := by
  have : num = fun R => numT (tok R) R := rfl
  rw [this]
  exact Loc.tok (g := numT) fun v => Loc.ite (Loc.nxt (Loc.ok _)) Loc.er
def lpT (d : Nat) (left : Tr) (str least : Nat) (v R : Bs) : Except Bs (Tr × Bs) := if (bnd v).1 < least ∨ str < (bnd v).2 then .ok (left, R) else thr (nxt R) fun R1 => thn (ex d ((bnd v).1 + 1) R1) fun t R2 => lp d (.mk 7 0 v [left, t]) (bnd v).1 least R2
def opdT (d : Nat) (v R : Bs) : Except Bs (Tr × Bs) :=
  if v = [45] then thr (nxt R) fun R1 => thn (opd d R1) fun t R2 => .ok (.mk 5 0 [] [t], R2)
  else if v = [33] then thr (nxt R) fun R1 => thn (opd d R1) fun t R2 => .ok (.mk 6 0 [] [t], R2)
  else lst d R
def lstT (d : Nat) (v R : Bs) : Except Bs (Tr × Bs) :=
  if v = [91] then thn (obj d R) fun t R1 => .ok (.mk 3 0 [] [t], R1)
  else if v = kTake then thr (nxt R) fun R1 => thn (obj d R1) fun t R2 => .ok (.mk 4 0 [] [t], R2)
  else if v = kMin ∨ v = kMax then pr d R
  else if v = [40] then thr (nxt R) fun R1 => thn (ex d 1 R1) fun t R2 => thr (need [41] R2) fun R3 => .ok (t, R3)
  else if isNm v then thr (nxt R) fun R1 => .ok (.mk 2 0 v [], R1)
  else num R
def prT (d : Nat) (v R : Bs) : Except Bs (Tr × Bs) := thr (nxt R) fun R1 => thr (need [40] R1) fun R2 => thn (ex d 1 R2) fun a R3 => thr (need [44] R3) fun R4 => thn (ex d 1 R4) fun b R5 => thr (need [41] R5) fun R6 => .ok (.mk 7 0 v [a, b], R6)
theorem fun_ex (d least : Nat) : ex (d + 1) least = fun R => thn (opd d R) fun t R1 => lp d t 7 least R1 := by funext R; rw [ex]
theorem fun_lp (d : Nat) (left : Tr) (str least : Nat) : lp (d + 1) left str least = fun R => lpT d left str least (tok R) R := by funext R; rw [lp]; rfl
theorem fun_opd (d : Nat) : opd (d + 1) = fun R => opdT d (tok R) R := by funext R; rw [opd]; rfl
theorem fun_lst (d : Nat) : lst (d + 1) = fun R => lstT d (tok R) R := by funext R; rw [lst]; rfl
theorem fun_obj (d : Nat) : obj (d + 1) = fun R => thr (need [91] R) fun R1 => thn (ex d 1 R1) fun t R2 => thr (need [93] R2) fun R3 => .ok (t, R3) := by funext R; rw [obj]
theorem fun_pr (d : Nat) : pr (d + 1) = fun R => prT d (tok R) R := by funext R; rw [pr]; rfl
theorem rd_loc : ∀ d : Nat, (∀ least, Loc (ex d least)) ∧ (∀ left str least, Loc (lp d left str least)) ∧ Loc (opd d) ∧ Loc (lst d) ∧ Loc (obj d) ∧ Loc (pr d)
  | 0 => by
    have e1 : ∀ least, ex 0 least = fun R => .error R := fun _ => by funext R; rw [ex]
    have e2 : ∀ left str least, lp 0 left str least = fun R => .error R := fun _ _ _ => by funext R; rw [lp]
    have e3 : opd 0 = fun R => .error R := by funext R; rw [opd]
    have e4 : lst 0 = fun R => .error R := by funext R; rw [lst]
    have e5 : obj 0 = fun R => .error R := by funext R; rw [obj]
    have e6 : pr 0 = fun R => .error R := by funext R; rw [pr]
    refine ⟨fun _ => ?_, fun _ _ _ => ?_, ?_, ?_, ?_, ?_⟩
    · rw [e1]; exact Loc.er
    · rw [e2]; exact Loc.er
    · rw [e3]; exact Loc.er
    · rw [e4]; exact Loc.er
    · rw [e5]; exact Loc.er
    · rw [e6]; exact Loc.er
  | d + 1 => by
    obtain ⟨i1, i2, i3, i4, i5, i6⟩ := rd_loc d
    refine ⟨fun least => ?_, fun left str least => ?_, ?_, ?_, ?_, ?_⟩
    · rw [fun_ex]
      exact Loc.thn i3 fun t => i2 _ _ _
    · rw [fun_lp]
      exact Loc.tok (g := lpT d left str least) fun v => Loc.ite (Loc.ok _) (Loc.nxt (Loc.thn (i1 _) fun t => i2 _ _ _))
    · rw [fun_opd]
      exact Loc.tok (g := opdT d) fun v => Loc.ite (Loc.nxt (Loc.thn i3 fun t => Loc.ok _)) (Loc.ite (Loc.nxt (Loc.thn i3 fun t => Loc.ok _)) i4)
    · rw [fun_lst]
      exact Loc.tok (g := lstT d) fun v => Loc.ite (Loc.thn i5 fun t => Loc.ok _) (Loc.ite (Loc.nxt (Loc.thn i5 fun t => Loc.ok _)) (Loc.ite i6 (Loc.ite (Loc.nxt (Loc.thn (i1 _) fun t => Loc.need _ (Loc.ok _))) (Loc.ite (Loc.nxt (Loc.ok _)) num_loc))))
    · rw [fun_obj]
      exact Loc.need _ (Loc.thn (i1 _) fun t => Loc.need _ (Loc.ok _))
    · rw [fun_pr]
      exact Loc.tok (g := prT d) fun v => Loc.nxt (Loc.need _ (Loc.thn (i1 _) fun a => Loc.need _ (Loc.thn (i1 _) fun b => Loc.need _ (Loc.ok _))))
def smpT (v R : Bs) : Except Bs (St × Bs) :=
  if v = [91] then thn (obj FU R) fun a R1 => thr (need [58, 61] R1) fun R2 => thn (ex FU 1 R2) fun b R3 => .ok (.mk 2 [] a b [] [], R3)
  else if v = kRel then thr (nxt R) fun R1 => thn (obj FU R1) fun a R2 => .ok (.mk 3 [] a tr0 [] [], R2)
  else if v = kAbort then thr (nxt R) fun R1 => .ok (.mk 6 [] tr0 tr0 [] [], R1)
  else if v = kRet then thr (nxt R) fun R1 => thn (ex FU 1 R1) fun a R2 => .ok (.mk 7 [] a tr0 [] [], R2)
  else if isNm v then thr (nxt R) fun R1 => thr (need [58, 61] R1) fun R2 => thn (ex FU 1 R2) fun a R3 => .ok (.mk 1 v a tr0 [] [], R3)
  else .error R
theorem smp_loc : Loc smp := by
  have i1 := (rd_loc FU).1
  have i5 := (rd_loc FU).2.2.2.2.1
  have : smp = fun R => smpT (tok R) R := rfl
  rw [this]
  exact Loc.tok (g := smpT) fun v => Loc.ite (Loc.thn i5 fun a => Loc.need _ (Loc.thn (i1 _) fun b => Loc.ok _)) (Loc.ite (Loc.nxt (Loc.thn i5 fun a => Loc.ok _)) (Loc.ite (Loc.nxt (Loc.ok _)) (Loc.ite (Loc.nxt (Loc.thn (i1 _) fun a => Loc.ok _)) (Loc.ite (Loc.nxt (Loc.need _ (Loc.thn (i1 _) fun a => Loc.ok _))) Loc.er))))
def stsT (d : Nat) (en v R : Bs) : Except Bs (List St × Bs) := if v = en then .ok ([], R) else thn (stm d R) fun s R1 => thn (sts d en R1) fun l R2 => .ok (s :: l, R2)
def stmT (d : Nat) (v R : Bs) : Except Bs (St × Bs) :=
  if v = kIf then brn d R
  else if v = kWhile then thr (nxt R) fun R1 => thn (ex FU 1 R1) fun a R2 => thn (blk d R2) fun l R3 => .ok (.mk 5 [] a tr0 l [], R3)
  else thn (smp R) fun s R1 => thr (need [59] R1) fun R2 => .ok (s, R2)
def elsT (d : Nat) (a : Tr) (l : List St) (v R3 : Bs) : Except Bs (St × Bs) := if v = kElse then thr (nxt R3) fun R4 => thn (oth d R4) fun m R5 => .ok (.mk 4 [] a tr0 l m, R5) else .ok (.mk 4 [] a tr0 l [], R3)
def othT (d : Nat) (v R : Bs) : Except Bs (List St × Bs) := if v = kIf then thn (brn d R) fun s R1 => .ok ([s], R1) else blk d R
theorem fun_sts (d : Nat) (en : Bs) : sts (d + 1) en = fun R => stsT d en (tok R) R := by funext R; rw [sts]; rfl
theorem fun_stm (d : Nat) : stm (d + 1) = fun R => stmT d (tok R) R := by funext R; rw [stm]; rfl
theorem fun_brn (d : Nat) : brn (d + 1) = fun R => thr (need kIf R) fun R1 => thn (ex FU 1 R1) fun a R2 => thn (blk d R2) fun l R3 => elsT d a l (tok R3) R3 := by funext R; rw [brn]; rfl
theorem fun_oth (d : Nat) : oth (d + 1) = fun R => othT d (tok R) R := by funext R; rw [oth]; rfl
theorem fun_blk (d : Nat) : blk (d + 1) = fun R => thr (need [123] R) fun R1 => thn (sts d [125] R1) fun l R2 => thr (need [125] R2) fun R3 => .ok (l, R3) := by funext R; rw [blk]
theorem rs_loc : ∀ d : Nat, (∀ en, Loc (sts d en)) ∧ Loc (stm d) ∧ Loc (brn d) ∧ Loc (oth d) ∧ Loc (blk d)
  | 0 => by
    have e1 : ∀ en, sts 0 en = fun R => .error R := fun _ => by funext R; rw [sts]
    have e2 : stm 0 = fun R => .error R := by funext R; rw [stm]
    have e3 : brn 0 = fun R => .error R := by funext R; rw [brn]
    have e4 : oth 0 = fun R => .error R := by funext R; rw [oth]
    have e5 : blk 0 = fun R => .error R := by funext R; rw [blk]
    refine ⟨fun _ => ?_, ?_, ?_, ?_, ?_⟩
    · rw [e1]; exact Loc.er
    · rw [e2]; exact Loc.er
    · rw [e3]; exact Loc.er
    · rw [e4]; exact Loc.er
    · rw [e5]; exact Loc.er
  | d + 1 => by
    have i0 := (rd_loc FU).1
    obtain ⟨i1, i2, i3, i4, i5⟩ := rs_loc d
    refine ⟨fun en => ?_, ?_, ?_, ?_, ?_⟩
    · rw [fun_sts]
      exact Loc.tok (g := stsT d en) fun v => Loc.ite (Loc.ok _) (Loc.thn i2 fun s => Loc.thn (i1 _) fun l => Loc.ok _)
    · rw [fun_stm]
      exact Loc.tok (g := stmT d) fun v => Loc.ite i3 (Loc.ite (Loc.nxt (Loc.thn (i0 _) fun a => Loc.thn i5 fun l => Loc.ok _)) (Loc.thn smp_loc fun s => Loc.need _ (Loc.ok _)))
    · rw [fun_brn]
      exact Loc.need _ (Loc.thn (i0 _) fun a => Loc.thn i5 fun l => Loc.tok (g := elsT d a l) fun v => Loc.ite (Loc.nxt (Loc.thn i4 fun m => Loc.ok _)) (Loc.ok _))
    · rw [fun_oth]
      exact Loc.tok (g := othT d) fun v => Loc.ite (Loc.thn i3 fun s => Loc.ok _) i5
    · rw [fun_blk]
      exact Loc.need _ (Loc.thn (i1 _) fun l => Loc.need _ (Loc.ok _))
theorem spk_spk (c : Bool) (l : Bs) : spk false (spk c l) = spk c l := by
  induction l generalizing c with
  | nil => rfl
  | cons b r ihl =>
    cases c with
    | true =>
      rw [spk]
      split <;> exact ihl _
    | false =>
      rw [spk]
      split
      · exact ihl _
      · split
        · exact ihl _
        · rename_i h1 h2
          rw [spk, if_neg h1, if_neg h2]
/-- Whatever stands behind, the fault is the same. -/
theorem prs0_ext {T E : Bs} (h : prs0 T = .error E) (hE : E ≠ []) (t : Bs) : prs0 (T ++ 10 :: t) = .error (E ++ 10 :: t) := by
  have hs := prs0_suf h
  unfold prs0 at h ⊢
  have hR : spk false T ≠ [] := by
    intro e
    rw [e, if_neg (by decide)] at h
    have := ((rs_loc FU).1 []).rt []
    rw [h] at this
    exact hE (suf_nil (Rch.suf this))
  rw [spk_app _ _ _ hR, badB_app_nl t hR]
  by_cases hb : badB (spk false T) = true
  · rw [if_pos hb] at h ⊢
    injection h with h
    rw [h]
  · rw [if_neg hb] at h ⊢
    have := ((rs_loc FU).1 []).ext t _ hR
    rw [h] at this
    exact this hE
/-- The text up to the fault has no fault but that it ends. -/
theorem prs0_cut {A E : Bs} (h : prs0 (A ++ E) = .error E) {E' : Bs} (h' : prs0 A = .error E') : E' = [] := by
  unfold prs0 at h h'
  by_cases hA : spk false A = []
  · rw [hA, if_neg (by decide)] at h'
    have := ((rs_loc FU).1 []).rt []
    rw [h'] at this
    exact suf_nil (Rch.suf this)
  rw [spk_app _ _ _ hA] at h
  have hss : spk false (spk false A ++ E) = spk false A ++ E := by
    rw [← spk_app _ _ _ hA]; exact spk_spk _ _
  by_cases hb : badB (spk false A ++ E) = true
  · rw [if_pos hb] at h
    injection h with h
    exact absurd h (app_ne hA)
  rw [if_neg hb] at h
  have hr := ((rs_loc FU).1 []).rt (spk false A ++ E)
  rw [h] at hr
  have hr : Rch (spk false A ++ E) E := hr
  have ht := cut_tok hA hss hr
  have hb' : badB (spk false A) = false := by
    unfold badB
    cases hx : tok (spk false A) with
    | nil => exact absurd hx ht.2.1
    | cons b r => rfl
  rw [hb', if_neg (by decide)] at h'
  have := ((rs_loc FU).1 []).trc E _ hA hss hr
  rw [h, h'] at this
  exact this rfl
end Go.Proofs.YtckjnjdmnhmgeaaGreatDoor
