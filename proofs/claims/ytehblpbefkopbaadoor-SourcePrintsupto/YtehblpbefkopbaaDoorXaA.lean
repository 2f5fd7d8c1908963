import Derived.Test.YtehblpbefkopbaaDoorDigits
namespace Go.Proofs.YtehblpbefkopbaaDoor
/-! Source texts: tokens and trees, without memory. -/
abbrev Bs := List UInt8
def isL (b : UInt8) : Bool := decide (97 ≤ b.toNat) && decide (b.toNat ≤ 122)
def isLD (b : UInt8) : Bool := isL b || digB b
/-- The text from its first token on; in a comment or not. -/
def spk : Bool → Bs → Bs
  | _, [] => []
  | true, b :: r => if b = 10 then spk false r else spk true r
  | false, b :: r => if b = 32 ∨ b = 9 ∨ b = 10 then spk false r else if b = 35 then spk true r else b :: r
def sgs : List Bs := [[58, 61], [124, 124], [38, 38], [61, 61], [33, 61], [60, 61], [62, 61], [60, 60], [62, 62], [59], [91], [93], [123], [125], [40], [41], [44], [60], [62], [43], [45], [124], [94], [42], [47], [37], [38], [33]]
def fsgL : List Bs → Bs → Bs
  | [], _ => []
  | s :: r, l => if s.isPrefixOf l then s else fsgL r l
def fwd (l : Bs) : Bs := if 16 < (l.takeWhile isLD).length then [] else l.takeWhile isLD
def fnm (l : Bs) : Bs := if prsE (l.takeWhile digB) = 0 then l.takeWhile digB else []
/-- The token with which a text begins; [] : none. -/
def tok : Bs → Bs
  | [] => []
  | b :: r => if isL b then fwd (b :: r) else if digB b then fnm (b :: r) else fsgL sgs (b :: r)
def adv (R : Bs) : Bs := spk false (R.drop (tok R).length)
/-- No token begins there. -/
def badB (R : Bs) : Bool := (tok R).isEmpty && !R.isEmpty
def nxt (R : Bs) : Except Bs Bs := if badB (adv R) then .error (adv R) else .ok (adv R)
def need (w R : Bs) : Except Bs Bs := if tok R = w then nxt R else .error R
def kRel : Bs := [114, 101, 108, 101, 97, 115, 101]
def kIf : Bs := [105, 102]
def kElse : Bs := [101, 108, 115, 101]
def kWhile : Bs := [119, 104, 105, 108, 101]
def kAbort : Bs := [97, 98, 111, 114, 116]
def kRet : Bs := [114, 101, 116, 117, 114, 110]
def kTake : Bs := [116, 97, 107, 101]
def kMin : Bs := [109, 105, 110]
def kMax : Bs := [109, 97, 120]
def kpt : List Bs := [kRel, kIf, kElse, kWhile, kAbort, kRet, kTake, kMin, kMax]
def isNm : Bs → Bool
  | [] => false
  | b :: r => isL b && (fwd (b :: r) == b :: r) && !kpt.contains (b :: r)
/-- An operator's strength, and how strong its left operand must be. -/
def bnds : List (Bs × Nat × Nat) := [([124, 124], 1, 1), ([38, 38], 2, 2), ([61, 61], 3, 4), ([33, 61], 3, 4), ([60], 3, 4), ([60, 61], 3, 4), ([62], 3, 4), ([62, 61], 3, 4), ([43], 4, 4), ([45], 4, 4), ([124], 4, 4), ([94], 4, 4), ([42], 5, 5), ([47], 5, 5), ([37], 5, 5), ([38], 5, 5), ([60, 60], 5, 5), ([62, 62], 5, 5), (kMin, 7, 8), (kMax, 7, 8)]
def bndL : List (Bs × Nat × Nat) → Bs → Nat × Nat
  | [], _ => (0, 0)
  | x :: r, w => if x.1 = w then x.2 else bndL r w
def bnd (w : Bs) : Nat × Nat := bndL bnds w
/-- An expression: kind, number, word, parts. -/
inductive Tr
  | mk (k n : Int) (w : Bs) (ps : List Tr)
def tr0 : Tr := .mk 0 0 [] []
/-- A statement: kind, word, the two expressions, the two lists. -/
inductive St
  | mk (k : Int) (w : Bs) (a b : Tr) (th el : List St)
/-- A step of the reader, and what follows. -/
def thn {α β : Type} (x : Except Bs (α × Bs)) (f : α → Bs → Except Bs β) : Except Bs β := match x with
  | .error e => .error e
  | .ok (a, R) => f a R
def thr {β : Type} (x : Except Bs Bs) (f : Bs → Except Bs β) : Except Bs β := match x with
  | .error e => .error e
  | .ok R => f R
def num (R : Bs) : Except Bs (Tr × Bs) := if prsE (tok R) = 0 then thr (nxt R) fun R1 => .ok (.mk 1 (prsV (tok R)) [] [], R1) else .error R
mutual
def ex : Nat → Nat → Bs → Except Bs (Tr × Bs)
  | 0, _, R => .error R
  | d + 1, least, R => thn (opd d R) fun t R1 => lp d t 7 least R1
def lp : Nat → Tr → Nat → Nat → Bs → Except Bs (Tr × Bs)
  | 0, _, _, _, R => .error R
  | d + 1, left, str, least, R =>
    if (bnd (tok R)).1 < least ∨ str < (bnd (tok R)).2 then .ok (left, R)
    else thr (nxt R) fun R1 => thn (ex d ((bnd (tok R)).1 + 1) R1) fun t R2 => lp d (.mk 7 0 (tok R) [left, t]) (bnd (tok R)).1 least R2
def opd : Nat → Bs → Except Bs (Tr × Bs)
  | 0, R => .error R
  | d + 1, R =>
    if tok R = [45] then thr (nxt R) fun R1 => thn (opd d R1) fun t R2 => .ok (.mk 5 0 [] [t], R2)
    else if tok R = [33] then thr (nxt R) fun R1 => thn (opd d R1) fun t R2 => .ok (.mk 6 0 [] [t], R2)
    else lst d R
def lst : Nat → Bs → Except Bs (Tr × Bs)
  | 0, R => .error R
  | d + 1, R =>
    if tok R = [91] then thn (obj d R) fun t R1 => .ok (.mk 3 0 [] [t], R1)
    else if tok R = kTake then thr (nxt R) fun R1 => thn (obj d R1) fun t R2 => .ok (.mk 4 0 [] [t], R2)
    else if tok R = kMin ∨ tok R = kMax then pr d R
    else if tok R = [40] then thr (nxt R) fun R1 => thn (ex d 1 R1) fun t R2 => thr (need [41] R2) fun R3 => .ok (t, R3)
    else if isNm (tok R) then thr (nxt R) fun R1 => .ok (.mk 2 0 (tok R) [], R1)
    else num R
def obj : Nat → Bs → Except Bs (Tr × Bs)
  | 0, R => .error R
  | d + 1, R => thr (need [91] R) fun R1 => thn (ex d 1 R1) fun t R2 => thr (need [93] R2) fun R3 => .ok (t, R3)
def pr : Nat → Bs → Except Bs (Tr × Bs)
  | 0, R => .error R
  | d + 1, R => thr (nxt R) fun R1 => thr (need [40] R1) fun R2 => thn (ex d 1 R2) fun a R3 => thr (need [44] R3) fun R4 => thn (ex d 1 R4) fun b R5 => thr (need [41] R5) fun R6 => .ok (.mk 7 0 (tok R) [a, b], R6)
end
/-- How much fuel a text's expressions want. -/
def FU : Nat := 400000
def smp (R : Bs) : Except Bs (St × Bs) :=
  if tok R = [91] then thn (obj FU R) fun a R1 => thr (need [58, 61] R1) fun R2 => thn (ex FU 1 R2) fun b R3 => .ok (.mk 2 [] a b [] [], R3)
  else if tok R = kRel then thr (nxt R) fun R1 => thn (obj FU R1) fun a R2 => .ok (.mk 3 [] a tr0 [] [], R2)
  else if tok R = kAbort then thr (nxt R) fun R1 => .ok (.mk 6 [] tr0 tr0 [] [], R1)
  else if tok R = kRet then thr (nxt R) fun R1 => thn (ex FU 1 R1) fun a R2 => .ok (.mk 7 [] a tr0 [] [], R2)
  else if isNm (tok R) then thr (nxt R) fun R1 => thr (need [58, 61] R1) fun R2 => thn (ex FU 1 R2) fun a R3 => .ok (.mk 1 (tok R) a tr0 [] [], R3)
  else .error R
mutual
def sts : Nat → Bs → Bs → Except Bs (List St × Bs)
  | 0, _, R => .error R
  | d + 1, en, R => if tok R = en then .ok ([], R) else thn (stm d R) fun s R1 => thn (sts d en R1) fun l R2 => .ok (s :: l, R2)
def stm : Nat → Bs → Except Bs (St × Bs)
  | 0, R => .error R
  | d + 1, R =>
    if tok R = kIf then brn d R
    else if tok R = kWhile then thr (nxt R) fun R1 => thn (ex FU 1 R1) fun a R2 => thn (blk d R2) fun l R3 => .ok (.mk 5 [] a tr0 l [], R3)
    else thn (smp R) fun s R1 => thr (need [59] R1) fun R2 => .ok (s, R2)
def brn : Nat → Bs → Except Bs (St × Bs)
  | 0, R => .error R
  | d + 1, R => thr (need kIf R) fun R1 => thn (ex FU 1 R1) fun a R2 => thn (blk d R2) fun l R3 =>
    if tok R3 = kElse then thr (nxt R3) fun R4 => thn (oth d R4) fun m R5 => .ok (.mk 4 [] a tr0 l m, R5) else .ok (.mk 4 [] a tr0 l [], R3)
def oth : Nat → Bs → Except Bs (List St × Bs)
  | 0, R => .error R
  | d + 1, R => if tok R = kIf then thn (brn d R) fun s R1 => .ok ([s], R1) else blk d R
def blk : Nat → Bs → Except Bs (List St × Bs)
  | 0, R => .error R
  | d + 1, R => thr (need [123] R) fun R1 => thn (sts d [125] R1) fun l R2 => thr (need [125] R2) fun R3 => .ok (l, R3)
end
/-- The statements of a text up to its end, or the rest from the fault on. -/
def prs0 (T : Bs) : Except Bs (List St × Bs) := if badB (spk false T) then .error (spk false T) else sts FU [] (spk false T)

/-! The lengths. -/
theorem spk_len : ∀ (c : Bool) (l : Bs), (spk c l).length ≤ l.length
  | _, [] => by simp [spk]
  | true, b :: r => by
    unfold spk
    split
    · exact Nat.le_succ_of_le (spk_len false r)
    · exact Nat.le_succ_of_le (spk_len true r)
  | false, b :: r => by
    unfold spk
    split
    · exact Nat.le_succ_of_le (spk_len false r)
    · split
      · exact Nat.le_succ_of_le (spk_len true r)
      · exact Nat.le_refl _
theorem spk_suf : ∀ (c : Bool) (l : Bs), spk c l <:+ l
  | _, [] => by simp [spk]
  | true, b :: r => by
    unfold spk
    split
    · exact (spk_suf false r).trans (List.suffix_cons _ _)
    · exact (spk_suf true r).trans (List.suffix_cons _ _)
  | false, b :: r => by
    unfold spk
    split
    · exact (spk_suf false r).trans (List.suffix_cons _ _)
    · split
      · exact (spk_suf true r).trans (List.suffix_cons _ _)
      · exact List.suffix_refl _
theorem adv_suf (R : Bs) : adv R <:+ R := (spk_suf _ _).trans (List.drop_suffix _ _)
theorem fsgL_pre : ∀ (s : List Bs) (l : Bs), fsgL s l <+: l
  | [], l => by simp [fsgL]
  | s :: r, l => by
    unfold fsgL
    split
    · rename_i h; exact List.isPrefixOf_iff_prefix.1 h
    · exact fsgL_pre r l
theorem tok_pre (R : Bs) : tok R <+: R := by
  unfold tok
  split
  · exact List.prefix_refl _
  · split
    · unfold fwd; split
      · exact List.nil_prefix
      · exact List.takeWhile_prefix _
    · split
      · unfold fnm; split
        · exact List.takeWhile_prefix _
        · exact List.nil_prefix
      · exact fsgL_pre _ _
theorem tok_len (R : Bs) : (tok R).length ≤ R.length := (tok_pre R).length_le
theorem adv_lt {R : Bs} (h : tok R ≠ []) : (adv R).length < R.length := by
  have h1 := spk_len false (R.drop (tok R).length)
  have h2 := tok_len R
  have h3 : 0 < (tok R).length := List.length_pos_iff.2 h
  rw [List.length_drop] at h1
  unfold adv
  omega
theorem nxt_ok {R R1 : Bs} (h : nxt R = .ok R1) : R1 = adv R ∧ badB (adv R) = false := by
  unfold nxt at h
  split at h
  · cases h
  · rename_i hb; injection h with h; exact ⟨h.symm, by simpa using hb⟩
theorem nxt_lt {R R1 : Bs} (h : nxt R = .ok R1) (ht : tok R ≠ []) : R1.length < R.length := by
  rw [(nxt_ok h).1]; exact adv_lt ht
theorem need_ok {w R R1 : Bs} (h : need w R = .ok R1) : tok R = w ∧ nxt R = .ok R1 := by
  unfold need at h
  split at h
  · exact ⟨by assumption, h⟩
  · cases h
theorem need_lt {w R R1 : Bs} (h : need w R = .ok R1) (hw : w ≠ []) : R1.length < R.length := nxt_lt (need_ok h).2 ((need_ok h).1 ▸ hw)
theorem thn_ok {α β : Type} {x : Except Bs (α × Bs)} {f : α → Bs → Except Bs β} {y : β} (h : thn x f = .ok y) : ∃ a R, x = .ok (a, R) ∧ f a R = .ok y := by
  unfold thn at h
  split at h
  · cases h
  · exact ⟨_, _, rfl, h⟩
theorem thr_ok {β : Type} {x : Except Bs Bs} {f : Bs → Except Bs β} {y : β} (h : thr x f = .ok y) : ∃ R, x = .ok R ∧ f R = .ok y := by
  unfold thr at h
  split at h
  · cases h
  · exact ⟨_, rfl, h⟩
theorem bndL_no : ∀ (l : List (Bs × Nat × Nat)), (l.all fun x => !x.1.isEmpty) = true → bndL l [] = (0, 0)
  | [], _ => rfl
  | x :: r, h => by
    unfold bndL
    rw [List.all_cons, Bool.and_eq_true] at h
    have : ¬ x.1 = [] := by
      intro e; rw [e] at h; simp at h
    rw [if_neg this]
    exact bndL_no r h.2
theorem bnd_nil : bnd [] = (0, 0) := bndL_no _ (by decide)
theorem num_lt {R : Bs} {t : Tr} {R1 : Bs} (h : num R = .ok (t, R1)) : R1.length < R.length := by
  unfold num at h
  split at h
  · rename_i hp
    obtain ⟨R2, h1, h2⟩ := thr_ok h
    injection h2 with h2
    injection h2 with _ h2
    subst h2
    refine nxt_lt h1 (fun e => ?_)
    rw [e] at hp
    exact absurd hp (by decide)
  · cases h
theorem kMin_ne : kMin ≠ [] := by decide
theorem kMax_ne : kMax ≠ [] := by decide
theorem isNm_ne {w : Bs} (h : isNm w = true) : w ≠ [] := by intro e; subst e; cases h
/-- What is read is gone. -/
theorem rd_lt : ∀ d : Nat,
    (∀ least R t R1, 1 ≤ least → ex d least R = .ok (t, R1) → R1.length < R.length) ∧
    (∀ left str least R t R1, 1 ≤ least → lp d left str least R = .ok (t, R1) → R1.length ≤ R.length) ∧
    (∀ R t R1, opd d R = .ok (t, R1) → R1.length < R.length) ∧
    (∀ R t R1, lst d R = .ok (t, R1) → R1.length < R.length) ∧
    (∀ R t R1, obj d R = .ok (t, R1) → R1.length < R.length) ∧
    (∀ R t R1, (tok R = kMin ∨ tok R = kMax) → pr d R = .ok (t, R1) → R1.length < R.length)
  | 0 => ⟨fun _ _ _ _ _ h => by simp [ex] at h, fun _ _ _ _ _ _ _ h => by simp [lp] at h, fun _ _ _ h => by simp [opd] at h, fun _ _ _ h => by simp [lst] at h, fun _ _ _ h => by simp [obj] at h, fun _ _ _ _ h => by simp [pr] at h⟩
  | d + 1 => by
    obtain ⟨i1, i2, i3, i4, i5, i6⟩ := rd_lt d
    refine ⟨fun least R t R1 hl h => ?_, fun left str least R t R1 hl h => ?_, fun R t R1 h => ?_, fun R t R1 h => ?_, fun R t R1 h => ?_, fun R t R1 hm h => ?_⟩
    · rw [ex] at h
      obtain ⟨a, R2, h1, h2⟩ := thn_ok h
      have := i3 _ _ _ h1
      have := i2 _ _ _ _ _ _ hl h2
      omega
    · rw [lp] at h
      split at h
      · injection h with h; injection h with _ h; subst h; exact Nat.le_refl _
      · rename_i hb
        obtain ⟨R2, h1, h2⟩ := thr_ok h
        obtain ⟨a, R3, h3, h4⟩ := thn_ok h2
        have h5 := nxt_lt h1 (fun e => hb (.inl (by rw [e, bnd_nil]; exact hl)))
        have := i1 _ _ _ _ (by omega) h3
        have := i2 _ _ _ _ _ _ hl h4
        omega
    · rw [opd] at h
      split at h
      · rename_i ht
        obtain ⟨R2, h1, h2⟩ := thr_ok h
        obtain ⟨a, R3, h3, h4⟩ := thn_ok h2
        injection h4 with h4; injection h4 with _ h4; subst h4
        have := nxt_lt h1 (by rw [ht]; decide)
        have := i3 _ _ _ h3
        omega
      · split at h
        · rename_i ht
          obtain ⟨R2, h1, h2⟩ := thr_ok h
          obtain ⟨a, R3, h3, h4⟩ := thn_ok h2
          injection h4 with h4; injection h4 with _ h4; subst h4
          have := nxt_lt h1 (by rw [ht]; decide)
          have := i3 _ _ _ h3
          omega
        · exact i4 _ _ _ h
    · rw [lst] at h
      split at h
      · obtain ⟨a, R3, h3, h4⟩ := thn_ok h
        injection h4 with h4; injection h4 with _ h4; subst h4
        exact i5 _ _ _ h3
      · split at h
        · rename_i ht
          obtain ⟨R2, h1, h2⟩ := thr_ok h
          obtain ⟨a, R3, h3, h4⟩ := thn_ok h2
          injection h4 with h4; injection h4 with _ h4; subst h4
          have := nxt_lt h1 (by rw [ht]; decide)
          have := i5 _ _ _ h3
          omega
        · split at h
          · rename_i ht; exact i6 _ _ _ ht h
          · split at h
            · rename_i ht
              obtain ⟨R2, h1, h2⟩ := thr_ok h
              obtain ⟨a, R3, h3, h4⟩ := thn_ok h2
              obtain ⟨R4, h5, h6⟩ := thr_ok h4
              injection h6 with h6; injection h6 with _ h6; subst h6
              have := nxt_lt h1 (by rw [ht]; decide)
              have := i1 _ _ _ _ (Nat.le_refl _) h3
              have := need_lt h5 (by decide)
              omega
            · split at h
              · rename_i ht
                obtain ⟨R2, h1, h2⟩ := thr_ok h
                injection h2 with h2; injection h2 with _ h2; subst h2
                exact nxt_lt h1 (isNm_ne ht)
              · exact num_lt h
    · rw [obj] at h
      obtain ⟨R2, h1, h2⟩ := thr_ok h
      obtain ⟨a, R3, h3, h4⟩ := thn_ok h2
      obtain ⟨R4, h5, h6⟩ := thr_ok h4
      injection h6 with h6; injection h6 with _ h6; subst h6
      have := need_lt h1 (by decide)
      have := i1 _ _ _ _ (Nat.le_refl _) h3
      have := need_lt h5 (by decide)
      omega
    · rw [pr] at h
      obtain ⟨R2, h1, h2⟩ := thr_ok h
      obtain ⟨R3, h3, h4⟩ := thr_ok h2
      obtain ⟨a, R4, h5, h6⟩ := thn_ok h4
      obtain ⟨R5, h7, h8⟩ := thr_ok h6
      obtain ⟨b, R6, h9, h10⟩ := thn_ok h8
      obtain ⟨R7, h11, h12⟩ := thr_ok h10
      injection h12 with h12; injection h12 with _ h12; subst h12
      have := nxt_lt h1 (by rcases hm with e | e <;> rw [e] <;> decide)
      have := need_lt h3 (by decide)
      have := i1 _ _ _ _ (Nat.le_refl _) h5
      have := need_lt h7 (by decide)
      have := i1 _ _ _ _ (Nat.le_refl _) h9
      have := need_lt h11 (by decide)
      omega
theorem smp_lt {R : Bs} {s : St} {R1 : Bs} (h : smp R = .ok (s, R1)) : R1.length < R.length := by
  have i1 := fun R t R1 => (rd_lt FU).1 1 R t R1 (Nat.le_refl _)
  have i5 := (rd_lt FU).2.2.2.2.1
  unfold smp at h
  split at h
  · obtain ⟨a, R2, h1, h2⟩ := thn_ok h
    obtain ⟨R3, h3, h4⟩ := thr_ok h2
    obtain ⟨b, R4, h5, h6⟩ := thn_ok h4
    injection h6 with h6; injection h6 with _ h6; subst h6
    have := i5 _ _ _ h1
    have := need_lt h3 (by decide)
    have := i1 _ _ _ h5
    omega
  · split at h
    · rename_i ht
      obtain ⟨R2, h1, h2⟩ := thr_ok h
      obtain ⟨a, R3, h3, h4⟩ := thn_ok h2
      injection h4 with h4; injection h4 with _ h4; subst h4
      have := nxt_lt h1 (by rw [ht]; decide)
      have := i5 _ _ _ h3
      omega
    · split at h
      · rename_i ht
        obtain ⟨R2, h1, h2⟩ := thr_ok h
        injection h2 with h2; injection h2 with _ h2; subst h2
        exact nxt_lt h1 (by rw [ht]; decide)
      · split at h
        · rename_i ht
          obtain ⟨R2, h1, h2⟩ := thr_ok h
          obtain ⟨a, R3, h3, h4⟩ := thn_ok h2
          injection h4 with h4; injection h4 with _ h4; subst h4
          have := nxt_lt h1 (by rw [ht]; decide)
          have := i1 _ _ _ h3
          omega
        · split at h
          · rename_i ht
            obtain ⟨R2, h1, h2⟩ := thr_ok h
            obtain ⟨R3, h3, h4⟩ := thr_ok h2
            obtain ⟨a, R4, h5, h6⟩ := thn_ok h4
            injection h6 with h6; injection h6 with _ h6; subst h6
            have := nxt_lt h1 (isNm_ne ht)
            have := need_lt h3 (by decide)
            have := i1 _ _ _ h5
            omega
          · cases h
theorem rs_lt : ∀ d : Nat,
    (∀ en R t R1, sts d en R = .ok (t, R1) → R1.length ≤ R.length) ∧
    (∀ R t R1, stm d R = .ok (t, R1) → R1.length < R.length) ∧
    (∀ R t R1, brn d R = .ok (t, R1) → R1.length < R.length) ∧
    (∀ R t R1, oth d R = .ok (t, R1) → R1.length < R.length) ∧
    (∀ R t R1, blk d R = .ok (t, R1) → R1.length < R.length)
  | 0 => ⟨fun _ _ _ _ h => by simp [sts] at h, fun _ _ _ h => by simp [stm] at h, fun _ _ _ h => by simp [brn] at h, fun _ _ _ h => by simp [oth] at h, fun _ _ _ h => by simp [blk] at h⟩
  | d + 1 => by
    have i0 := fun R t R1 => (rd_lt FU).1 1 R t R1 (Nat.le_refl _)
    obtain ⟨i1, i2, i3, i4, i5⟩ := rs_lt d
    refine ⟨fun en R t R1 h => ?_, fun R t R1 h => ?_, fun R t R1 h => ?_, fun R t R1 h => ?_, fun R t R1 h => ?_⟩
    · rw [sts] at h
      split at h
      · injection h with h; injection h with _ h; subst h; exact Nat.le_refl _
      · obtain ⟨a, R2, h1, h2⟩ := thn_ok h
        obtain ⟨b, R3, h3, h4⟩ := thn_ok h2
        injection h4 with h4; injection h4 with _ h4; subst h4
        have := i2 _ _ _ h1
        have := i1 _ _ _ _ h3
        omega
    · rw [stm] at h
      split at h
      · exact i3 _ _ _ h
      · split at h
        · rename_i ht
          obtain ⟨R2, h1, h2⟩ := thr_ok h
          obtain ⟨a, R3, h3, h4⟩ := thn_ok h2
          obtain ⟨l, R4, h5, h6⟩ := thn_ok h4
          injection h6 with h6; injection h6 with _ h6; subst h6
          have := nxt_lt h1 (by rw [ht]; decide)
          have := i0 _ _ _ h3
          have := i5 _ _ _ h5
          omega
        · obtain ⟨s, R2, h1, h2⟩ := thn_ok h
          obtain ⟨R3, h3, h4⟩ := thr_ok h2
          injection h4 with h4; injection h4 with _ h4; subst h4
          have := smp_lt h1
          have := need_lt h3 (by decide)
          omega
    · rw [brn] at h
      obtain ⟨R2, h1, h2⟩ := thr_ok h
      obtain ⟨a, R3, h3, h4⟩ := thn_ok h2
      obtain ⟨l, R4, h5, h6⟩ := thn_ok h4
      have := need_lt h1 (by decide)
      have := i0 _ _ _ h3
      have := i5 _ _ _ h5
      split at h6
      · rename_i ht
        obtain ⟨R5, h7, h8⟩ := thr_ok h6
        obtain ⟨m, R6, h9, h10⟩ := thn_ok h8
        injection h10 with h10; injection h10 with _ h10; subst h10
        have := nxt_lt h7 (by rw [ht]; decide)
        have := i4 _ _ _ h9
        omega
      · injection h6 with h6; injection h6 with _ h6; subst h6
        omega
    · rw [oth] at h
      split at h
      · obtain ⟨s, R2, h1, h2⟩ := thn_ok h
        injection h2 with h2; injection h2 with _ h2; subst h2
        exact i3 _ _ _ h1
      · exact i5 _ _ _ h
    · rw [blk] at h
      obtain ⟨R2, h1, h2⟩ := thr_ok h
      obtain ⟨a, R3, h3, h4⟩ := thn_ok h2
      obtain ⟨R4, h5, h6⟩ := thr_ok h4
      injection h6 with h6; injection h6 with _ h6; subst h6
      have := need_lt h1 (by decide)
      have := i1 _ _ _ _ h3
      have := need_lt h5 (by decide)
      omega
end Go.Proofs.YtehblpbefkopbaaDoor
