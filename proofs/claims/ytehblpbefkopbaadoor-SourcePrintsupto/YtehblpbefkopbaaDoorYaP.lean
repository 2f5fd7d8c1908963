import Derived.Test.YtehblpbefkopbaaDoorXaS
import Derived.Test.YtehblpbefkopbaaDoorXaI
import Derived.Test.YtehblpbefkopbaaDoorXaV
namespace Go.Proofs.YtehblpbefkopbaaDoor
/-! The document's words, and what it counts, without memory. -/
/-- Is a word one of a text's, each with a blank behind it? -/
def inB (w : Bs) : Bs → Bs → Bool
  | _, [] => false
  | acc, b :: r => if b = 32 then (acc == w) || inB w [] r else inB w (acc ++ [b]) r
theorem inB_app (w : Bs) : ∀ (x acc r : Bs), (∀ b ∈ x, b ≠ 32) → inB w acc (x ++ 32 :: r) = ((acc ++ x == w) || inB w [] r)
  | [], acc, r, _ => by simp [inB]
  | b :: x, acc, r, h => by
    rw [List.cons_append, inB, if_neg (h b (List.mem_cons_self ..)), inB_app w x (acc ++ [b]) r (fun c hc => h c (List.mem_cons_of_mem _ hc))]
    simp
def wds (ws : List Bs) : Bs := ws.flatMap fun x => x ++ [32]
theorem inB_wds (w : Bs) : ∀ ws : List Bs, (∀ x ∈ ws, ∀ b ∈ x, b ≠ 32) → inB w [] (wds ws) = ws.contains w
  | [], _ => rfl
  | x :: r, h => by
    have ih := inB_wds w r (fun y hy => h y (List.mem_cons_of_mem _ hy))
    unfold wds at ih ⊢
    rw [List.flatMap_cons, List.append_assoc, List.singleton_append, inB_app w x [] _ (h x (List.mem_cons_self ..)), ih, List.nil_append, List.contains_cons]
    congr 1
    by_cases e : x = w
    · subst e; simp
    · have e' : w ≠ x := fun q => e q.symm
      rw [beq_eq_false_iff_ne.2 e, beq_eq_false_iff_ne.2 e']
def kpS : Bs := [114, 101, 108, 101, 97, 115, 101, 32, 105, 102, 32, 101, 108, 115, 101, 32, 119, 104, 105, 108, 101, 32, 97, 98, 111, 114, 116, 32, 114, 101, 116, 117, 114, 110, 32, 116, 97, 107, 101, 32, 109, 105, 110, 32, 109, 97, 120, 32]
theorem inB_kpt (w : Bs) : inB w [] kpS = kpt.contains w := inB_wds w kpt (by decide)
def oc3 : List Bs := [[61, 61], [33, 61], [60], [60, 61], [62], [62, 61]]
def oc4 : List Bs := [[43], [45], [124], [94]]
def oc5 : List Bs := [[42], [47], [37], [38], [60, 60], [62, 62]]
def oc7 : List Bs := [kMin, kMax]
/-- The document's strength of an operator. -/
def stR (w : Bs) : Nat := if w = [124, 124] then 1 else if w = [38, 38] then 2 else if inB w [] (wds oc3) then 3 else if inB w [] (wds oc4) then 4 else if inB w [] (wds oc5) then 5 else if inB w [] (wds oc7) then 7 else 0
theorem bndL_none {w : Bs} : ∀ {l : List (Bs × Nat × Nat)}, w ∉ l.map (·.1) → bndL l w = (0, 0)
  | [], _ => rfl
  | x :: r, h => by
    rw [List.map_cons, List.mem_cons, not_or] at h
    rw [bndL, if_neg (fun e => h.1 e.symm), bndL_none h.2]
theorem stR_eq (w : Bs) : stR w = (bnd w).1 := by
  by_cases h : w ∈ bnds.map (·.1)
  · have : ∀ x ∈ bnds.map (·.1), stR x = (bnd x).1 := by decide
    exact this w h
  · unfold bnd
    rw [bndL_none h]
    have n : ∀ x : List Bs, (∀ y ∈ x, y ∈ bnds.map (·.1)) → x.contains w = false := fun x hx => by
      rw [List.contains_eq_mem, decide_eq_false_iff_not]
      exact fun e => h (hx w e)
    unfold stR
    rw [inB_wds w oc3 (by decide), inB_wds w oc4 (by decide), inB_wds w oc5 (by decide), inB_wds w oc7 (by decide), n oc3 (by decide), n oc4 (by decide), n oc5 (by decide), n oc7 (by decide), if_neg (fun e => h (by rw [e]; decide)), if_neg (fun e => h (by rw [e]; decide))]
    rfl
/-- The document's names. -/
def nmR : Bs → Bool
  | [] => false
  | b :: r => decide (r.length < 16) && isL b && !inB (b :: r) [] kpS && r.all isLD
theorem twA {p : UInt8 → Bool} : ∀ {l : Bs}, (l.takeWhile p == l) = l.all p
  | [] => rfl
  | b :: r => by
    rw [List.takeWhile_cons, List.all_cons]
    cases h : p b
    · rw [if_neg (by simp)]; rfl
    · rw [if_pos rfl, Bool.true_and, ← twA (l := r)]
      show (b == b && _) = _
      simp
      rfl
theorem nmR_eq : ∀ w : Bs, nmR w = isNm w
  | [] => rfl
  | b :: r => by
    show (decide (r.length < 16) && isL b && !inB (b :: r) [] kpS && r.all isLD) = (isL b && (fwd (b :: r) == b :: r) && !kpt.contains (b :: r))
    rw [inB_kpt]
    cases hb : isL b
    · simp
    · have hL : isLD b = true := by unfold isLD; rw [hb]; rfl
      have e : (fwd (b :: r) == b :: r) = (decide (r.length < 16) && r.all isLD) := by
        have t : ((b :: r).takeWhile isLD == b :: r) = r.all isLD := by rw [twA, List.all_cons, hL, Bool.true_and]
        unfold fwd
        by_cases hr : r.all isLD = true
        · rw [hr] at t ⊢
          rw [beq_iff_eq.1 t]
          by_cases hl : r.length < 16
          · rw [if_neg (by simp; omega)]; simp [hl]
          · rw [if_pos (by simp; omega)]; simp [hl]
        · rw [Bool.not_eq_true] at hr
          rw [hr] at t ⊢
          rw [Bool.and_false]
          split
          · rfl
          · exact t
      rw [e]
      cases decide (r.length < 16) <;> cases r.all isLD <;> cases kpt.contains (b :: r) <;> rfl
/-- What the document counts: nodes, depth, names. -/
abbrev Ct := Nat × Nat × List Bs
def addN (ns : List Bs) (w : Bs) : List Bs := if ns.contains w then ns else if w = [] then ns else ns ++ [w]
def nod (d : Nat) (w : Bs) (c : Ct) : Ct := (c.1 + 1, max c.2.1 d, addN c.2.2 w)
mutual
def ctE : Nat → Tr → Ct → Ct
  | d, .mk k _ w ps, c => if k = 0 then c else ctL (d + 1) ps (nod d (if k = 2 then w else []) c)
def ctL : Nat → List Tr → Ct → Ct
  | _, [], c => c
  | d, t :: r, c => ctL d r (ctE d t c)
end
mutual
def ctS : Nat → St → Ct → Ct
  | d, .mk _ w a b th el, c => ctSL (d + 1) el (ctSL (d + 1) th (ctE (d + 1) b (ctE (d + 1) a (nod d w c))))
def ctSL : Nat → List St → Ct → Ct
  | _, [], c => c
  | d, t :: r, c => ctSL d r (ctS d t c)
end
def ct0 (l : List St) : Ct := ctSL 1 l (0, 0, [])
/-- The document's Check. -/
def chR (l : List St) : Int := if wrSL l then 235 else if 8 < (ct0 l).2.2.length then 232 else if 24 < (ct0 l).2.1 then 233 else if 512 < (ct0 l).1 then 234 else 0
/-! The document's count is the program's. -/
theorem mw (a b : Nat) : min (min a 513 + b) 513 = min (a + b) 513 := by omega
theorem mw4 {c a b s u x1 x2 x3 x4 : Nat} (h1 : min x1 513 = min (c + 1 + a) 513) (h2 : min x2 513 = min (x1 + b) 513) (h3 : min x3 513 = min (x2 + s) 513) (h4 : min x4 513 = min (x3 + u) 513) : min x4 513 = min (c + min (a + b + s + u + 1) 513) 513 := by omega
theorem okE_ne {k n : Int} {w : Bs} {m : Nat} (h : okE k n w m = true) : k ≠ 0 := by
  intro e; subst e; revert h; unfold okE; simp
theorem okE_word {k n : Int} {w : Bs} {m : Nat} (h : okE k n w m = true) (h2 : k = 2) : w ≠ [] := by
  subst h2; unfold okE at h; simp at h
  intro e; subst e; simp [isNm] at h
theorem nm9_add {ns q : List Bs} {w : Bs} (h : q = ns.take 9) (hw : w ≠ []) : nmAdd q w = (addN ns w).take 9 := by
  subst h
  unfold nmAdd addN
  by_cases hl : ns.length ≤ 8
  · have e : ns.take 9 = ns := List.take_of_length_le (by omega)
    rw [e]
    cases hc : ns.contains w
    · rw [if_pos ⟨hl, rfl⟩, if_neg (by simp), if_neg hw, List.take_of_length_le (by simp; omega)]
    · rw [if_neg (by simp), if_pos rfl, e]
  · rw [if_neg (by rw [List.length_take]; omega)]
    split
    · rfl
    · rw [List.take_append_of_le_length (by omega)]
/-- Depths and numbers of a node with its parts. -/
theorem dp1 {c d s D0 D1 : Nat} (h0 : D0 = max c d) (h1 : D1 + 1 = max (D0 + 1) (if s = 0 then 0 else d + 1 + s)) : D1 + 1 = max (c + 1) (d + (s + 1)) := by
  split at h1 <;> omega
theorem dp2 {c d s D0 D1 : Nat} (h0 : D0 + 1 = max (c + 1) (if s = 0 then 0 else d + s)) : ∀ {u : Nat}, D1 + 1 = max (D0 + 1) (if u = 0 then 0 else d + u) → D1 + 1 = max (c + 1) (if max s u = 0 then 0 else d + max s u) := by
  intro u h1
  split at h0 <;> split at h1 <;> split <;> omega
mutual
theorem ctE_eq : ∀ (t : Tr) (d : Nat) (c : Ct) (ns : List Bs), wrE t = false → ns = c.2.2.take 9 → nmE t ns = (ctE d t c).2.2.take 9 ∧ (ctE d t c).2.1 + 1 = max (c.2.1 + 1) (d + (szE t).1) ∧ min (ctE d t c).1 513 = min (c.1 + (szE t).2) 513 ∧ 1 ≤ (szE t).1
  | .mk k n w ps, d, c, ns, h, hn => by
    unfold wrE at h
    split at h
    · rename_i hk
      have k0 := okE_ne hk
      unfold nmE ctE szE
      rw [if_pos hk, if_pos hk, if_neg k0]
      have hc : ns = c.2.2.take 9 := hn
      have hc1 : (if k = 2 then nmAdd ns w else ns) = (nod d (if k = 2 then w else []) c).2.2.take 9 := by
        by_cases h2 : k = 2
        · rw [if_pos h2, if_pos h2]; exact nm9_add hn (okE_word hk h2)
        · rw [if_neg h2, if_neg h2, hn]
          show _ = (addN c.2.2 []).take 9
          unfold addN; split <;> simp
      obtain ⟨g1, g2, g3⟩ := ctL_eq ps (d + 1) (nod d (if k = 2 then w else []) c) _ h hc1
      refine ⟨g1, ?_, ?_, ?_⟩
      · exact dp1 (c := c.2.1) rfl g2
      · rw [g3]; show min (c.1 + 1 + (szL ps).2) 513 = min (c.1 + min ((szL ps).2 + 1) 513) 513; omega
      · unfold undr; simp only; omega
    · cases h
theorem ctL_eq : ∀ (l : List Tr) (d : Nat) (c : Ct) (ns : List Bs), wrL l = false → ns = c.2.2.take 9 → nmL l ns = (ctL d l c).2.2.take 9 ∧ (ctL d l c).2.1 + 1 = max (c.2.1 + 1) (if (szL l).1 = 0 then 0 else d + (szL l).1) ∧ min (ctL d l c).1 513 = min (c.1 + (szL l).2) 513
  | [], d, c, ns, _, hn => by unfold nmL ctL szL; exact ⟨hn, by simp, rfl⟩
  | t :: r, d, c, ns, h, hn => by
    unfold wrL at h
    rw [Bool.or_eq_false_iff] at h
    obtain ⟨a1, a2, a3, a4⟩ := ctE_eq t d c ns h.1 hn
    obtain ⟨b1, b2, b3⟩ := ctL_eq r d _ _ h.2 a1
    unfold nmL ctL szL wth
    refine ⟨b1, ?_, ?_⟩
    · rw [b2]; simp only; split <;> split <;> omega
    · rw [b3]; simp only; omega
end
theorem addN_nil (ns : List Bs) : addN ns [] = ns := by unfold addN; split <;> simp
theorem isZr_ct {t : Tr} (h : isZr t = true) (d : Nat) (c : Ct) : ctE d t c = c := by
  cases t with
  | mk k n w ps =>
    unfold isZr at h
    simp at h
    unfold ctE
    rw [if_pos h.1.1.1]
/-- An expression that is used, or none. -/
theorem opt_ct {t : Tr} {u : Bool} (hu : (u || isZr t) = true) (hw : (if u then wrE t else false) = false) (d : Nat) (c : Ct) (ns : List Bs) (hn : ns = c.2.2.take 9) :
    (if u then nmE t else id) ns = (ctE d t c).2.2.take 9 ∧ (ctE d t c).2.1 + 1 = max (c.2.1 + 1) (if (if u then szE t else (0, 0)).1 = 0 then 0 else d + (if u then szE t else (0, 0)).1) ∧ min (ctE d t c).1 513 = min (c.1 + (if u then szE t else (0, 0)).2) 513 := by
  cases u
  · rw [Bool.false_or] at hu
    rw [isZr_ct hu]
    exact ⟨hn, by simp, rfl⟩
  · obtain ⟨a1, a2, a3, a4⟩ := ctE_eq t d c ns hw hn
    simp only [if_true]
    refine ⟨a1, ?_, a3⟩
    rw [a2, if_neg (by omega)]
theorem okS_parts {k : Int} {wd : Bs} {a b : Tr} {nt ne : Nat} (h : okS k wd a b nt ne = true) : 1 ≤ k ∧ k ≤ 7 ∧ (if usW k then isNm wd else wd.isEmpty) = true ∧ (usA k || isZr a) = true ∧ (usB k || isZr b) = true ∧ (usT k || decide (nt = 0)) = true ∧ (usE k || decide (ne = 0)) = true := by
  unfold okS at h
  simp only [Bool.and_eq_true, decide_eq_true_eq] at h
  exact ⟨h.1.1.1.1.1.1, h.1.1.1.1.1.2, h.1.1.1.1.2, h.1.1.1.2, h.1.1.2, h.1.2, h.2⟩
mutual
theorem ctS_eq : ∀ (t : St) (d : Nat) (c : Ct) (ns : List Bs), wrS t = false → ns = c.2.2.take 9 → nmS t ns = (ctS d t c).2.2.take 9 ∧ (ctS d t c).2.1 + 1 = max (c.2.1 + 1) (d + (szS t).1) ∧ min (ctS d t c).1 513 = min (c.1 + (szS t).2) 513 ∧ 1 ≤ (szS t).1
  | .mk k wd a b th el, d, c, ns, h, hn => by
    unfold wrS at h
    split at h
    · rename_i hk
      unfold nmS ctS szS
      rw [if_pos hk, if_pos hk]
      simp only [Bool.or_eq_false_iff] at h
      obtain ⟨⟨⟨h1, h2⟩, h3⟩, h4⟩ := h
      obtain ⟨-, -, o3, o4, o5, -, -⟩ := okS_parts hk
      have c1 : (if usW k then nmAdd ns wd else ns) = (nod d wd c).2.2.take 9 := by
        show _ = (addN c.2.2 wd).take 9
        cases hu : usW k
        · rw [hu] at o3
          rw [if_neg (by simp)] at o3
          have e : wd = [] := by cases wd; rfl; cases o3
          rw [if_neg (by simp), e, addN_nil]
          exact hn
        · rw [hu] at o3
          rw [if_pos rfl] at o3
          rw [if_pos rfl]
          exact nm9_add hn (by intro e; subst e; cases o3)
      obtain ⟨a1, a2, a3⟩ := opt_ct o4 h1 (d + 1) _ _ c1
      obtain ⟨b1, b2, b3⟩ := opt_ct o5 h2 (d + 1) _ _ a1
      obtain ⟨t1, t2, t3⟩ := ctSL_eq th (d + 1) _ _ h3 b1
      obtain ⟨e1, e2, e3⟩ := ctSL_eq el (d + 1) _ _ h4 t1
      generalize (if usA k then szE a else (0, 0)) = SA at *
      generalize (if usB k then szE b else (0, 0)) = SB at *
      refine ⟨e1, ?_, ?_, ?_⟩
      · exact dp1 (c := c.2.1) rfl (dp2 (dp2 (dp2 a2 b2) t2) e2)
      · show _ = min (c.1 + min (SA.2 + SB.2 + (szSL th).2 + (szSL el).2 + 1) 513) 513
        have n1 : (nod d wd c).1 = c.1 + 1 := rfl
        rw [n1] at a3
        exact mw4 a3 b3 t3 e3
      · unfold undr; simp only; omega
    · cases h
theorem ctSL_eq : ∀ (l : List St) (d : Nat) (c : Ct) (ns : List Bs), wrSL l = false → ns = c.2.2.take 9 → nmSL l ns = (ctSL d l c).2.2.take 9 ∧ (ctSL d l c).2.1 + 1 = max (c.2.1 + 1) (if (szSL l).1 = 0 then 0 else d + (szSL l).1) ∧ min (ctSL d l c).1 513 = min (c.1 + (szSL l).2) 513
  | [], d, c, ns, _, hn => by unfold nmSL ctSL szSL; exact ⟨hn, by simp, rfl⟩
  | t :: r, d, c, ns, h, hn => by
    unfold wrSL at h
    rw [Bool.or_eq_false_iff] at h
    obtain ⟨a1, a2, a3, a4⟩ := ctS_eq t d c ns h.1 hn
    obtain ⟨b1, b2, b3⟩ := ctSL_eq r d _ _ h.2 a1
    unfold nmSL ctSL szSL wth
    refine ⟨b1, ?_, ?_⟩
    · rw [b2]; simp only; split <;> split <;> omega
    · rw [← mw]; rw [b3, ← mw, a3]; simp only; omega
end
theorem chR_eq (l : List St) : chR l = chk l := by
  unfold chR chk
  cases h : wrSL l
  · obtain ⟨h1, h2, h3⟩ := ctSL_eq l 1 (0, 0, []) [] h (by simp)
    have h1 : nmSL l [] = (ct0 l).2.2.take 9 := h1
    have h2 : (ct0 l).2.1 + 1 = max (0 + 1) (if (szSL l).1 = 0 then 0 else 1 + (szSL l).1) := h2
    have h3 : min (ct0 l).1 513 = min (0 + (szSL l).2) 513 := h3
    have e1 : (8 < (nmSL l []).length) = (8 < (ct0 l).2.2.length) := by rw [h1, List.length_take]; exact propext (by omega)
    have e2 : (24 < (szSL l).1) = (24 < (ct0 l).2.1) := propext (by split at h2 <;> omega)
    have e3 : (512 < (szSL l).2) = (512 < (ct0 l).1) := propext (by omega)
    simp only [e1, e2, e3]
  · rfl
theorem nm_ct0 {l : List St} (h : chk l = 0) : wrSL l = false ∧ (ct0 l).2.2 = nmSL l [] ∧ (ct0 l).2.2.length ≤ 8 := by
  have hw : wrSL l = false := by
    cases hw : wrSL l
    · rfl
    · unfold chk at h; rw [hw] at h; cases h
  refine ⟨hw, ?_⟩
  have h1 : nmSL l [] = (ct0 l).2.2.take 9 := (ctSL_eq l 1 (0, 0, []) [] hw (by simp)).1
  have h8 : (ct0 l).2.2.length ≤ 8 := by
    rw [← chR_eq] at h
    unfold chR at h
    rw [hw] at h
    simp only [Bool.false_eq_true, if_false] at h
    split at h
    · cases h
    · omega
  exact ⟨by rw [h1, List.take_of_length_le (by omega)], h8⟩
theorem nod_le (d : Nat) (w : Bs) (c : Ct) : (nod d w c).1 = c.1 + 1 ∧ (nod d w c).2.1 = max c.2.1 d ∧ (nod d w c).2.2.length ≤ c.2.2.length + 1 := by
  refine ⟨rfl, rfl, ?_⟩
  show (addN _ _).length ≤ _
  unfold addN; split; omega; split; omega; simp
mutual
/-- How far a count may come. -/
theorem ctE_le : ∀ (t : Tr) (d : Nat) (c : Ct), (ctE d t c).1 ≤ c.1 + bgE t ∧ (ctE d t c).2.1 ≤ max c.2.1 (d + bgE t) ∧ (ctE d t c).2.2.length ≤ c.2.2.length + bgE t
  | .mk k n w ps, d, c => by
    unfold ctE bgE
    split
    · refine ⟨by omega, by omega, by omega⟩
    · obtain ⟨h1, h2, h3⟩ := ctL_le ps (d + 1) (nod d (if k = 2 then w else []) c)
      obtain ⟨n1, n2, n3⟩ := nod_le d (if k = 2 then w else []) c
      generalize nod d (if k = 2 then w else []) c = N at *
      generalize ctL (d + 1) ps N = M at *
      rw [n2] at h2
      refine ⟨by omega, by omega, by omega⟩
theorem ctL_le : ∀ (l : List Tr) (d : Nat) (c : Ct), (ctL d l c).1 ≤ c.1 + bgL l ∧ (ctL d l c).2.1 ≤ max c.2.1 (d + bgL l) ∧ (ctL d l c).2.2.length ≤ c.2.2.length + bgL l
  | [], d, c => by unfold ctL bgL; exact ⟨by omega, by omega, by omega⟩
  | t :: r, d, c => by
    unfold ctL bgL
    obtain ⟨h1, h2, h3⟩ := ctE_le t d c
    obtain ⟨g1, g2, g3⟩ := ctL_le r d (ctE d t c)
    exact ⟨by omega, by omega, by omega⟩
end
mutual
theorem ctS_le : ∀ (t : St) (d : Nat) (c : Ct), (ctS d t c).1 ≤ c.1 + bgS t ∧ (ctS d t c).2.1 ≤ max c.2.1 (d + bgS t) ∧ (ctS d t c).2.2.length ≤ c.2.2.length + bgS t
  | .mk k w a b th el, d, c => by
    unfold ctS bgS
    obtain ⟨n1, n2, n3⟩ := nod_le d w c
    obtain ⟨a1, a2, a3⟩ := ctE_le a (d + 1) (nod d w c)
    obtain ⟨b1, b2, b3⟩ := ctE_le b (d + 1) (ctE (d + 1) a (nod d w c))
    obtain ⟨t1, t2, t3⟩ := ctSL_le th (d + 1) (ctE (d + 1) b (ctE (d + 1) a (nod d w c)))
    obtain ⟨e1, e2, e3⟩ := ctSL_le el (d + 1) (ctSL (d + 1) th (ctE (d + 1) b (ctE (d + 1) a (nod d w c))))
    have := bgE_pos a
    have := bgE_pos b
    exact ⟨by omega, by omega, by omega⟩
theorem ctSL_le : ∀ (l : List St) (d : Nat) (c : Ct), (ctSL d l c).1 ≤ c.1 + bgSL l ∧ (ctSL d l c).2.1 ≤ max c.2.1 (d + bgSL l) ∧ (ctSL d l c).2.2.length ≤ c.2.2.length + bgSL l
  | [], d, c => by unfold ctSL bgSL; exact ⟨by omega, by omega, by omega⟩
  | t :: r, d, c => by
    unfold ctSL bgSL
    obtain ⟨h1, h2, h3⟩ := ctS_le t d c
    obtain ⟨g1, g2, g3⟩ := ctSL_le r d (ctS d t c)
    exact ⟨by omega, by omega, by omega⟩
end
end Go.Proofs.YtehblpbefkopbaaDoor
namespace Go.Proofs.YtehblpbefkopbaaDoor
open Go.RowKit Go.ChangeShapes Go.WideShapes Go.ChangeAt
attribute [local go_sem] Oper.semAt_some run_store_nf run_store_f
/-! The document's words. -/
theorem rLt_any (w : World) (b : UInt8) : Calls Tryd.prog 45 #[.int .u8 (b.toNat : Int)] w fun e w' => e = .returned (.bool (isL b)) ∧ w' = w := by
  have e : isL b = (decide (97 ≤ b.toNat) && decide (b.toNat ≤ 122)) := rfl
  rw [e]
  generalize b.toNat = n
  by_cases h1 : 97 ≤ n
  · have d1 : decide ((97 : Int) ≤ (n : Int)) = true := by simp; omega
    rw [decide_eq_true h1]
    by_cases h2 : n ≤ 122
    · have d2 : decide ((n : Int) ≤ (122 : Int)) = true := by simp; omega
      rw [decide_eq_true h2]
      go_enter Tryd.func45, Tryd.ntmps45
      go_wp2
      go_ret
      exact ⟨rfl, rfl⟩
    · have d2 : decide ((n : Int) ≤ (122 : Int)) = false := by simp; omega
      rw [decide_eq_false h2]
      go_enter Tryd.func45, Tryd.ntmps45
      go_wp2
      go_ret
      exact ⟨rfl, rfl⟩
  · have d1 : decide ((97 : Int) ≤ (n : Int)) = false := by simp; omega
    rw [decide_eq_false h1]
    go_enter Tryd.func45, Tryd.ntmps45
    go_wp2
    go_ret
    exact ⟨rfl, rfl⟩
theorem rDg_any (w : World) (b : UInt8) : Calls Tryd.prog 47 #[.int .u8 (b.toNat : Int)] w fun e w' => e = .returned (.bool (digB b)) ∧ w' = w := by
  have e : digB b = (decide (48 ≤ b.toNat) && decide (b.toNat ≤ 57)) := rfl
  rw [e]
  generalize b.toNat = n
  by_cases h1 : 48 ≤ n
  · have d1 : decide ((48 : Int) ≤ (n : Int)) = true := by simp; omega
    rw [decide_eq_true h1]
    by_cases h2 : n ≤ 57
    · have d2 : decide ((n : Int) ≤ (57 : Int)) = true := by simp; omega
      rw [decide_eq_true h2]
      go_enter Tryd.func47, Tryd.ntmps47
      go_wp2
      go_ret
      exact ⟨rfl, rfl⟩
    · have d2 : decide ((n : Int) ≤ (57 : Int)) = false := by simp; omega
      rw [decide_eq_false h2]
      go_enter Tryd.func47, Tryd.ntmps47
      go_wp2
      go_ret
      exact ⟨rfl, rfl⟩
  · have d1 : decide ((48 : Int) ≤ (n : Int)) = false := by simp; omega
    rw [decide_eq_false h1]
    go_enter Tryd.func47, Tryd.ntmps47
    go_wp2
    go_ret
    exact ⟨rfl, rfl⟩
theorem inB_sp {w l : Bs} {f k : Nat} (_hf : f ≤ k) (hk : k < l.length) (h : l[k]'hk = 32) : inB w ((l.take k).drop f) (l.drop k) = (((l.take k).drop f == w) || inB w ((l.take (k + 1)).drop (k + 1)) (l.drop (k + 1))) := by
  have e1 : l.drop k = l[k] :: l.drop (k + 1) := List.drop_eq_getElem_cons hk
  have e3 : (l.take (k + 1)).drop (k + 1) = [] := List.drop_eq_nil_of_le (by rw [List.length_take]; omega)
  rw [e1, inB, e3, if_pos h]
theorem inB_no {w l : Bs} {f k : Nat} (hf : f ≤ k) (hk : k < l.length) (h : ¬ l[k]'hk = 32) : inB w ((l.take k).drop f) (l.drop k) = inB w ((l.take (k + 1)).drop f) (l.drop (k + 1)) := by
  have e1 : l.drop k = l[k] :: l.drop (k + 1) := List.drop_eq_getElem_cons hk
  have e2 : (l.take (k + 1)).drop f = (l.take k).drop f ++ [l[k]] := by
    rw [List.take_succ_eq_append_getElem hk, List.drop_append_of_le_length (by rw [List.length_take]; omega)]
  rw [e1, inB, e2, if_neg h]
set_option maxHeartbeats 1000000 in
theorem rIn_any (u l : Bs) (hl : l.length ≤ 140737488355328) (w : World) : Calls Tryd.prog 46 #[.string (bs u), .string (bs l)] w fun e w' => e = .returned (.bool (inB u [] l)) ∧ w' = w := by
  have hsz : (bs l).size = l.length := rfl
  obtain ⟨R, hR⟩ : ∃ R, R = inB u [] l := ⟨_, rfl⟩
  rw [← hR]
  have HR : Hid (R = inB u [] l) := hR
  clear hR
  obtain ⟨U, hU⟩ : ∃ U, U = bs u := ⟨_, rfl⟩
  rw [← hU]
  have HU : Hid (U = bs u) := hU
  clear hU
  go_enter Tryd.func46, Tryd.ntmps46
  go_wp2_with fail
  go_loopw [5, 6] (fun fv iv Wr => ∃ f k : Nat, fv = .int .i64 (f : Int) ∧ iv = .int .i64 (k : Int) ∧ f ≤ k ∧ k ≤ l.length ∧ Hid (inB u ((l.take k).drop f) (l.drop k) = R) ∧ w = Wr) (fun _ iv _ => l.length + 1 - (intOf iv).toNat)
  case atStart => exact ⟨0, 0, rfl, rfl, by omega, by omega, (by show _ = _; rw [HR.out]; simp), rfl⟩
  case round =>
    obtain ⟨f, k, rfl, rfl, hf, hk1, HI, rfl⟩ := hrel
    by_cases hk : k < l.length
    · have hks : k < (bs l).size := hk
      have hd : decide ((k : Int) < ((bs l).size : Int)) = true := by simp; omega
      have hd2 : decide (k < (bs l).size) = true := by simp; omega
      have hk0 : (0 : Int) ≤ (k : Int) := by omega
      have hf0 : (0 : Int) ≤ (f : Int) := by omega
      have hfk : (f : Int) ≤ (k : Int) := by omega
      have hkz : (k : Int) ≤ ((bs l).size : Int) := by omega
      have hg := bs_get l k hks
      have hm : (k : Int) + 1 ≤ 9223372036854775807 := by omega
      have hI := HI.out
      by_cases h32 : l[k] = 32
      · have b0 : ((((bs l)[k].toNat : Nat) : Int) == 32) = true := by rw [hg, h32]; rfl
        rw [inB_sp hf hk h32] at hI
        have hx : (bs l).extract f k = bs ((l.take k).drop f) := ext_bs l f k
        cases hp : ((l.take k).drop f == u)
        · rw [hp, Bool.false_or] at hI
          have e1 : (((bs l).extract f k).toList == U.toList) = false := by rw [hx, HU.out, eqL]; exact hp
          have HT : Hid (inB u ((l.take (k + 1)).drop (k + 1)) (l.drop (k + 1)) = R) := hI
          clear hI hp h32 hx hg
          go_wp2_with fail
          go_roundw
          case rel => exact ⟨k + 1, k + 1, by go_num, by go_num, by omega, by omega, HT, trivial⟩
          case measure => simp [intOf]; omega
        · rw [hp, Bool.true_or] at hI
          have e1 : (((bs l).extract f k).toList == U.toList) = true := by rw [hx, HU.out, eqL]; exact hp
          have HT : Hid (true = R) := hI
          clear hI hp h32 hx hg
          go_wp2_with fail
          go_ret
          exact ⟨congrArg (fun x => Ending.returned (.bool x)) HT.out, rfl⟩
      · have b0 : ((((bs l)[k].toNat : Nat) : Int) == 32) = false := by
          rw [beq_eq_false_iff_ne]
          intro e
          refine h32 ?_
          rw [← hg]
          exact UInt8.toNat_inj.1 (by have e32 : (32 : UInt8).toNat = 32 := rfl; omega)
        rw [inB_no hf hk h32] at hI
        have HT : Hid (inB u ((l.take (k + 1)).drop f) (l.drop (k + 1)) = R) := hI
        clear hI h32 hg
        go_wp2_with fail
        go_roundw
        case rel => exact ⟨f, k + 1, rfl, by go_num, by omega, by omega, HT, trivial⟩
        case measure => simp [intOf]; omega
    · obtain rfl : k = l.length := by omega
      have hd : decide ((l.length : Int) < ((bs l).size : Int)) = false := decide_eq_false (by omega)
      have hd2 : decide (l.length < (bs l).size) = false := decide_eq_false (by omega)
      have HT : Hid (false = R) := by show _ = _; rw [← HI.out, List.drop_length]; rfl
      clear HI
      go_wp2_with fail
      go_ret
      exact ⟨congrArg (fun x => Ending.returned (.bool x)) HT.out, rfl⟩
theorem ct_yes {l : List UInt8} {k : Nat} {c : UInt8} (hk : k < l.length) (h : l[k]'hk = c) : (l.drop k).contains c = true := by
  rw [List.drop_eq_getElem_cons hk, List.contains_cons, h, beq_self_eq_true, Bool.true_or]
theorem ct_no {l : List UInt8} {k : Nat} {c : UInt8} (hk : k < l.length) (h : ¬ l[k]'hk = c) : (l.drop k).contains c = (l.drop (k + 1)).contains c := by
  rw [List.drop_eq_getElem_cons hk, List.contains_cons, beq_eq_false_iff_ne.2 (fun e => h e.symm), Bool.false_or]
set_option maxHeartbeats 1000000 in
theorem rHas_any (l : Bs) (c : UInt8) (hl : l.length ≤ 140737488355328) (w : World) : Calls Tryd.prog 30 #[.string (bs l), .int .u8 (c.toNat : Int)] w fun e w' => e = .returned (.bool (l.contains c)) ∧ w' = w := by
  have hsz : (bs l).size = l.length := rfl
  obtain ⟨R, hR⟩ : ∃ R, R = l.contains c := ⟨_, rfl⟩
  rw [← hR]
  have HR : Hid (R = l.contains c) := hR
  clear hR
  obtain ⟨n, hn⟩ : ∃ n : Int, n = (c.toNat : Int) := ⟨_, rfl⟩
  rw [← hn]
  have HN : Hid (n = (c.toNat : Int)) := hn
  clear hn
  go_enter Tryd.func30, Tryd.ntmps30
  go_wp2_with fail
  go_loopw [5] (fun iv Wr => ∃ k : Nat, iv = .int .i64 (k : Int) ∧ k ≤ l.length ∧ Hid ((l.drop k).contains c = R) ∧ w = Wr) (fun iv _ => l.length + 1 - (intOf iv).toNat)
  case atStart => exact ⟨0, rfl, by omega, (by show _ = _; rw [HR.out]; simp), rfl⟩
  case round =>
    obtain ⟨k, rfl, hk1, HI, rfl⟩ := hrel
    by_cases hk : k < l.length
    · have hks : k < (bs l).size := hk
      have hd : decide ((k : Int) < ((bs l).size : Int)) = true := by simp; omega
      have hd2 : decide (k < (bs l).size) = true := by simp; omega
      have hk0 : (0 : Int) ≤ (k : Int) := by omega
      have hg := bs_get l k hks
      have hm : (k : Int) + 1 ≤ 9223372036854775807 := by omega
      have hI := HI.out
      by_cases hc : l[k] = c
      · have b0 : ((((bs l)[k].toNat : Nat) : Int) == n) = true := by rw [hg, hc, HN.out]; simp
        rw [ct_yes hk hc] at hI
        have HT : Hid (true = R) := hI
        clear hI hc hg
        go_wp2_with fail
        go_ret
        exact ⟨congrArg (fun x => Ending.returned (.bool x)) HT.out, rfl⟩
      · have b0 : ((((bs l)[k].toNat : Nat) : Int) == n) = false := by
          rw [beq_eq_false_iff_ne, HN.out]
          intro e
          refine hc ?_
          rw [← hg]
          exact UInt8.toNat_inj.1 (by omega)
        rw [ct_no hk hc] at hI
        have HT : Hid ((l.drop (k + 1)).contains c = R) := hI
        clear hI hc hg
        go_wp2_with fail
        go_roundw
        case rel => exact ⟨k + 1, by go_num, by omega, HT, trivial⟩
        case measure => simp [intOf]; omega
    · obtain rfl : k = l.length := by omega
      have hd : decide ((l.length : Int) < ((bs l).size : Int)) = false := decide_eq_false (by omega)
      have hd2 : decide (l.length < (bs l).size) = false := decide_eq_false (by omega)
      have HT : Hid (false = R) := by show _ = _; rw [← HI.out, List.drop_length]; rfl
      clear HI
      go_wp2_with fail
      go_ret
      exact ⟨congrArg (fun x => Ending.returned (.bool x)) HT.out, rfl⟩
/-- Which fields a kind uses, as the document has it. -/
def usR (k : Int) : Bs := if k = 1 then [119, 97] else if k = 2 then [97, 98] else if k = 3 ∨ k = 7 then [97] else if k = 4 then [97, 116, 101] else if k = 5 then [97, 116] else []
theorem usR_w (k : Int) : (usR k).contains 119 = usW k := by
  unfold usR usW; repeat' (split; (try (rename_i h; first | (subst h; rfl) | (rcases h with h | h <;> subst h <;> rfl))))
  simp_all
theorem usR_a (k : Int) : (usR k).contains 97 = usA k := by
  unfold usR usA; repeat' (split; (try (rename_i h; first | (subst h; rfl) | (rcases h with h | h <;> subst h <;> rfl))))
  simp_all
theorem usR_b (k : Int) : (usR k).contains 98 = usB k := by
  unfold usR usB; repeat' (split; (try (rename_i h; first | (subst h; rfl) | (rcases h with h | h <;> subst h <;> rfl))))
  simp_all
theorem usR_t (k : Int) : (usR k).contains 116 = usT k := by
  unfold usR usT; repeat' (split; (try (rename_i h; first | (subst h; rfl) | (rcases h with h | h <;> subst h <;> rfl))))
  simp_all
theorem usR_e (k : Int) : (usR k).contains 101 = usE k := by
  unfold usR usE; repeat' (split; (try (rename_i h; first | (subst h; rfl) | (rcases h with h | h <;> subst h <;> rfl))))
  simp_all
theorem usR_len (k : Int) : (usR k).length ≤ 3 := by
  unfold usR; repeat' split
  all_goals decide
set_option maxHeartbeats 1000000 in
theorem rUses_any (k : Int) (w : World) : Calls Tryd.prog 29 #[.int .i64 k] w fun e w' => e = .returned (.string (bs (usR k))) ∧ w' = w := by
  by_cases h1 : k = 1
  · subst h1
    go_enter Tryd.func29, Tryd.ntmps29
    go_wp2
    go_ret
    exact ⟨rfl, rfl⟩
  by_cases h2 : k = 2
  · subst h2
    go_enter Tryd.func29, Tryd.ntmps29
    go_wp2
    go_ret
    exact ⟨rfl, rfl⟩
  by_cases h3 : k = 3
  · subst h3
    go_enter Tryd.func29, Tryd.ntmps29
    go_wp2
    go_ret
    exact ⟨rfl, rfl⟩
  by_cases h7 : k = 7
  · subst h7
    go_enter Tryd.func29, Tryd.ntmps29
    go_wp2
    go_ret
    exact ⟨rfl, rfl⟩
  by_cases h4 : k = 4
  · subst h4
    go_enter Tryd.func29, Tryd.ntmps29
    go_wp2
    go_ret
    exact ⟨rfl, rfl⟩
  by_cases h5 : k = 5
  · subst h5
    go_enter Tryd.func29, Tryd.ntmps29
    go_wp2
    go_ret
    exact ⟨rfl, rfl⟩
  have e : usR k = [] := by unfold usR; simp [h1, h2, h3, h4, h5, h7]
  rw [e]
  have d1 := beq_eq_false_iff_ne.2 h1
  have d2 := beq_eq_false_iff_ne.2 h2
  have d3 := beq_eq_false_iff_ne.2 h3
  have d4 := beq_eq_false_iff_ne.2 h4
  have d5 := beq_eq_false_iff_ne.2 h5
  have d7 := beq_eq_false_iff_ne.2 h7
  clear h1 h2 h3 h4 h5 h7 e
  go_enter Tryd.func29, Tryd.ntmps29
  go_wp2
  go_ret
  exact ⟨rfl, rfl⟩
end Go.Proofs.YtehblpbefkopbaaDoor
namespace Go.Proofs.YtehblpbefkopbaaDoor
open Go.RowKit Go.ChangeShapes Go.WideShapes Go.ChangeAt Go.Deep
attribute [local go_sem] Oper.semAt_some run_store_nf run_store_f
/-! The document's expressions. -/
set_option maxHeartbeats 1000000 in
theorem rNone_any {w : World} {k n : Int} {wd : Bs} {p : Option Addr} {m c : Nat} : Calls Tryd.prog 49 #[.agg #[.int .i64 k, .int .i64 n, .string (bs wd), .slice p m c]] w fun e w' => e = .returned (.bool (decide (k = 0) && decide (n = 0) && wd.isEmpty && decide (m = 0))) ∧ Keeps (fun _ => False) w w' := by
  have e0 : (k == 0) = decide (k = 0) := beq_int _ _
  have e1 : (n == 0) = decide (n = 0) := beq_int _ _
  have e2 : (bs wd).toList.isEmpty = wd.isEmpty := by rw [bs_toList]
  have e3 : ((m : Int) == 0) = decide (m = 0) := by rw [beq_int]; exact dec_cast m 0
  have e4 : (m == 0) = decide (m = 0) := beq_nat _ _
  have e5 : decide ((m : Int) = 0) = decide (m = 0) := dec_cast m 0
  generalize decide (k = 0) = b0 at *
  generalize decide (n = 0) = b1 at *
  generalize wd.isEmpty = b2 at *
  generalize decide (m = 0) = b3 at *
  generalize bs wd = W0 at *
  have q := CL.made w [.int .i64 k, .int .i64 n, .string W0, .slice p m c] 40
  have y0 := q.c 0 _ rfl
  have y1 := q.c 1 _ rfl
  have y2 := q.c 2 _ rfl
  have y3 := q.c 3 _ rfl
  have ka := (Keeps.refl (fun _ => False) w).alloc (.cells ([.int .i64 k, .int .i64 n, .string W0, .slice p m c] : List Value).toArray 40)
  clear q
  cases b0 <;> cases b1 <;> cases b2 <;> cases b3 <;>
  (go_enter Tryd.func49, Tryd.ntmps49
   go_wp2
   go_ret
   exact ⟨rfl, ka⟩)
set_option maxHeartbeats 1000000 in
theorem rNamed_any (l : Bs) (hl : l.length ≤ 140737488355328) (w : World) : Calls Tryd.prog 31 #[.string (bs l)] w fun e w' => e = .returned (.bool (isNm l)) ∧ w' = w := by
  rw [← nmR_eq]
  have hIn := fun W => rIn_any l kpS (by decide) W
  have hkS : (bs kpS) = ⟨#[114, 101, 108, 101, 97, 115, 101, 32, 105, 102, 32, 101, 108, 115, 101, 32, 119, 104, 105, 108, 101, 32, 97, 98, 111, 114, 116, 32, 114, 101, 116, 117, 114, 110, 32, 116, 97, 107, 101, 32, 109, 105, 110, 32, 109, 97, 120, 32]⟩ := rfl
  rw [hkS] at hIn
  clear hkS
  cases l with
  | nil =>
    clear hIn
    have z : (bs []) = ⟨#[]⟩ := rfl
    rw [z]
    go_enter Tryd.func31, Tryd.ntmps31
    go_wp2
    go_ret
    exact ⟨rfl, rfl⟩
  | cons b r =>
    have hz : (bs (b :: r)).size = r.length + 1 := rfl
    have hN : nmR (b :: r) = (decide (r.length < 16) && isL b && !inB (b :: r) [] kpS && r.all isLD) := rfl
    rw [hN]
    clear hN
    generalize inB (b :: r) [] kpS = ib at *
    obtain ⟨R, hR⟩ : ∃ R, R = r.all isLD := ⟨_, rfl⟩
    rw [← hR]
    have HR : Hid (R = r.all isLD) := hR
    clear hR
    have h0 : 0 < (bs (b :: r)).size := by omega
    have g0 : (bs (b :: r))[0] = b := rfl
    have hLt := fun W => rLt_any W b
    have d1 : decide (((bs (b :: r)).size : Int) < 1) = false := decide_eq_false (by omega)
    have d1' : decide ((bs (b :: r)).size < 1) = false := decide_eq_false (by omega)
    by_cases h16 : r.length < 16
    · have d2 : decide ((16 : Int) < ((bs (b :: r)).size : Int)) = false := decide_eq_false (by omega)
      have d2' : decide (16 < (bs (b :: r)).size) = false := decide_eq_false (by omega)
      rw [decide_eq_true h16]
      cases hb : isL b
      · rw [hb] at hLt
        clear hb hIn
        go_enter Tryd.func31, Tryd.ntmps31
        go_wp2_with (go_at_call 45; first | (refine (hLt _).mono ?_; rintro e w' ⟨rfl, rfl⟩) | (rw [g0]; refine (hLt _).mono ?_; rintro e w' ⟨rfl, rfl⟩))
        go_ret
        exact ⟨rfl, rfl⟩
      · rw [hb] at hLt
        clear hb
        cases ib
        · go_enter Tryd.func31, Tryd.ntmps31
          go_wp2_with (first | (go_at_call 45; first | (refine (hLt _).mono ?_; rintro e w' ⟨rfl, rfl⟩) | (rw [g0]; refine (hLt _).mono ?_; rintro e w' ⟨rfl, rfl⟩)) | (go_at_call 46; refine (hIn _).mono ?_; rintro e w' ⟨rfl, rfl⟩))
          go_loopw [3] (fun iv Wr => ∃ k : Nat, iv = .int .i64 (k : Int) ∧ 1 ≤ k ∧ k ≤ r.length + 1 ∧ Hid ((((b :: r) : Bs).drop k).all isLD = R) ∧ w' = Wr) (fun iv _ => r.length + 2 - (intOf iv).toNat)
          case atStart => exact ⟨1, rfl, by omega, by omega, (by show _ = _; rw [HR.out]; rfl), rfl⟩
          case round =>
            obtain ⟨k, rfl, hk0, hk1, HI, rfl⟩ := hrel
            clear hLt hIn g0 d1 d1' d2 d2'
            obtain ⟨T, hT⟩ : ∃ T : Bs, T = b :: r := ⟨_, rfl⟩
            rw [← hT] at HI hz
            obtain ⟨n, hn⟩ : ∃ n, n = r.length + 1 := ⟨_, rfl⟩
            have hrn : n - 1 = r.length := by omega
            have hn1 : 1 ≤ n := by omega
            simp only [← hT, ← hn] at *
            have hTn : T.length = n := hz
            clear hT hn
            by_cases hk : k < n
            · have hks : k < (bs T).size := by omega
              have hd : decide ((k : Int) < ((bs T).size : Int)) = true := decide_eq_true (by omega)
              have hd2 : decide (k < (bs T).size) = true := decide_eq_true hks
              have hdn : decide ((k : Int) < (n : Int)) = true := decide_eq_true (by omega)
              have hi0 : (0 : Int) ≤ (k : Int) := by omega
              have hm : (k : Int) + 1 ≤ 9223372036854775807 := by omega
              obtain ⟨cc, hcc⟩ : ∃ cc, cc = (bs T)[k] := ⟨_, rfl⟩
              have hst : (T.drop k).all isLD = (isLD cc && (T.drop (k + 1)).all isLD) := by
                rw [hcc]
                have hkT : k < T.length := by omega
                rw [show T.drop k = T[k] :: T.drop (k + 1) from List.drop_eq_getElem_cons hkT, List.all_cons]
                rfl
              have hI := HI.out
              rw [hst] at hI
              have hL := fun W => rLt_any W cc
              have hD := fun W => rDg_any W cc
              have hLD : isLD cc = (isL cc || digB cc) := rfl
              rw [hLD] at hI
              generalize isL cc = x1 at *
              generalize digB cc = x2 at *
              clear hst hLD
              cases x1
              · cases x2
                · have HT : Hid (false = R) := hI
                  clear hI
                  go_wp2_with (first | (go_at_call 45; rw [← hcc]; refine (hL _).mono ?_; rintro e w' ⟨rfl, rfl⟩) | (go_at_call 47; rw [← hcc]; refine (hD _).mono ?_; rintro e w' ⟨rfl, rfl⟩))
                  go_ret
                  exact ⟨congrArg (fun x => Ending.returned (.bool x)) HT.out, rfl⟩
                · have HT : Hid ((T.drop (k + 1)).all isLD = R) := hI
                  clear hI
                  go_wp2_with (first | (go_at_call 45; rw [← hcc]; refine (hL _).mono ?_; rintro e w' ⟨rfl, rfl⟩) | (go_at_call 47; rw [← hcc]; refine (hD _).mono ?_; rintro e w' ⟨rfl, rfl⟩))
                  go_roundw
                  case rel => exact ⟨k + 1, by go_num, by omega, by omega, HT, trivial⟩
                  case measure => simp [intOf]; omega
              · have HT : Hid ((T.drop (k + 1)).all isLD = R) := hI
                clear hI
                go_wp2_with (first | (go_at_call 45; rw [← hcc]; refine (hL _).mono ?_; rintro e w' ⟨rfl, rfl⟩) | (go_at_call 47; rw [← hcc]; refine (hD _).mono ?_; rintro e w' ⟨rfl, rfl⟩))
                go_roundw
                case rel => exact ⟨k + 1, by go_num, by omega, by omega, HT, trivial⟩
                case measure => simp [intOf]; omega
            · obtain rfl : k = n := by omega
              have hd : decide ((k : Int) < ((bs T).size : Int)) = false := decide_eq_false (by omega)
              have hd2 : decide (k < (bs T).size) = false := decide_eq_false (by omega)
              have HT : Hid (true = R) := by show _ = _; rw [← HI.out, ← hTn, List.drop_length]; rfl
              clear HI
              go_wp2_with fail
              go_ret
              exact ⟨congrArg (fun x => Ending.returned (.bool x)) HT.out, rfl⟩
        · go_enter Tryd.func31, Tryd.ntmps31
          go_wp2_with (first | (go_at_call 45; first | (refine (hLt _).mono ?_; rintro e w' ⟨rfl, rfl⟩) | (rw [g0]; refine (hLt _).mono ?_; rintro e w' ⟨rfl, rfl⟩)) | (go_at_call 46; refine (hIn _).mono ?_; rintro e w' ⟨rfl, rfl⟩))
          go_ret
          exact ⟨rfl, rfl⟩
    · have d2 : decide ((16 : Int) < ((bs (b :: r)).size : Int)) = true := decide_eq_true (by omega)
      have d2' : decide (16 < (bs (b :: r)).size) = true := decide_eq_true (by omega)
      rw [decide_eq_false h16]
      clear hIn hLt
      go_enter Tryd.func31, Tryd.ntmps31
      go_wp2
      go_ret
      exact ⟨rfl, rfl⟩
set_option maxHeartbeats 1000000 in
theorem rStr_any (l : Bs) (_hl : l.length ≤ 140737488355328) (w : World) : Calls Tryd.prog 38 #[.string (bs l)] w fun e w' => e = .returned (.int .i64 ((bnd l).1 : Int)) ∧ w' = w := by
  rw [← stR_eq]
  have h3 := fun W => rIn_any l (wds oc3) (by decide) W
  have h4 := fun W => rIn_any l (wds oc4) (by decide) W
  have h5 := fun W => rIn_any l (wds oc5) (by decide) W
  have h7 := fun W => rIn_any l (wds oc7) (by decide) W
  have s3 : bs (wds oc3) = ⟨#[61, 61, 32, 33, 61, 32, 60, 32, 60, 61, 32, 62, 32, 62, 61, 32]⟩ := rfl
  have s4 : bs (wds oc4) = ⟨#[43, 32, 45, 32, 124, 32, 94, 32]⟩ := rfl
  have s5 : bs (wds oc5) = ⟨#[42, 32, 47, 32, 37, 32, 38, 32, 60, 60, 32, 62, 62, 32]⟩ := rfl
  have s7 : bs (wds oc7) = ⟨#[109, 105, 110, 32, 109, 97, 120, 32]⟩ := rfl
  rw [s3] at h3
  rw [s4] at h4
  rw [s5] at h5
  rw [s7] at h7
  clear s3 s4 s5 s7
  have e1 : ((bs l).toList == [124, 124]) = decide (l = [124, 124]) := by rw [bs_toList]; by_cases h : l = [124, 124] <;> simp [h]
  have e2 : ((bs l).toList == [38, 38]) = decide (l = [38, 38]) := by rw [bs_toList]; by_cases h : l = [38, 38] <;> simp [h]
  have hs : stR l = (if decide (l = [124, 124]) then 1 else if decide (l = [38, 38]) then 2 else if inB l [] (wds oc3) then 3 else if inB l [] (wds oc4) then 4 else if inB l [] (wds oc5) then 5 else if inB l [] (wds oc7) then 7 else 0) := by
    unfold stR; simp only [decide_eq_true_eq]
  rw [hs]
  clear hs
  generalize decide (l = [124, 124]) = b1 at *
  generalize decide (l = [38, 38]) = b2 at *
  generalize inB l [] (wds oc3) = b3 at *
  generalize inB l [] (wds oc4) = b4 at *
  generalize inB l [] (wds oc5) = b5 at *
  generalize inB l [] (wds oc7) = b7 at *
  generalize bs l = U at *
  cases b1
  · cases b2
    · cases b3
      · cases b4
        · cases b5
          · cases b7
            · go_enter Tryd.func38, Tryd.ntmps38
              go_wp2_with (go_at_call 46; first | (refine (h3 _).mono ?_; clear h3; rintro e w' ⟨rfl, rfl⟩) | (refine (h4 _).mono ?_; clear h4; rintro e w' ⟨rfl, rfl⟩) | (refine (h5 _).mono ?_; clear h5; rintro e w' ⟨rfl, rfl⟩) | (refine (h7 _).mono ?_; clear h7; rintro e w' ⟨rfl, rfl⟩))
              go_ret
              exact ⟨rfl, rfl⟩
            · go_enter Tryd.func38, Tryd.ntmps38
              go_wp2_with (go_at_call 46; first | (refine (h3 _).mono ?_; clear h3; rintro e w' ⟨rfl, rfl⟩) | (refine (h4 _).mono ?_; clear h4; rintro e w' ⟨rfl, rfl⟩) | (refine (h5 _).mono ?_; clear h5; rintro e w' ⟨rfl, rfl⟩) | (refine (h7 _).mono ?_; clear h7; rintro e w' ⟨rfl, rfl⟩))
              go_ret
              exact ⟨rfl, rfl⟩
          · go_enter Tryd.func38, Tryd.ntmps38
            go_wp2_with (go_at_call 46; first | (refine (h3 _).mono ?_; clear h3; rintro e w' ⟨rfl, rfl⟩) | (refine (h4 _).mono ?_; clear h4; rintro e w' ⟨rfl, rfl⟩) | (refine (h5 _).mono ?_; clear h5; rintro e w' ⟨rfl, rfl⟩) | (refine (h7 _).mono ?_; clear h7; rintro e w' ⟨rfl, rfl⟩))
            go_ret
            exact ⟨rfl, rfl⟩
        · go_enter Tryd.func38, Tryd.ntmps38
          go_wp2_with (go_at_call 46; first | (refine (h3 _).mono ?_; clear h3; rintro e w' ⟨rfl, rfl⟩) | (refine (h4 _).mono ?_; clear h4; rintro e w' ⟨rfl, rfl⟩) | (refine (h5 _).mono ?_; clear h5; rintro e w' ⟨rfl, rfl⟩) | (refine (h7 _).mono ?_; clear h7; rintro e w' ⟨rfl, rfl⟩))
          go_ret
          exact ⟨rfl, rfl⟩
      · go_enter Tryd.func38, Tryd.ntmps38
        go_wp2_with (go_at_call 46; first | (refine (h3 _).mono ?_; clear h3; rintro e w' ⟨rfl, rfl⟩) | (refine (h4 _).mono ?_; clear h4; rintro e w' ⟨rfl, rfl⟩) | (refine (h5 _).mono ?_; clear h5; rintro e w' ⟨rfl, rfl⟩) | (refine (h7 _).mono ?_; clear h7; rintro e w' ⟨rfl, rfl⟩))
        go_ret
        exact ⟨rfl, rfl⟩
    · go_enter Tryd.func38, Tryd.ntmps38
      go_wp2_with (go_at_call 46; first | (refine (h3 _).mono ?_; clear h3; rintro e w' ⟨rfl, rfl⟩) | (refine (h4 _).mono ?_; clear h4; rintro e w' ⟨rfl, rfl⟩) | (refine (h5 _).mono ?_; clear h5; rintro e w' ⟨rfl, rfl⟩) | (refine (h7 _).mono ?_; clear h7; rintro e w' ⟨rfl, rfl⟩))
      go_ret
      exact ⟨rfl, rfl⟩
  · go_enter Tryd.func38, Tryd.ntmps38
    go_wp2_with (go_at_call 46; first | (refine (h3 _).mono ?_; clear h3; rintro e w' ⟨rfl, rfl⟩) | (refine (h4 _).mono ?_; clear h4; rintro e w' ⟨rfl, rfl⟩) | (refine (h5 _).mono ?_; clear h5; rintro e w' ⟨rfl, rfl⟩) | (refine (h7 _).mono ?_; clear h7; rintro e w' ⟨rfl, rfl⟩))
    go_ret
    exact ⟨rfl, rfl⟩
end Go.Proofs.YtehblpbefkopbaaDoor
