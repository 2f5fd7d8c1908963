import Derived.Test.YtehblpbefkopbaaDoorXaA
namespace Go.Proofs.YtehblpbefkopbaaDoor
/-! A tree's sizes and names, without memory. -/
def wth (a b : Nat × Nat) : Nat × Nat := (max a.1 b.1, a.2 + b.2)
def undr (a : Nat × Nat) : Nat × Nat := (a.1 + 1, min (a.2 + 1) 513)
theorem wth_zero (a : Nat × Nat) : wth (0, 0) a = a := by simp [wth]
theorem wth_zero' (a : Nat × Nat) : wth a (0, 0) = a := by simp [wth]
theorem wth_assoc (a b c : Nat × Nat) : wth (wth a b) c = wth a (wth b c) := by simp [wth, Nat.max_assoc, Nat.add_assoc]
/-- A name more, if it is a new one and there is room for it. -/
def nmAdd (ns : List Bs) (w : Bs) : List Bs := if ns.length ≤ 8 ∧ ns.contains w = false then ns ++ [w] else ns
/-- Can such an expression be? (its parts aside) -/
def okE (k n : Int) (w : Bs) (len : Nat) : Bool :=
  if k = 1 then decide (0 ≤ n) && w.isEmpty && decide (len = 0)
  else if k = 2 then decide (n = 0) && isNm w && decide (len = 0)
  else if k = 3 ∨ k = 4 ∨ k = 5 ∨ k = 6 then decide (n = 0) && w.isEmpty && decide (len = 1)
  else if k = 7 then decide (n = 0) && decide (0 < (bnd w).1) && decide (len = 2)
  else false
def isZr : Tr → Bool
  | .mk k n w ps => decide (k = 0) && decide (n = 0) && w.isEmpty && ps.isEmpty
/-- Which fields a kind of statements uses: word, A, B, Then, Else. -/
def usW (k : Int) : Bool := decide (k = 1)
def usA (k : Int) : Bool := decide (k = 1) || decide (k = 2) || decide (k = 3) || decide (k = 4) || decide (k = 5) || decide (k = 7)
def usB (k : Int) : Bool := decide (k = 2)
def usT (k : Int) : Bool := decide (k = 4) || decide (k = 5)
def usE (k : Int) : Bool := decide (k = 4)
def okS (k : Int) (wd : Bs) (a b : Tr) (nt ne : Nat) : Bool :=
  decide (1 ≤ k) && decide (k ≤ 7) && (if usW k then isNm wd else wd.isEmpty) && (usA k || isZr a) && (usB k || isZr b) && (usT k || decide (nt = 0)) && (usE k || decide (ne = 0))
mutual
def szE : Tr → Nat × Nat
  | .mk k n w ps => if okE k n w ps.length then undr (szL ps) else (0, 0)
def szL : List Tr → Nat × Nat
  | [] => (0, 0)
  | t :: r => wth (szE t) (szL r)
end
mutual
def wrE : Tr → Bool
  | .mk k n w ps => if okE k n w ps.length then wrL ps else true
def wrL : List Tr → Bool
  | [] => false
  | t :: r => wrE t || wrL r
end
mutual
def nmE : Tr → List Bs → List Bs
  | .mk k n w ps, ns => if okE k n w ps.length then nmL ps (if k = 2 then nmAdd ns w else ns) else ns
def nmL : List Tr → List Bs → List Bs
  | [], ns => ns
  | t :: r, ns => nmL r (nmE t ns)
end
mutual
def szS : St → Nat × Nat
  | .mk k wd a b th el => if okS k wd a b th.length el.length then undr (wth (wth (wth (if usA k then szE a else (0, 0)) (if usB k then szE b else (0, 0))) (szSL th)) (szSL el)) else (0, 0)
def szSL : List St → Nat × Nat
  | [] => (0, 0)
  | t :: r => wth (szS t) (szSL r)
end
mutual
def wrS : St → Bool
  | .mk k wd a b th el => if okS k wd a b th.length el.length then (if usA k then wrE a else false) || (if usB k then wrE b else false) || wrSL th || wrSL el else true
def wrSL : List St → Bool
  | [] => false
  | t :: r => wrS t || wrSL r
end
mutual
def nmS : St → List Bs → List Bs
  | .mk k wd a b th el, ns => if okS k wd a b th.length el.length then nmSL el (nmSL th ((if usB k then nmE b else id) ((if usA k then nmE a else id) (if usW k then nmAdd ns wd else ns)))) else ns
def nmSL : List St → List Bs → List Bs
  | [], ns => ns
  | t :: r, ns => nmSL r (nmS t ns)
end
mutual
/-- How much there is of a tree. -/
def bgE : Tr → Nat
  | .mk _ _ _ ps => 1 + bgL ps
def bgL : List Tr → Nat
  | [] => 0
  | t :: r => bgE t + bgL r
end
mutual
def bgS : St → Nat
  | .mk _ _ a b th el => 1 + bgE a + bgE b + bgSL th + bgSL el
def bgSL : List St → Nat
  | [] => 0
  | t :: r => bgS t + bgSL r
end
theorem bgE_pos : ∀ t : Tr, 1 ≤ bgE t
  | .mk _ _ _ _ => by unfold bgE; omega
theorem bgS_pos : ∀ t : St, 1 ≤ bgS t
  | .mk _ _ _ _ _ _ => by unfold bgS; omega
theorem bgL_len : ∀ l : List Tr, l.length ≤ bgL l
  | [] => Nat.le_refl _
  | t :: r => by have := bgL_len r; have := bgE_pos t; unfold bgL; rw [List.length_cons]; omega
theorem bgSL_len : ∀ l : List St, l.length ≤ bgSL l
  | [] => Nat.le_refl _
  | t :: r => by have := bgSL_len r; have := bgS_pos t; unfold bgSL; rw [List.length_cons]; omega
mutual
theorem szE_le : ∀ t : Tr, (szE t).1 ≤ bgE t ∧ (szE t).2 ≤ bgE t
  | .mk k n w ps => by
    have := szL_le ps
    unfold szE bgE undr
    split <;> simp only <;> omega
theorem szL_le : ∀ l : List Tr, (szL l).1 ≤ bgL l ∧ (szL l).2 ≤ bgL l
  | [] => ⟨Nat.le_refl _, Nat.le_refl _⟩
  | t :: r => by
    have := szL_le r
    have := szE_le t
    unfold szL bgL wth
    simp only
    omega
end
mutual
theorem szS_le : ∀ t : St, (szS t).1 ≤ bgS t ∧ (szS t).2 ≤ bgS t
  | .mk k wd a b th el => by
    have := szSL_le th
    have := szSL_le el
    have := szE_le a
    have := szE_le b
    unfold szS bgS undr wth
    split
    · split <;> split <;> simp only <;> omega
    · simp only; omega
theorem szSL_le : ∀ l : List St, (szSL l).1 ≤ bgSL l ∧ (szSL l).2 ≤ bgSL l
  | [] => ⟨Nat.le_refl _, Nat.le_refl _⟩
  | t :: r => by
    have := szSL_le r
    have := szS_le t
    unfold szSL bgSL wth
    simp only
    omega
end
/-- A list of names that has grown. -/
def Ext (ns ns' : List Bs) : Prop := ∃ q, ns' = ns ++ q
theorem Ext.refl (ns : List Bs) : Ext ns ns := ⟨[], by simp⟩
theorem Ext.trans {a b c : List Bs} (h : Ext a b) (k : Ext b c) : Ext a c := by
  obtain ⟨p, rfl⟩ := h
  obtain ⟨q, rfl⟩ := k
  exact ⟨p ++ q, by simp⟩
theorem nmAdd_ext (ns : List Bs) (w : Bs) : Ext ns (nmAdd ns w) := by
  unfold nmAdd
  split
  · exact ⟨[w], rfl⟩
  · exact Ext.refl _
theorem nmAdd_again {ns ns' : List Bs} {w : Bs} (h : Ext (nmAdd ns w) ns') : nmAdd ns' w = ns' := by
  unfold nmAdd
  rw [if_neg]
  rintro ⟨h1, h2⟩
  obtain ⟨q, rfl⟩ := h
  unfold nmAdd at h1 h2
  split at h1
  · rename_i hc
    rw [if_pos hc] at h2
    simp at h2
  · rename_i hc
    rw [if_neg hc] at h2
    refine hc ⟨by rw [List.length_append] at h1; omega, ?_⟩
    rw [List.contains_eq_mem, decide_eq_false_iff_not] at h2 ⊢
    exact fun e => h2 (List.mem_append_left _ e)
mutual
theorem nmE_ext : ∀ (t : Tr) (ns : List Bs), Ext ns (nmE t ns)
  | .mk k n w ps, ns => by
    unfold nmE
    split
    · refine Ext.trans ?_ (nmL_ext ps _)
      split
      · exact nmAdd_ext _ _
      · exact Ext.refl _
    · exact Ext.refl _
theorem nmL_ext : ∀ (l : List Tr) (ns : List Bs), Ext ns (nmL l ns)
  | [], ns => by unfold nmL; exact Ext.refl _
  | t :: r, ns => by unfold nmL; exact (nmE_ext t ns).trans (nmL_ext r _)
end
mutual
theorem nmE_again : ∀ (t : Tr) (ns ns' : List Bs), Ext (nmE t ns) ns' → nmE t ns' = ns'
  | .mk k n w ps, ns, ns', h => by
    unfold nmE at h ⊢
    split
    · rename_i hk
      rw [if_pos hk] at h
      by_cases h2 : k = 2
      · rw [if_pos h2] at h ⊢
        rw [nmAdd_again (h := (nmL_ext ps _).trans h)]
        exact nmL_again ps _ ns' h
      · rw [if_neg h2] at h ⊢
        exact nmL_again ps _ ns' h
    · rfl
theorem nmL_again : ∀ (l : List Tr) (ns ns' : List Bs), Ext (nmL l ns) ns' → nmL l ns' = ns'
  | [], ns, ns', _ => by unfold nmL; rfl
  | t :: r, ns, ns', h => by
    unfold nmL at h ⊢
    rw [nmE_again t ns ns' ((nmL_ext r _).trans h)]
    exact nmL_again r _ ns' h
end
theorem opt_ext (c : Bool) (t : Tr) (ns : List Bs) : Ext ns ((if c then nmE t else id) ns) := by
  cases c
  · exact Ext.refl _
  · exact nmE_ext t ns
mutual
theorem nmS_ext : ∀ (t : St) (ns : List Bs), Ext ns (nmS t ns)
  | .mk k wd a b th el, ns => by
    unfold nmS
    split
    · refine Ext.trans ?_ (nmSL_ext el _)
      refine Ext.trans ?_ (nmSL_ext th _)
      refine Ext.trans ?_ (opt_ext (usB k) b _)
      refine Ext.trans ?_ (opt_ext (usA k) a _)
      split
      · exact nmAdd_ext _ _
      · exact Ext.refl _
    · exact Ext.refl _
theorem nmSL_ext : ∀ (l : List St) (ns : List Bs), Ext ns (nmSL l ns)
  | [], ns => by unfold nmSL; exact Ext.refl _
  | t :: r, ns => by unfold nmSL; exact (nmS_ext t ns).trans (nmSL_ext r _)
end
theorem opt_again (c : Bool) (t : Tr) (ns ns' : List Bs) (h : Ext ((if c then nmE t else id) ns) ns') : (if c then nmE t else id) ns' = ns' := by
  cases c
  · rfl
  · exact nmE_again t ns ns' h
mutual
theorem nmS_again : ∀ (t : St) (ns ns' : List Bs), Ext (nmS t ns) ns' → nmS t ns' = ns'
  | .mk k wd a b th el, ns, ns', h => by
    unfold nmS at h ⊢
    split
    · rename_i hk
      rw [if_pos hk] at h
      have h4 := nmSL_again el _ ns' h
      have h3' := (nmSL_ext el _).trans h
      have h3 := nmSL_again th _ ns' h3'
      have h2' := (nmSL_ext th _).trans h3'
      have h2 := opt_again (usB k) b _ ns' h2'
      have h1' := (opt_ext (usB k) b _).trans h2'
      have h1 := opt_again (usA k) a _ ns' h1'
      have h0' := (opt_ext (usA k) a _).trans h1'
      have h0 : (if usW k then nmAdd ns' wd else ns') = ns' := by
        split
        · rename_i hw
          rw [if_pos hw] at h0'
          exact nmAdd_again h0'
        · rfl
      rw [h0, h1, h2, h3, h4]
    · rfl
theorem nmSL_again : ∀ (l : List St) (ns ns' : List Bs), Ext (nmSL l ns) ns' → nmSL l ns' = ns'
  | [], ns, ns', _ => by unfold nmSL; rfl
  | t :: r, ns, ns', h => by
    unfold nmSL at h ⊢
    rw [nmS_again t ns ns' ((nmSL_ext r _).trans h)]
    exact nmSL_again r _ ns' h
end
/-- What Check answers. -/
def chk (l : List St) : Int := if wrSL l then 235 else if 8 < (nmSL l []).length then 232 else if 24 < (szSL l).1 then 233 else if 512 < (szSL l).2 then 234 else 0
end Go.Proofs.YtehblpbefkopbaaDoor
