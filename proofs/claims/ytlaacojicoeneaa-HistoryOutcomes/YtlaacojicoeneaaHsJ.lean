import Derived.Test.YtlaacojicoeneaaHsG
import Derived.Test.YtlaacojicoeneaaHsI
namespace Go.Proofs.Ytlaacojicoeneaa
open Go.RowKit
/-- Rules 2 to 6. -/
def plD (l : List Rw) (g : Nat → Int) (r : Rw) : Bool :=
  if r.kind = 0 then plS r else if r.thread < 0 ∨ 6 ≤ r.thread then false
  else if g r.thread.toNat = -1 then plN g r else plQ g r (l.getD (g r.thread.toNat).toNat rw0)
def docOK (l : List Rw) (g : Nat → Int) (r : Rw) : Bool :=
  !decide (r.kind < 0) && !decide (17 < r.kind) && plD l g r && endD r && readD r (g (6 + r.thread.toNat))
/-- The keeper and the book have gone through the same rows. -/
structure Rl (l : List Rw) (i : Nat) (f g : Nat → Int) : Prop where
  cnt : ∀ t, t < 6 → f (t * 5 + 4) = g (6 + t)
  beg : f 30 = g 13
  att : f 31 = g 12
  las : ∀ t, t < 6 → (g t = -1 ∧ f (t * 5) = 0 ∧ f (t * 5 + 1) = -1) ∨ ∃ j : Nat, j < i ∧ g t = (j : Int) ∧ f (t * 5) = stR (l.getD j rw0) ∧ f (t * 5 + 1) = (l.getD j rw0).job ∧ f (t * 5 + 2) = (l.getD j rw0).try_ ∧ f (t * 5 + 3) = (l.getD j rw0).no
theorem Rl.start (l : List Rw) : Rl l 0 (f0 6) (g0 6) := by
  refine ⟨fun t ht => ?_, rfl, rfl, fun t ht => .inl ⟨?_, ?_, ?_⟩⟩
  · unfold f0 g0
    rw [if_neg (by omega), if_neg (by omega)]
  · unfold g0
    rw [if_pos ht]
  · unfold f0
    rw [if_neg (by omega)]
  · unfold f0
    rw [if_pos (by omega)]
theorem end_no {r : Rw} (h : ofD r.kind = false) : endD r = (r.fin == 0) := by
  have hc : comm r = false := by
    unfold comm
    have : (r.kind == 15) = false := by
      refine beq_eq_false_iff_ne.2 (fun e => ?_)
      rw [e] at h
      cases h
    rw [this]; rfl
  unfold endD
  rw [h, hc]
  by_cases e : r.fin = 0
  · rw [e]; rfl
  · have e1 : (r.fin == 0) = false := beq_eq_false_iff_ne.2 e
    have e2 : (r.fin != 0) = true := by simp [e]
    rw [e1, e2]
    simp
theorem read_no {r : Rw} {n : Int} (h : ofD r.kind = false) : readD r n = (!r.told && !r.puts) := by
  unfold readD
  rw [h]; rfl
theorem sil_no {r : Rw} {n : Int} (h : ofD r.kind = false) : (endD r && readD r n) = sil r := by
  rw [end_no h, read_no h]
  unfold sil
  rw [Bool.and_assoc]
theorem doc_no {l : List Rw} {g : Nat → Int} {r : Rw} (h : ofD r.kind = false) : docOK l g r = (!decide (r.kind < 0) && !decide (17 < r.kind) && plD l g r && sil r) := by
  unfold docOK
  rw [Bool.and_assoc, sil_no h]
theorem ofd_x {k : Int} (h1 : k ≠ 0) (h2 : k ≠ 1) (h3 : k ≠ 2) (h4 : k ≠ 17) : ofD k = true := by
  simp [ofD, h1, h2, h3, h4]
theorem end_yes {r : Rw} (h : ofD r.kind = true) : endD r = endP r := by
  unfold endD endP
  rw [h]
  by_cases g : r.fin = 0 ∨ r.fin = 1 ∨ r.fin = 2 ∨ r.fin = 3 ∨ r.fin = 4 ∨ r.fin = 5
  · rcases g with e | e | e | e | e | e <;> rw [e] <;> cases hc : comm r <;> simp
    all_goals
      unfold comm at hc
      simp only [Bool.and_eq_true, beq_iff_eq] at hc
      omega
  · have e1 : (decide (r.fin < 0) || decide (5 < r.fin) || (r.fin != 0 && !true)) = true := by
      by_cases g1 : r.fin < 0
      · simp [g1]
      · have : 5 < r.fin := by omega
        simp [this]
    rw [if_pos e1, if_neg (by omega), if_neg (by omega), if_neg (by omega)]
theorem fit_doc {l : List Rw} {i : Nat} {f g : Nat → Int} (h : Rl l i f g) (r : Rw) : fitP f r r.thread.toNat = docOK l g r := by
  by_cases h0 : r.kind = 0
  · have ho : ofD r.kind = false := by rw [h0]; rfl
    have e1 : plD l g r = plS r := by unfold plD; rw [if_pos h0]
    rw [doc_no ho, e1, h0]
    unfold fitP plS
    rw [if_pos h0, Bool.eq_iff_iff]
    simp
    intro _ _
    omega
  by_cases ha : r.thread < 0 ∨ 6 ≤ r.thread
  · have e1 : plD l g r = false := by unfold plD; rw [if_neg h0, if_pos ha]
    unfold docOK
    rw [e1]
    unfold fitP
    rw [if_neg h0, if_pos ha]
    simp
  have ht : r.thread.toNat < 6 := by omega
  generalize hth : r.thread.toNat = t at *
  have e1 : plD l g r = if g t = -1 then plN g r else plQ g r (l.getD (g t).toNat rw0) := by
    unfold plD
    rw [if_neg h0, if_neg ha, hth]
  have hcn := h.cnt t ht
  have hbe := h.beg
  have hat := h.att
  unfold fitP
  rw [if_neg h0, if_neg ha, hcn, hbe, hat]
  by_cases h1 : r.kind = 1
  · have ho : ofD r.kind = false := by rw [h1]; rfl
    rw [doc_no ho, e1, if_pos h1]
    rcases h.las t ht with ⟨a1, a2, a3⟩ | ⟨j, hj, a1, a2, a3, a4, a5⟩
    · rw [if_pos a1, a2, a3]
      unfold plN
      rw [h1]
      unfold eq3
      simp [Bool.and_assoc]
    · rw [if_neg (by omega), a1, a2, a3]
      unfold plQ
      rw [if_pos h1, h1, Int.toNat_natCast]
      unfold eq3
      simp [Bool.and_assoc]
  by_cases h2 : r.kind = 2
  · have ho : ofD r.kind = false := by rw [h2]; rfl
    rw [doc_no ho, e1, if_neg h1, if_pos h2]
    rcases h.las t ht with ⟨a1, a2, a3⟩ | ⟨j, hj, a1, a2, a3, a4, a5⟩
    · rw [if_pos a1, a2]
      unfold plN
      rw [h2]
      simp
    · rw [if_neg (by omega), a1, a2, a3, a4]
      unfold plQ
      rw [if_neg h1, if_pos h2, h2, Int.toNat_natCast]
      simp
  by_cases h17 : r.kind = 17
  · have ho : ofD r.kind = false := by rw [h17]; rfl
    rw [doc_no ho, e1, if_neg h1, if_neg h2, if_pos h17]
    rcases h.las t ht with ⟨a1, a2, a3⟩ | ⟨j, hj, a1, a2, a3, a4, a5⟩
    · rw [if_pos a1, a2]
      unfold plN
      rw [h17]
      simp
    · rw [if_neg (by omega), a1, a2, a3, a4, a5]
      unfold plQ
      rw [if_neg h1, if_neg h2, if_pos h17, h17, Int.toNat_natCast]
      simp
  have ho := ofd_x h0 h1 h2 h17
  have er : readD r (g (6 + t)) = readP r (g (6 + t)) := by unfold readD; rw [ho]; rfl
  unfold docOK
  rw [hth, e1, end_yes ho, er, if_neg h1, if_neg h2, if_neg h17]
  have hoA : ofA r.kind = (!decide (r.kind < 0) && !decide (17 < r.kind)) := by
    unfold ofA
    rw [Bool.eq_iff_iff]
    simp
    omega
  rw [hoA]
  rcases h.las t ht with ⟨a1, a2, a3⟩ | ⟨j, hj, a1, a2, a3, a4, a5⟩
  · have e2 : plN g r = false := by
      unfold plN
      have : (r.kind == 1) = false := beq_eq_false_iff_ne.2 h1
      rw [this]; rfl
    rw [if_pos a1, a2, e2]
    simp
  · rw [if_neg (by omega), a1, a2, a3, a4, a5]
    unfold plQ
    rw [if_neg h1, if_neg h2, if_neg h17, Int.toNat_natCast]
    simp [Bool.and_assoc]
theorem Rl.next {l : List Rw} {i : Nat} {f g : Nat → Int} (h : Rl l i f g) {r : Rw} (hr : l.getD i rw0 = r) (hf : fitP f r r.thread.toNat = true) : Rl l (i + 1) (folP f r r.thread.toNat) (kpD g r r.thread.toNat (i : Int)) := by
  by_cases h0 : r.kind = 0
  · unfold folP kpD
    rw [if_pos h0, if_pos h0]
    refine ⟨h.cnt, h.beg, h.att, fun t ht => ?_⟩
    rcases h.las t ht with e | ⟨j, hj, e⟩
    · exact .inl e
    · exact .inr ⟨j, by omega, e⟩
  have ha := fit_away hf h0
  have hth : r.thread.toNat < 6 := by omega
  generalize r.thread.toNat = u at *
  unfold fitP at hf
  rw [if_neg h0, if_neg (by omega)] at hf
  have hcu := h.cnt u hth
  -- what is left of the other threads
  have key : ∀ (F G : Nat → Int), (∀ t, t < 6 → t ≠ u → (∀ k, k < 5 → F (t * 5 + k) = f (t * 5 + k)) ∧ G t = g t ∧ G (6 + t) = g (6 + t)) → F (u * 5 + 4) = G (6 + u) → F 30 = G 13 → F 31 = G 12 → G u = (i : Int) → F (u * 5) = stR r → F (u * 5 + 1) = r.job → F (u * 5 + 2) = r.try_ → F (u * 5 + 3) = r.no → Rl l (i + 1) F G := by
    intro F G ho e1 e2 e3 e4 e5 e6 e7 e8
    refine ⟨fun t ht => ?_, e2, e3, fun t ht => ?_⟩
    · by_cases e : t = u
      · rw [e]; exact e1
      · obtain ⟨o1, o2, o3⟩ := ho t ht e
        rw [o1 4 (by omega), o3]
        exact h.cnt t ht
    · by_cases e : t = u
      · rw [e]
        exact .inr ⟨i, by omega, e4, by rw [hr]; exact ⟨e5, e6, e7, e8⟩⟩
      · obtain ⟨o1, o2, o3⟩ := ho t ht e
        have p0 : F (t * 5) = f (t * 5) := o1 0 (by omega)
        rw [p0, o1 1 (by omega), o1 2 (by omega), o1 3 (by omega), o2]
        rcases h.las t ht with e | ⟨j, hj, e⟩
        · exact .inl e
        · exact .inr ⟨j, by omega, e⟩
  by_cases h1 : r.kind = 1
  · rw [if_pos h1] at hf
    simp only [Bool.and_eq_true, sil_iff] at hf
    obtain ⟨-, s1, s2, -⟩ := hf
    have es : stR r = 1 := by unfold stR; rw [h1, s1]; rfl
    have eF : folP f r u = up (up (up (up (fol1 f r u) 30 (f 30 + 1)) 31 (f 31 + 1)) (u * 5) 1) (u * 5 + 4) 0 := by
      unfold folP fol3 fol2
      rw [h1, s1, s2]
      rfl
    have eG : kpD g r u (i : Int) = up (up (up (up g u i) 12 (g 12 + 1)) (6 + u) 0) 13 (g 13 + 1) := by
      unfold kpD
      rw [h1]
      rfl
    rw [eF, eG]
    unfold fol1
    refine key _ _ (fun t ht hne => ⟨fun k hk => ?_, ?_, ?_⟩) ?_ ?_ ?_ ?_ ?_ ?_ ?_ ?_
    · rw [up_other (by omega), up_other (by omega), up_other (by omega), up_other (by omega), up_other (by omega), up_other (by omega), up_other (by omega)]
    · rw [up_other (by omega), up_other (by omega), up_other (by omega), up_other (by omega)]
    · rw [up_other (by omega), up_other (by omega), up_other (by omega), up_other (by omega)]
    · rw [up_same, up_other (by omega), up_same]
    · rw [up_other (by omega), up_other (by omega), up_other (by omega), up_same, up_same, h.beg]
    · rw [up_other (by omega), up_other (by omega), up_same, up_other (by omega), up_other (by omega), up_same, h.att]
    · rw [up_other (by omega), up_other (by omega), up_other (by omega), up_same]
    · rw [up_other (by omega), up_same, es]
    · rw [up_other (by omega), up_other (by omega), up_other (by omega), up_other (by omega), up_other (by omega), up_other (by omega), up_same]
    · rw [up_other (by omega), up_other (by omega), up_other (by omega), up_other (by omega), up_other (by omega), up_same]
    · rw [up_other (by omega), up_other (by omega), up_other (by omega), up_other (by omega), up_same]
  by_cases h2 : r.kind = 2
  · rw [if_neg h1, if_pos h2] at hf
    simp only [Bool.and_eq_true, sil_iff] at hf
    obtain ⟨-, s1, s2, -⟩ := hf
    have es : stR r = 1 := by unfold stR; rw [h2, s1]; rfl
    have eF : folP f r u = up (up (up (fol1 f r u) 31 (f 31 + 1)) (u * 5) 1) (u * 5 + 4) 0 := by
      unfold folP fol3 fol2
      rw [h2, s1, s2]
      rfl
    have eG : kpD g r u (i : Int) = up (up (up g u i) 12 (g 12 + 1)) (6 + u) 0 := by
      unfold kpD
      rw [h2]
      rfl
    rw [eF, eG]
    unfold fol1
    refine key _ _ (fun t ht hne => ⟨fun k hk => ?_, ?_, ?_⟩) ?_ ?_ ?_ ?_ ?_ ?_ ?_ ?_
    · rw [up_other (by omega), up_other (by omega), up_other (by omega), up_other (by omega), up_other (by omega), up_other (by omega)]
    · rw [up_other (by omega), up_other (by omega), up_other (by omega)]
    · rw [up_other (by omega), up_other (by omega), up_other (by omega)]
    · rw [up_same, up_same]
    · rw [up_other (by omega), up_other (by omega), up_other (by omega), up_other (by omega), up_other (by omega), up_other (by omega), up_other (by omega), up_other (by omega), up_other (by omega), h.beg]
    · rw [up_other (by omega), up_other (by omega), up_same, up_other (by omega), up_same, h.att]
    · rw [up_other (by omega), up_other (by omega), up_same]
    · rw [up_other (by omega), up_same, es]
    · rw [up_other (by omega), up_other (by omega), up_other (by omega), up_other (by omega), up_other (by omega), up_same]
    · rw [up_other (by omega), up_other (by omega), up_other (by omega), up_other (by omega), up_same]
    · rw [up_other (by omega), up_other (by omega), up_other (by omega), up_same]
  by_cases h17 : r.kind = 17
  · rw [if_neg h1, if_neg h2, if_pos h17] at hf
    simp only [Bool.and_eq_true, sil_iff] at hf
    obtain ⟨-, s1, s2, -⟩ := hf
    have es : stR r = 0 := by unfold stR; rw [h17]; rfl
    have eF : folP f r u = up (fol1 f r u) (u * 5) 0 := by
      unfold folP fol3 fol2
      rw [h17, s1, s2]
      rfl
    have eG : kpD g r u (i : Int) = up g u i := by
      unfold kpD
      rw [h17, s2]
      rfl
    rw [eF, eG]
    unfold fol1
    refine key _ _ (fun t ht hne => ⟨fun k hk => ?_, ?_, ?_⟩) ?_ ?_ ?_ ?_ ?_ ?_ ?_ ?_
    · rw [up_other (by omega), up_other (by omega), up_other (by omega), up_other (by omega)]
    · rw [up_other (by omega)]
    · rw [up_other (by omega)]
    · rw [up_other (by omega), up_other (by omega), up_other (by omega), up_other (by omega), up_other (by omega)]
      exact hcu
    · rw [up_other (by omega), up_other (by omega), up_other (by omega), up_other (by omega), up_other (by omega), h.beg]
    · rw [up_other (by omega), up_other (by omega), up_other (by omega), up_other (by omega), up_other (by omega), h.att]
    · rw [up_same]
    · rw [up_same, es]
    · rw [up_other (by omega), up_other (by omega), up_other (by omega), up_same]
    · rw [up_other (by omega), up_other (by omega), up_same]
    · rw [up_other (by omega), up_same]
  rw [if_neg h1, if_neg h2, if_neg h17] at hf
  simp only [Bool.and_eq_true] at hf
  have hst : f (u * 5) = 1 := by simpa using hf.1.1.1.2
  have eF2 : fol2 f r u = fol1 f r u := by unfold fol2; rw [if_neg h1, if_neg h2, if_neg h17]
  have hFo : ∀ t, t < 6 → t ≠ u → ∀ k, k < 5 → folP f r u (t * 5 + k) = f (t * 5 + k) := fun t ht hne k hk => by
    unfold folP fol3
    rw [eF2, if_neg h0]
    unfold fol1
    repeat' split
    all_goals (repeat rw [up_other (by omega)])
  have eG : kpD g r u (i : Int) = if (r.told && r.entry == g (6 + u)) = true then up (up g u i) (6 + u) (g (6 + u) + 1) else up g u i := by
    unfold kpD
    rw [if_neg h0, if_neg h1, if_neg h2]
  have eF : ∀ o, o ≠ u * 5 → folP f r u o = fol3 f r u o := fun o ho => by
    unfold folP
    rw [if_neg h0]
    repeat' split
    · rw [up_other ho]
    · rw [up_other ho]
    · rfl
  have eS : folP f r u (u * 5) = stR r := by
    unfold folP stR
    rw [if_neg h0, if_neg h17]
    by_cases d : dec r.fin = true
    · rw [if_pos d, if_pos d, up_same]
    · rw [if_neg d, if_neg d]
      by_cases z : r.fin = 0
      · rw [if_neg (by simp [z]), if_neg (by simp [z])]
        unfold fol3
        rw [eF2]
        unfold fol1
        split
        · rw [up_other (by omega), up_other (by omega), up_other (by omega), up_other (by omega), hst]
        · rw [up_other (by omega), up_other (by omega), up_other (by omega), hst]
      · rw [if_pos (by simp [z]), if_pos (by simp [z]), up_same]
  have e3 : fol3 f r u = if (r.told && r.entry == g (6 + u)) = true then up (fol1 f r u) (u * 5 + 4) (g (6 + u) + 1) else fol1 f r u := by
    unfold fol3
    rw [eF2, hcu]
  rw [eG]
  have eF1 := eF (u * 5 + 1) (by omega)
  have eF2' := eF (u * 5 + 2) (by omega)
  have eF3 := eF (u * 5 + 3) (by omega)
  have eF4 := eF (u * 5 + 4) (by omega)
  have eF30 := eF 30 (by omega)
  have eF31 := eF 31 (by omega)
  rw [e3] at eF1 eF2' eF3 eF4 eF30 eF31
  by_cases c : (r.told && r.entry == g (6 + u)) = true
  · rw [if_pos c] at eF1 eF2' eF3 eF4 eF30 eF31 ⊢
    unfold fol1 at eF1 eF2' eF3 eF4 eF30 eF31
    refine key _ _ (fun t ht hne => ⟨fun k hk => hFo t ht hne k hk, ?_, ?_⟩) ?_ ?_ ?_ ?_ eS ?_ ?_ ?_
    · rw [up_other (by omega), up_other (by omega)]
    · rw [up_other (by omega), up_other (by omega)]
    · rw [eF4, up_same, up_same]
    · rw [eF30, up_other (by omega), up_other (by omega), up_other (by omega), up_other (by omega), up_other (by omega), up_other (by omega), h.beg]
    · rw [eF31, up_other (by omega), up_other (by omega), up_other (by omega), up_other (by omega), up_other (by omega), up_other (by omega), h.att]
    · rw [up_other (by omega), up_same]
    · rw [eF1, up_other (by omega), up_other (by omega), up_other (by omega), up_same]
    · rw [eF2', up_other (by omega), up_other (by omega), up_same]
    · rw [eF3, up_other (by omega), up_same]
  · rw [if_neg c] at eF1 eF2' eF3 eF4 eF30 eF31 ⊢
    unfold fol1 at eF1 eF2' eF3 eF4 eF30 eF31
    refine key _ _ (fun t ht hne => ⟨fun k hk => hFo t ht hne k hk, ?_, ?_⟩) ?_ ?_ ?_ ?_ eS ?_ ?_ ?_
    · rw [up_other (by omega)]
    · rw [up_other (by omega)]
    · rw [eF4, up_other (by omega), up_other (by omega), up_other (by omega), up_other (by omega)]
      exact hcu
    · rw [eF30, up_other (by omega), up_other (by omega), up_other (by omega), up_other (by omega), h.beg]
    · rw [eF31, up_other (by omega), up_other (by omega), up_other (by omega), up_other (by omega), h.att]
    · rw [up_same]
    · rw [eF1, up_other (by omega), up_other (by omega), up_same]
    · rw [eF2', up_other (by omega), up_same]
    · rw [eF3, up_same]
end Go.Proofs.Ytlaacojicoeneaa
