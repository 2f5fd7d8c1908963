import Derived.Test.YtgcfckbmmdajhaaLkE
import Derived.Test.YtgcfckbmmdajhaaLiW
namespace Go.Proofs.Ytgcfckbmmdajhaa
open Go.RowKit
/-! Calls one behind the other: without memory. -/
/-- The i-th call of a list of calls one behind the other. -/
structure OneC (c : Cl) (i : Nat) : Prop where
  k1 : 1 ≤ c.kind
  k2 : c.kind ≤ 6
  f : c.from_ = 3 * (i : Int)
  p : c.point = 3 * (i : Int) + 1
  t : c.to_ = 3 * (i : Int) + 2
def OneL (l : List Cl) : Prop := ∀ i, i < l.length → OneC (l.getD i cl0) i
theorem OneC.may {c : Cl} {i : Nat} (h : OneC c i) : mayP c = true := by
  have h1 := h.k1
  have h2 := h.k2
  have h3 := h.f
  have h4 := h.p
  have h5 := h.t
  unfold mayP
  rw [if_neg (by omega), if_neg (by omega), decide_eq_true (by omega : c.from_ < c.point), decide_eq_true (by omega : c.point < c.to_)]
  simp
theorem OneC.ans {c : Cl} {i : Nat} (h : OneC c i) : ansD c = true := by
  unfold ansD
  rw [h.t, bne_iff_ne]
  omega
theorem OneL.apt {l : List Cl} (h : OneL l) : Apt l l.length := fun i j hij hj _ => by
  unfold ptOf
  rw [(h i (by omega)).p, (h j hj).p]
  omega
theorem OneL.may {l : List Cl} (h : OneL l) : MayL l := ⟨fun i hi => (h i hi).may, h.apt⟩
theorem range_pw (n : Nat) : (List.range n).Pairwise (fun (i j : Nat) => (i : Int) < (j : Int)) := (List.pairwise_lt_range (n := n)).imp (fun {a b} h => by omega)
theorem OneL.pts {l : List Cl} (h : OneL l) : byP l l.length = List.range l.length := by
  refine (places_eq h.apt ?_ (fun i => ?_)).symm
  · rw [List.pairwise_iff_getElem]
    intro i j hi hj hij
    simp at hi hj
    unfold ptOf
    simp only [List.getElem_range]
    rw [(h i hi).p, (h j hj).p]
    omega
  · rw [List.mem_range]
    constructor
    · intro hi
      refine ⟨hi, ?_⟩
      unfold ptOf
      rw [(h i hi).p]
      omega
    · exact fun e => e.1
/-- A line of such calls is they in their order. -/
theorem OneL.line {l : List Cl} (h : OneL l) {P : List Int} (hl : LnI l P) : P = iOf (List.range l.length) ∧ ∀ k, k < l.length → goK l (List.range l.length) k = true := by
  have hl0 := hl
  obtain ⟨L, rfl, hln, hb, hc⟩ := hl
  have hg := goL_of (l := l) (L := L) (fun k hk => ⟨hb _ (getD_mem hk), hln k hk⟩) L.length 0 (by omega)
  have hn : L.Nodup := by simpa using (goL_nodup (L := []) List.nodup_nil (fun x hx => by cases hx) hg).1
  have hgo : ∀ k, k < L.length → goK l L k = true := fun k hk => (okN_split (hln k hk)).2.2
  have he := (lnI_end h.may hn hb hgo).1 hl0
  have hall : ∀ i, i ∈ L ↔ i ∈ List.range l.length := fun i => by
    rw [List.mem_range]
    exact ⟨hb i, fun hi => (he i hi (h i hi).ans).1⟩
  have hpw : L.Pairwise (fun (i j : Nat) => (i : Int) < (j : Int)) := by
    rw [List.pairwise_iff_getElem]
    intro i j hi hj hij
    rcases Nat.lt_trichotomy L[i] L[j] with q | q | q
    · omega
    · exact absurd ((List.getElem_inj hn).1 q) (by omega)
    · have ma := List.getElem_mem hi
      have mb := List.getElem_mem hj
      have h1 := (he L[j] (hb _ mb) (h _ (hb _ mb)).ans).2 L[i] (hb _ ma) ma (by rw [(h _ (hb _ mb)).t, (h _ (hb _ ma)).f]; omega)
      rw [hn.idxOf_getElem, hn.idxOf_getElem] at h1
      omega
  have e := sp_ext (fun i : Nat => (i : Int)) L _ hpw (range_pw l.length) hall
  subst e
  exact ⟨rfl, fun k hk => hgo k (by simpa using hk)⟩
theorem OneL.found {l : List Cl} (h : OneL l) (hg : ∀ k, k < l.length → goK l (List.range l.length) k = true) : fstL l = some (List.range l.length) := by
  have hL : LnI l (iOf (List.range l.length)) := by
    refine (lnI_end h.may List.nodup_range (fun x hx => List.mem_range.1 hx) (fun k hk => hg k (by simpa using hk))).2 (fun a ha _ => ⟨List.mem_range.2 ha, fun b hb _ hto => ?_⟩)
    rw [(h a ha).t, (h b hb).f] at hto
    have h1 : ∀ x, x < l.length → (List.range l.length).idxOf x = x := fun x hx => by
      have := (List.nodup_range (n := l.length)).idxOf_getElem x (by simpa using hx)
      simpa using this
    rw [h1 a ha, h1 b hb]
    omega
  obtain ⟨L, r, e, hr, -⟩ := lnI_fst hL
  have := (h.line (fst_lnI hr)).1
  rw [iOf_inj this] at hr
  exact hr
theorem OneL.lost {l : List Cl} (h : OneL l) {k : Nat} (hk : k < l.length) (hg : goK l (List.range l.length) k = false) : fstL l = none := by
  cases e : fstL l with
  | none => rfl
  | some r =>
    have := (h.line (fst_lnI e)).2 k hk
    rw [hg] at this
    cases this
/-- One answer is turned. -/
def trn (c : Cl) (y : Bool) (r : Int) : Cl := { c with yes := y, result := r }
theorem turn_does (S : List Int) (c : Cl) (y : Bool) (r : Int) : doesL S (trn c y r) = doesL S c := rfl
theorem getD_setC {l : List Cl} {k : Nat} (hk : k < l.length) (c : Cl) (i : Nat) : (l.set k c).getD i cl0 = if i = k then c else l.getD i cl0 := by
  rw [List.getD_eq_getElem?_getD, List.getD_eq_getElem?_getD, List.getElem?_set]
  by_cases e : k = i
  · subst e
    rw [if_pos rfl, if_pos hk, if_pos rfl]
    rfl
  · rw [if_neg e, if_neg (fun h => e h.symm)]
theorem turn_setK {l : List Cl} {k : Nat} (hk : k < l.length) (y : Bool) (r : Int) (L : List Nat) : ∀ n, setK (l.set k (trn (l.getD k cl0) y r)) L n = setK l L n
  | 0 => rfl
  | n + 1 => by
    show (doesL (setK _ L n) (List.getD _ (L.getD n 0) cl0)).2.2 = (doesL (setK l L n) (l.getD (L.getD n 0) cl0)).2.2
    rw [turn_setK hk y r L n, getD_setC hk]
    split
    · rename_i e
      rw [turn_does, e]
    · rfl
theorem OneL.trnd {l : List Cl} (h : OneL l) {k : Nat} (hk : k < l.length) (y : Bool) (r : Int) : OneL (l.set k (trn (l.getD k cl0) y r)) := fun i hi => by
  rw [List.length_set] at hi
  rw [getD_setC hk]
  split
  · rename_i e
    subst e
    have := h i hi
    exact ⟨this.k1, this.k2, this.f, this.p, this.t⟩
  · exact h i hi
theorem OneL.names {l : List Cl} (h : OneL l) (hg : ∀ k, k < l.length → goK l (List.range l.length) k = true) {k : Nat} (hk : k < l.length) {y : Bool} {r : Int} (hne : ¬ (y = (l.getD k cl0).yes ∧ r = (l.getD k cl0).result)) :
    BpP (l.set k (trn (l.getD k cl0) y r)) (byP (l.set k (trn (l.getD k cl0) y r)) (l.set k (trn (l.getD k cl0) y r)).length) k ∧ fstL (l.set k (trn (l.getD k cl0) y r)) = none := by
  have hO := h.trnd hk y r
  have hr : ∀ i, i < l.length → (List.range l.length).getD i 0 = i := fun i hi => by
    rw [List.getD_eq_getElem?_getD, List.getElem?_range hi]
    rfl
  have hbad : goK (l.set k (trn (l.getD k cl0) y r)) (List.range l.length) k = false := by
    have h1 := hg k hk
    unfold goK at h1 ⊢
    rw [hr k hk] at h1 ⊢
    rw [turn_setK hk, getD_setC hk, if_pos rfl, turn_does]
    unfold goesP at h1 ⊢
    have ha : ansD (trn (l.getD k cl0) y r) = true := (h k hk).ans
    rw [(h k hk).ans] at h1
    rw [ha]
    simp only [Bool.not_true, Bool.false_or, Bool.and_eq_true, beq_iff_eq] at h1
    cases hq : (!true || ((doesL (setK l (List.range l.length) k) (l.getD k cl0)).1 == (trn (l.getD k cl0) y r).yes && (doesL (setK l (List.range l.length) k) (l.getD k cl0)).2.1 == (trn (l.getD k cl0) y r).result)) with
    | false => rfl
    | true =>
      simp only [Bool.not_true, Bool.false_or, Bool.and_eq_true, beq_iff_eq] at hq
      exact absurd ⟨hq.1.symm.trans h1.1, hq.2.symm.trans h1.2⟩ hne
  have hlt : ∀ j, j < k → goK (l.set k (trn (l.getD k cl0) y r)) (List.range l.length) j = true := fun j hj => by
    have h1 := hg j (by omega)
    unfold goK at h1 ⊢
    rw [hr j (by omega)] at h1 ⊢
    rw [turn_setK hk, getD_setC hk, if_neg (by omega)]
    exact h1
  have el : (l.set k (trn (l.getD k cl0) y r)).length = l.length := List.length_set
  constructor
  · rw [hO.pts, el]
    refine .inl ⟨k, by simpa using hk, hlt, hbad, ?_⟩
    rw [hr k hk]
  · exact hO.lost (k := k) (by rw [el]; exact hk) (by rw [el]; exact hbad)
end Go.Proofs.Ytgcfckbmmdajhaa
