import Derived.Test.YtaikngpgmcpecaaGreatLocI
namespace Go.Proofs.YtaikngpgmcpecaaGreat
open Go.RowKit

/-- What a cell holds. -/
def Mm.val (m : Mm) (c : Nat) : Int := (ca m.cells c).2
theorem Mm.val_load (m : Mm) (c i : Nat) : (m.load c).val i = m.val i := by
  show (ca (m.cells.set c _) i).2 = (ca m.cells i).2
  by_cases h : c < m.cells.length
  · by_cases e : c = i
    · subst e; simp [ca, List.getD_eq_getElem?_getD, h]
    · simp [ca, List.getD_eq_getElem?_getD, e]
  · rw [List.set_eq_of_length_le (by omega)]
theorem Mm.len_load (m : Mm) (c : Nat) : (m.load c).cells.length = m.cells.length := by simp [Mm.load, Mm.take]
theorem Mm.len_swap (m : Mm) (c : Nat) (x y : Int) : (m.swap c x y).cells.length = m.cells.length := by simp [Mm.swap, Mm.take]
theorem ca_set (l : List (Int × Int)) (c i : Nat) (p : Int × Int) : ca (l.set c p) i = if i = c ∧ c < l.length then p else ca l i := by
  by_cases h : c < l.length
  · by_cases e : i = c
    · subst e; rw [if_pos ⟨rfl, h⟩]; simp [ca, List.getD_eq_getElem?_getD, h]
    · rw [if_neg (fun q => e q.1)]
      have e2 : ¬ c = i := fun q => e q.symm
      simp [ca, List.getD_eq_getElem?_getD, e2]
  · rw [if_neg (fun q => h q.2), List.set_eq_of_length_le (by omega)]
theorem Mm.val_swap (m : Mm) (c i : Nat) (x y : Int) : (m.swap c x y).val i = if i = c ∧ c < m.cells.length ∧ m.val c = x then y else m.val i := by
  have e0 : (m.swap c x y).val i = (ca (m.cells.set c ((ca m.cells c).1, if (ca m.cells c).2 = x then y else (ca m.cells c).2)) i).2 := rfl
  rw [e0, ca_set]
  by_cases e : i = c ∧ c < m.cells.length
  · rw [if_pos e]
    by_cases e' : m.val c = x
    · rw [if_pos (c := (ca m.cells c).2 = x) e', if_pos (c := i = c ∧ c < m.cells.length ∧ m.val c = x) ⟨e.1, e.2, e'⟩]
    · rw [if_neg (c := (ca m.cells c).2 = x) e', if_neg (c := i = c ∧ c < m.cells.length ∧ m.val c = x) (fun q => e' q.2.2), e.1]; rfl
  · rw [if_neg e, if_neg (fun q => e ⟨q.1, q.2.1⟩)]; rfl
theorem Mm.len_make (m : Mm) (x : Int) : (m.make x).cells.length = m.cells.length + 1 := by simp [Mm.make]
theorem Mm.val_make (m : Mm) (x : Int) (c : Nat) : (m.make x).val c = if c = m.cells.length then x else m.val c := by
  show (ca (m.cells ++ [(x, x)]) c).2 = _
  rcases Nat.lt_trichotomy c m.cells.length with h | h | h
  · rw [if_neg (by omega)]; simp [Mm.val, ca, List.getD_eq_getElem?_getD, List.getElem?_append_left h]
  · subst h; simp [ca, List.getD_eq_getElem?_getD]
  · rw [if_neg (by omega)]
    have h1 : (m.cells ++ [(x, x)])[c]? = none := List.getElem?_eq_none (by simp; omega)
    have h2 : m.cells[c]? = none := List.getElem?_eq_none (by omega)
    simp [Mm.val, ca, List.getD_eq_getElem?_getD, h1, h2]

/-- What every world of a play keeps to. -/
structure Inv (s : Ws) (m : Mm) : Prop where
  vl : s.vals.length = s.locs.length
  lo : ∀ i, i < s.locs.length → (s.lo i).new = i ∧ (s.lo i).old < s.locs.length ∧ (s.lo i).owner < s.atts.length
  ca_ : ∀ i, i < s.atts.length → (s.att i).status < m.cells.length ∧ (s.att i).flag < m.cells.length
  co : ∀ i, i < s.objs.length → s.ob i < m.cells.length
  at_ : ∀ i, i < s.objs.length → ∃ k : Nat, m.val (s.ob i) = (k : Int) ∧ k < s.locs.length ∧ (s.lo k).used = true
  na : s.atts.length ≤ 16384
  nl : s.locs.length ≤ 16384
  no : s.objs.length ≤ 80
  a1 : 1 ≤ s.atts.length
  kap : ∃ κ : Nat → Nat, (∀ i, i < s.atts.length → κ (s.att i).status = 3 * i ∧ κ (s.att i).flag = 3 * i + 1) ∧ ∀ i, i < s.objs.length → κ (s.ob i) = 3 * i + 2
  gen : m.val (s.att 0).status = 2
  old : ∀ i, i < s.locs.length → m.val (s.att (s.lo (s.lo i).old).owner).status = 2

section
variable {s s' : Ws} {m m' : Mm}
theorem Inv.wf (h : Inv s m) : Wf s m :=
  ⟨h.vl, h.lo, h.ca_, fun i hi => by
    obtain ⟨k, e, hk, _⟩ := h.at_ i hi
    have e1 : s.at_ m i = k := by unfold Ws.at_; rw [show (ca m.cells (s.ob i)).2 = (k : Int) from e]; simp
    exact ⟨h.co i hi, by rw [e1]; exact e, by rw [e1]; exact hk⟩, h.na, h.nl, h.no, h.a1⟩
theorem isC_iff {a : Nat} : s.isC m a = true ↔ m.val (s.att a).status = 2 := by simp [Ws.isC, Mm.val]
theorem isC_not {a : Nat} : s.isC m a = false ↔ m.val (s.att a).status ≠ 2 := by simp [Ws.isC, Mm.val]
/-- The cells that a world knows hold what they held. -/
theorem Inv.congr (h : Inv s m) (hl : m.cells.length ≤ m'.cells.length) (hv : ∀ c, c < m.cells.length → m'.val c = m.val c) : Inv s m' :=
  ⟨h.vl, h.lo, fun i hi => ⟨Nat.lt_of_lt_of_le (h.ca_ i hi).1 hl, Nat.lt_of_lt_of_le (h.ca_ i hi).2 hl⟩, fun i hi => Nat.lt_of_lt_of_le (h.co i hi) hl,
   fun i hi => by rw [hv _ (h.co i hi)]; exact h.at_ i hi, h.na, h.nl, h.no, h.a1, h.kap, by rw [hv _ (h.ca_ 0 h.a1).1]; exact h.gen,
   fun i hi => by rw [hv _ (h.ca_ _ (h.lo _ (h.lo i hi).2.1).2.2).1]; exact h.old i hi⟩
theorem Inv.mem (h : Inv s m) (st th : Int) : Inv s (m.begin st th) := h.congr (Nat.le_refl _) (fun _ _ => rfl)
theorem Inv.load (h : Inv s m) (c : Nat) : Inv s (m.load c) := h.congr (by rw [m.len_load]; exact Nat.le_refl _) (fun i _ => m.val_load c i)
theorem Inv.make (h : Inv s m) (x : Int) : Inv s (m.make x) := h.congr (by rw [m.len_make]; omega) (fun i hi => by rw [m.val_make, if_neg (by omega)])

theorem att_app {x : At} {i : Nat} : (⟨s.objs, s.atts ++ [x], s.locs, s.vals⟩ : Ws).att i = if i < s.atts.length then s.att i else if i = s.atts.length then x else at0 := by
  unfold Ws.att
  rcases Nat.lt_trichotomy i s.atts.length with h | h | h
  · rw [if_pos h]; simp [List.getD_eq_getElem?_getD, List.getElem?_append_left h]
  · subst h; simp [List.getD_eq_getElem?_getD]
  · rw [if_neg (by omega), if_neg (by omega)]
    have h1 : (s.atts ++ [x])[i]? = none := List.getElem?_eq_none (by simp; omega)
    simp [List.getD_eq_getElem?_getD, h1]
theorem lo_app {x : Lo} {vs : List Vl} {i : Nat} : (⟨s.objs, s.atts, s.locs ++ [x], vs⟩ : Ws).lo i = if i < s.locs.length then s.lo i else if i = s.locs.length then x else lo0 := by
  unfold Ws.lo
  rcases Nat.lt_trichotomy i s.locs.length with h | h | h
  · rw [if_pos h]; simp [List.getD_eq_getElem?_getD, List.getElem?_append_left h]
  · subst h; simp [List.getD_eq_getElem?_getD]
  · rw [if_neg (by omega), if_neg (by omega)]
    have h1 : (s.locs ++ [x])[i]? = none := List.getElem?_eq_none (by simp; omega)
    simp [List.getD_eq_getElem?_getD, h1]

/-- A fresh attempt. -/
theorem Inv.beg (h : Inv s m) (hr : s.atts.length < 16384) (th st pr x : Int) : Inv (s.beg th st pr m.cells.length) ((m.make x).make 0) := by
  have hi := (h.make x).make 0
  have lm : ((m.make x).make 0).cells.length = m.cells.length + 2 := by rw [Mm.len_make, Mm.len_make]
  have e : ∀ i, (s.beg th st pr m.cells.length).att i = if i < s.atts.length then s.att i else if i = s.atts.length then ⟨th, st, pr, m.cells.length, m.cells.length + 1⟩ else at0 := fun i => att_app
  have el : (s.beg th st pr m.cells.length).atts.length = s.atts.length + 1 := by simp [Ws.beg]
  obtain ⟨κ, k1, k2⟩ := h.kap
  refine ⟨h.vl, fun i hi' => ?_, fun i hi' => ?_, hi.co, hi.at_, by omega, h.nl, h.no, by omega, ⟨fun c => if c < m.cells.length then κ c else if c = m.cells.length then 3 * s.atts.length else 3 * s.atts.length + 1, fun i hi' => ?_, fun i hi' => ?_⟩, ?_, fun i hi' => ?_⟩
  · have := h.lo i hi'
    exact ⟨this.1, this.2.1, by rw [el]; exact Nat.lt_succ_of_lt this.2.2⟩
  · rw [e, lm]
    by_cases hl : i < s.atts.length
    · rw [if_pos hl]; have := h.ca_ i hl; exact ⟨by omega, by omega⟩
    · rw [if_neg hl, if_pos (by omega)]; exact ⟨by simp, by simp⟩
  · rw [e]
    by_cases hl : i < s.atts.length
    · rw [if_pos hl]; have := h.ca_ i hl; simp only [if_pos this.1, if_pos this.2]; exact k1 i hl
    · have : i = s.atts.length := by omega
      rw [if_neg hl, if_pos this, this]
      have q : ¬ m.cells.length + 1 < m.cells.length := by omega
      simp [q]
  · have := h.co i hi'
    show (if s.ob i < _ then _ else _) = _
    rw [if_pos this]; exact k2 i hi'
  · rw [e, if_pos (show 0 < s.atts.length from h.a1)]; exact hi.gen
  · have := h.lo _ (h.lo i hi').2.1
    show ((m.make x).make 0).val ((s.beg th st pr m.cells.length).att (s.lo (s.lo i).old).owner).status = 2
    rw [e, if_pos this.2.2]; exact hi.old i hi'

/-- A fresh locator. -/
theorem Inv.lay (h : Inv s m) {att old : Nat} (ha : att < s.atts.length) (ho : old < s.locs.length) (hC : s.isC m (s.lo old).owner = true) (hr : s.locs.length < 16384) (v : Vl) : Inv (s.lay att old v) m := by
  have e : ∀ i, (s.lay att old v).lo i = if i < s.locs.length then s.lo i else if i = s.locs.length then ⟨att, old, s.vals.length, false⟩ else lo0 := fun i => lo_app
  have el : (s.lay att old v).locs.length = s.locs.length + 1 := by simp [Ws.lay]
  have ev : (s.lay att old v).vals.length = s.vals.length + 1 := by simp [Ws.lay]
  refine ⟨by rw [el, ev, h.vl], fun i hi => ?_, h.ca_, h.co, fun i hi => ?_, h.na, by omega, h.no, h.a1, h.kap, h.gen, fun i hi => ?_⟩
  · rw [e, el]
    by_cases hl : i < s.locs.length
    · rw [if_pos hl]; have := h.lo i hl; exact ⟨this.1, by omega, this.2.2⟩
    · have : i = s.locs.length := by omega
      rw [if_neg hl, if_pos this]; exact ⟨by rw [this]; exact h.vl, by show old < _; omega, ha⟩
  · obtain ⟨k, e1, e2, e3⟩ := h.at_ i hi
    exact ⟨k, e1, by omega, by rw [e, if_pos e2]; exact e3⟩
  · show m.val (s.att _).status = 2
    by_cases hl : i < s.locs.length
    · have := (h.lo i hl).2.1
      rw [e i, if_pos hl, e, if_pos this]; exact h.old i hl
    · have hi2 : i = s.locs.length := by omega
      rw [e i, if_neg hl, if_pos hi2, e]
      show m.val (s.att (if old < _ then _ else _ : Lo).owner).status = 2
      rw [if_pos ho]; exact isC_iff.1 hC
theorem Inv.put (h : Inv s m) (i : Nat) (v : Vl) : Inv (s.put i v) m :=
  ⟨by simpa [Ws.put] using h.vl, h.lo, h.ca_, h.co, h.at_, h.na, h.nl, h.no, h.a1, h.kap, h.gen, h.old⟩
theorem lo_use {y i : Nat} {b : Bool} : (s.use y b).lo i = if i = y ∧ y < s.locs.length then { s.lo y with used := b } else s.lo i := by
  unfold Ws.use Ws.lo
  by_cases h : y < s.locs.length
  · by_cases e : i = y
    · subst e; rw [if_pos ⟨rfl, h⟩]; simp [List.getD_eq_getElem?_getD, h]
    · rw [if_neg (fun q => e q.1)]
      have e2 : ¬ y = i := fun q => e q.symm
      simp [List.getD_eq_getElem?_getD, e2]
  · rw [if_neg (fun q => h q.2), List.set_eq_of_length_le (by omega)]
theorem use_false {y : Nat} (h : (s.lo y).used = false) : s.use y false = s := by
  unfold Ws.use
  have e1 : ({ s.lo y with used := false } : Lo) = s.lo y := by
    cases hl : s.lo y with
    | mk a b c d => rw [hl] at h; simp at h; simp [h]
  rw [e1]
  have e : s.locs.set y (s.lo y) = s.locs := by
    apply List.ext_getElem?
    intro i
    rw [List.getElem?_set]
    by_cases h' : y = i
    · subst h'
      by_cases hl : y < s.locs.length
      · rw [if_pos rfl, if_pos hl]; exact (getD_get hl).symm
      · rw [if_pos rfl, if_neg hl, List.getElem?_eq_none (by omega)]
    · rw [if_neg h']
  rw [e]
/-- Another cell than an object's or a status is swapped, or one of these. -/
theorem Inv.stat (h : Inv s m) {i : Nat} (hi : i < s.atts.length) (sv : Int) : Inv s (m.swap (s.att i).status 1 sv) := by
  obtain ⟨κ, k1, k2⟩ := h.kap
  have lm := m.len_swap (s.att i).status 1 sv
  have hv : ∀ c, m.val c ≠ 1 ∨ κ c ≠ 3 * i → (m.swap (s.att i).status 1 sv).val c = m.val c := fun c hc => by
    rw [m.val_swap, if_neg]
    rintro ⟨e, _, e3⟩
    rcases hc with q | q
    · exact q (by rw [e]; exact e3)
    · exact q (by rw [e]; exact (k1 i hi).1)
  refine ⟨h.vl, h.lo, fun a ha => by rw [lm]; exact h.ca_ a ha, fun a ha => by rw [lm]; exact h.co a ha, fun a ha => ?_, h.na, h.nl, h.no, h.a1, h.kap, ?_, fun a ha => ?_⟩
  · rw [hv _ (.inr (by rw [k2 a ha]; omega))]; exact h.at_ a ha
  · rw [hv _ (.inl (by rw [h.gen]; decide))]; exact h.gen
  · rw [hv _ (.inl (by rw [h.old a ha]; decide))]; exact h.old a ha
theorem Inv.flag (h : Inv s m) {i : Nat} (hi : i < s.atts.length) (x y : Int) : Inv s (m.swap (s.att i).flag x y) := by
  obtain ⟨κ, k1, k2⟩ := h.kap
  have lm := m.len_swap (s.att i).flag x y
  have hv : ∀ c, κ c ≠ 3 * i + 1 → (m.swap (s.att i).flag x y).val c = m.val c := fun c hc => by
    rw [m.val_swap, if_neg]
    rintro ⟨e, _, _⟩
    exact hc (by rw [e]; exact (k1 i hi).2)
  have hs : ∀ a, a < s.atts.length → κ (s.att a).status ≠ 3 * i + 1 := fun a ha => by rw [(k1 a ha).1]; omega
  refine ⟨h.vl, h.lo, fun a ha => by rw [lm]; exact h.ca_ a ha, fun a ha => by rw [lm]; exact h.co a ha, fun a ha => ?_, h.na, h.nl, h.no, h.a1, h.kap, ?_, fun a ha => ?_⟩
  · rw [hv _ (by rw [k2 a ha]; omega)]; exact h.at_ a ha
  · rw [hv _ (hs 0 h.a1)]; exact h.gen
  · rw [hv _ (hs _ (h.lo _ (h.lo a ha).2.1).2.2)]; exact h.old a ha
theorem Inv.acq (h : Inv s m) {o x y : Nat} (ho : o < s.objs.length) (hy : y < s.locs.length) (hU : (s.lo y).used = false) : Inv (s.use y (decide (m.val (s.ob o) = (x : Int)))) (m.swap (s.ob o) (x : Int) (y : Int)) := by
  obtain ⟨κ, k1, k2⟩ := h.kap
  have lm := m.len_swap (s.ob o) (x : Int) (y : Int)
  have lu : (s.use y (decide (m.val (s.ob o) = (x : Int)))).locs.length = s.locs.length := by simp [Ws.use]
  have hs : ∀ a, a < s.atts.length → (m.swap (s.ob o) (x : Int) (y : Int)).val (s.att a).status = m.val (s.att a).status := fun a ha => by
    rw [m.val_swap, if_neg]
    rintro ⟨e, _, _⟩
    have := (k1 a ha).1
    rw [e, k2 o ho] at this; omega
  have eo : ∀ i, ((s.use y (decide (m.val (s.ob o) = (x : Int)))).lo i).owner = (s.lo i).owner ∧ ((s.use y (decide (m.val (s.ob o) = (x : Int)))).lo i).old = (s.lo i).old ∧ ((s.use y (decide (m.val (s.ob o) = (x : Int)))).lo i).new = (s.lo i).new := fun i => by
    rw [lo_use]
    split
    · next q => rw [q.1]; exact ⟨rfl, rfl, rfl⟩
    · exact ⟨rfl, rfl, rfl⟩
  refine ⟨by rw [lu]; exact h.vl, fun i hi => ?_, fun a ha => by rw [lm]; exact h.ca_ a ha, fun a ha => by rw [lm]; exact h.co a ha, fun a ha => ?_, h.na, by rw [lu]; exact h.nl, h.no, h.a1, h.kap, ?_, fun i hi => ?_⟩
  · rw [lu] at hi ⊢
    obtain ⟨e1, e2, e3⟩ := eo i
    rw [e1, e2, e3]; exact h.lo i hi
  · rw [lu]
    show ∃ k : Nat, (m.swap (s.ob o) (x : Int) (y : Int)).val (s.ob a) = (k : Int) ∧ _
    have ha' : a < s.objs.length := ha
    rw [m.val_swap]
    by_cases e : s.ob a = s.ob o ∧ s.ob o < m.cells.length ∧ m.val (s.ob o) = (x : Int)
    · rw [if_pos e]
      exact ⟨y, rfl, hy, by rw [lo_use, if_pos ⟨rfl, hy⟩]; simp [e.2.2]⟩
    · rw [if_neg e]
      obtain ⟨k, q1, q2, q3⟩ := h.at_ a ha'
      refine ⟨k, q1, q2, ?_⟩
      rw [lo_use, if_neg]
      · exact q3
      · rintro ⟨rfl, _⟩; rw [q3] at hU; cases hU
  · show (m.swap (s.ob o) (x : Int) (y : Int)).val (s.att 0).status = 2
    rw [hs 0 h.a1]; exact h.gen
  · rw [lu] at hi
    rw [(eo _).1, (eo i).2.1]
    show (m.swap (s.ob o) (x : Int) (y : Int)).val (s.att _).status = 2
    rw [hs _ (h.lo _ (h.lo i hi).2.1).2.2]; exact h.old i hi
end
end Go.Proofs.YtaikngpgmcpecaaGreat
