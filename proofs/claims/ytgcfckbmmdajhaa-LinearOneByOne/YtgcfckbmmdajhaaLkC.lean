import Derived.Test.YtgcfckbmmdajhaaLkB
import Derived.Test.YtgcfckbmmdajhaaLjH
namespace Go.Proofs.Ytgcfckbmmdajhaa
open Go.RowKit
/-! What the law calls a line: without memory. -/
/-- Where a place stands in a list, -1: nowhere. -/
def atF (L : List Nat) (x : Nat) : Int := if x ∈ L then (L.idxOf x : Int) else -1
def atC (L : List Nat) : List Value := (List.range 8).map (fun x => Value.int .i64 (atF L x))
theorem atC_len (L : List Nat) : (atC L).length = 8 := by unfold atC; simp
theorem atC_get {L : List Nat} {x : Nat} (h : x < 8) : (atC L)[x]? = some (.int .i64 (atF L x)) := by
  unfold atC
  rw [List.getElem?_map, List.getElem?_range h]
  rfl
theorem atF_out {L : List Nat} {x : Nat} (h : x ∉ L) : atF L x = -1 := by unfold atF; rw [if_neg h]
theorem atF_in {L : List Nat} {x : Nat} (h : x ∈ L) : atF L x = (L.idxOf x : Int) := by unfold atF; rw [if_pos h]
theorem atC_nil : atC [] = List.replicate 8 (.int .i64 (-1)) := rfl
theorem atC_set {L : List Nat} {p : Nat} (hp : p ∉ L) : (atC L).set p (.int .i64 (L.length : Int)) = atC (L ++ [p]) := by
  apply List.ext_getElem?
  intro x
  by_cases hx : x < 8
  · rw [atC_get hx]
    by_cases e : x = p
    · subst e
      rw [List.getElem?_set_self (by rw [atC_len]; exact hx), atF_in (by simp), List.idxOf_append, if_neg hp]
      simp
    · rw [List.getElem?_set_ne (fun h => e h.symm), atC_get hx]
      by_cases hm : x ∈ L
      · rw [atF_in hm, atF_in (by simp [hm]), List.idxOf_append, if_pos hm]
      · rw [atF_out hm, atF_out (by simp [hm, e])]
  · rw [List.getElem?_eq_none (by rw [List.length_set, atC_len]; omega), List.getElem?_eq_none (by rw [atC_len]; omega)]
/-- The law's line. -/
def LnI (l : List Cl) (P : List Int) : Prop := ∃ L, P = iOf L ∧ LnP l L ∧ (∀ x ∈ L, x < l.length) ∧ compL l L = true
theorem iOf_take (L : List Nat) (i : Nat) : (iOf L).take i = iOf (L.take i) := by unfold iOf; rw [List.map_take]
theorem iOf_getD {L : List Nat} {i : Nat} (h : i < L.length) : (iOf L).getD i 0 = (L.getD i 0 : Nat) := by
  unfold iOf
  rw [List.getD_eq_getElem?_getD, List.getD_eq_getElem?_getD, List.getElem?_map, List.getElem?_eq_getElem h]
  rfl
theorem setK_take (l : List Cl) (L : List Nat) (i : Nat) (h : i ≤ L.length) : setK l (L.take i) i = setK l L i := by
  have e : L = L.take i ++ L.drop i := (List.take_append_drop i L).symm
  have := setK_app l (L.take i) (L.drop i) i (by rw [List.length_take]; omega)
  rw [← e] at this
  exact this.symm
/-- So far the list goes. -/
theorem lnI_at {l : List Cl} {P : List Int} {L : List Nat} {i : Nat} (hP : P.take i = iOf L) (hi : i < P.length) (h : LnI l P) : ∃ p : Nat, P.getD i 0 = (p : Int) ∧ p < l.length ∧ p ∉ L ∧ goesP (l.getD p cl0) (doesL (setK l L i) (l.getD p cl0)).1 (doesL (setK l L i) (l.getD p cl0)).2.1 = true := by
  obtain ⟨L', rfl, hln, hb, -⟩ := h
  rw [iOf_len] at hi
  have eL : L = L'.take i := iOf_inj (by rw [← hP, iOf_take])
  obtain ⟨h1, h2, h3⟩ := okN_split (hln i hi)
  refine ⟨L'.getD i 0, iOf_getD hi, hb _ (getD_mem hi), by rw [eL]; exact h1, ?_⟩
  rw [eL, setK_take l L' i (by omega)]
  exact h3
/-- What is left to ask of a list whose calls all go on. -/
theorem lnI_end {l : List Cl} {L : List Nat} (hM : MayL l) (hn : L.Nodup) (hb : ∀ x ∈ L, x < l.length) (hg : ∀ k, k < L.length → goK l L k = true) : LnI l (iOf L) ↔ ∀ a, a < l.length → ansD (l.getD a cl0) = true → a ∈ L ∧ ∀ b, b < l.length → b ∈ L → (l.getD a cl0).to_ < (l.getD b cl0).from_ → L.idxOf a ≤ L.idxOf b := by
  constructor
  · rintro ⟨L', e, hln, -, hc⟩ a ha hans
    obtain rfl := iOf_inj e
    refine ⟨of_decide_eq_true hc a ha hans, fun b hbl hbL hto => ?_⟩
    have hk : L.idxOf b < L.length := List.idxOf_lt_length_iff.2 hbL
    have hget : L.getD (L.idxOf b) 0 = b := by
      rw [List.getD_eq_getElem?_getD, List.getElem?_eq_getElem hk]
      exact List.getElem_idxOf hk
    obtain ⟨-, h2, -⟩ := okN_split (hln _ hk)
    rw [hget] at h2
    have hin := h2 a ha hans hto
    have e : L = L.take (L.idxOf b) ++ L.drop (L.idxOf b) := (List.take_append_drop _ L).symm
    have h3 : L.idxOf a = (L.take (L.idxOf b)).idxOf a := by
      have := List.idxOf_append (a := a) (l₁ := L.take (L.idxOf b)) (l₂ := L.drop (L.idxOf b))
      rw [← e, if_pos hin] at this
      exact this
    have h4 := List.idxOf_lt_length_iff.2 hin
    rw [List.length_take] at h4
    omega
  · intro h
    refine ⟨L, rfl, fun k hk => ?_, hb, decide_eq_true (fun a ha hans => (h a ha hans).1)⟩
    have hp := getD_mem hk
    have hidx : L.idxOf (L.getD k 0) = k := by
      rw [List.getD_eq_getElem?_getD, List.getElem?_eq_getElem hk]
      show L.idxOf L[k] = k
      exact hn.idxOf_getElem k hk
    refine okN_yes (fun hin => ?_) (fun a ha hans hto => ?_) (hg k hk)
    · have e : L = L.take k ++ L.drop k := (List.take_append_drop _ L).symm
      have h3 := List.idxOf_append (a := L.getD k 0) (l₁ := L.take k) (l₂ := L.drop k)
      rw [← e, if_pos hin, hidx] at h3
      have h4 := List.idxOf_lt_length_iff.2 hin
      rw [List.length_take] at h4
      omega
    · obtain ⟨ha1, ha2⟩ := h a ha hans
      have h5 := ha2 _ (hb _ hp) hp hto
      rw [hidx] at h5
      have hne : a ≠ L.getD k 0 := fun e => by
        have hma := may_pt (hM.1 a ha)
        have hne : (l.getD a cl0).to_ ≠ -1 := by
          unfold ansD at hans
          simpa using hans
        have h6 := hma.2.1 hne
        have h7 := hma.2.2 h6.1
        rw [← e] at hto
        omega
      have hlt : L.idxOf a < k := by
        rcases Nat.lt_or_ge (L.idxOf a) k with q | q
        · exact q
        · have q : L.idxOf a = k := by omega
          have hk2 : L.idxOf a < L.length := by omega
          have e1 := List.getElem_idxOf hk2
          have e2 : L.getD k 0 = L[L.idxOf a] := by
            rw [List.getD_eq_getElem?_getD, ← q, List.getElem?_eq_getElem hk2]
            rfl
          exact absurd (e1.symm.trans e2.symm) hne
      have hm : L[L.idxOf a]'(by omega) ∈ L.take k := by
        rw [List.mem_take_iff_getElem]
        exact ⟨L.idxOf a, by omega, rfl⟩
      rw [List.getElem_idxOf] at hm
      exact hm
end Go.Proofs.Ytgcfckbmmdajhaa
