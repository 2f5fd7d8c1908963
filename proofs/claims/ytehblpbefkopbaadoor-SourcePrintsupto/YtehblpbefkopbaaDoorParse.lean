import Derived.Test.YtehblpbefkopbaaDoorDigits
import Derived.Test.YtehblpbefkopbaaDoorFacts
import Derived.Test.YtehblpbefkopbaaDoorRows
import Derived.Test.YtehblpbefkopbaaDoorShelf
import Derived.OpenShut
import Derived.WalkLawsBesides
import Derived.WalkSpells
import Derived.Lib.IndexBytes
namespace Go.Proofs.YtehblpbefkopbaaDoor
open Go.ChangeShapes Go.WideShapes Go.ChangeAt Go.RowKit

/-! Texts as bytes and as lists. -/
theorem list_of (s : ByteArray) : s.toList = s.data.toList := ByteArray.toList_eq s
theorem list_len (s : ByteArray) : s.toList.length = s.size := by rw [list_of]; exact Array.length_toList
theorem list_get (s : ByteArray) (k : Nat) (h : k < s.size) : s.toList[k]? = some s[k] := by
  have h' : k < s.data.size := h
  rw [list_of, Array.getElem?_toList, Array.getElem?_eq_getElem h']; rfl
theorem list_cons (s : ByteArray) (h : 0 < s.size) : s.toList = s[0] :: s.toList.drop 1 := by
  have h0 := list_get s 0 h
  cases hl : s.toList with
  | nil => rw [hl] at h0; simp at h0
  | cons c r => rw [hl] at h0; simp at h0; rw [h0]; rfl
theorem list_tail (s : ByteArray) : (s.extract 1 s.size).toList = s.toList.drop 1 := by
  rw [list_of, list_of]
  exact Lib.extract_to_end s 1
theorem all_of (l : List UInt8) (h : ∀ k, k < l.length → ∀ c, l[k]? = some c → digB c = true) : l.all digB = true := by
  rw [List.all_eq_true]
  intro c hc
  obtain ⟨k, hk, rfl⟩ := List.getElem_of_mem hc
  exact h k hk _ (List.getElem?_eq_getElem hk)

/-- The first k bytes of a text are digits. -/
def DigTo (t : ByteArray) (k : Nat) : Prop := ∀ j (h : j < t.size), j < k → 48 ≤ t[j].toNat ∧ t[j].toNat ≤ 57
theorem digTo_zero (t : ByteArray) : DigTo t 0 := fun _ _ h => absurd h (by omega)
theorem digTo_succ {t : ByteArray} {k : Nat} (h : DigTo t k) (hk : k < t.size) (h1 : 48 ≤ t[k].toNat) (h2 : t[k].toNat ≤ 57) : DigTo t (k + 1) := by
  intro j hj hjk
  by_cases e : j = k
  · subst e; exact ⟨h1, h2⟩
  · exact h j hj (by omega)
theorem digTo_all {t : ByteArray} (h : DigTo t t.size) : t.toList.all digB = true := by
  refine all_of _ fun k hk c hc => ?_
  rw [list_len] at hk
  rw [list_get t k hk] at hc
  cases hc
  exact (digB_iff _).2 (h k hk hk)
theorem not_all {t : ByteArray} {k : Nat} (hk : k < t.size) (h : t[k].toNat < 48 ∨ 57 < t[k].toNat) : t.toList.all digB = false := by
  rw [Bool.eq_false_iff]
  intro ha
  have := List.all_eq_true.1 ha t[k] (List.mem_of_getElem? (list_get t k hk))
  have := (digB_iff _).1 this
  omega

/-- The form, by the text's first byte. -/
theorem form_nil {s : ByteArray} (h : s.size = 0) : numForm s.toList = false := by
  have : s.toList = [] := List.eq_nil_of_length_eq_zero (by rw [list_len]; exact h)
  rw [this]; rfl
theorem form_minus {s : ByteArray} (h : 0 < s.size) (h1 : s[0].toNat = 45) :
    (s.size = 1 → numForm s.toList = false) ∧ ∀ h2 : 0 < (s.extract 1 s.size).size, ((s.extract 1 s.size)[0].toNat = 48 → numForm s.toList = false ∧ (s.toList == [48]) = false) ∧ ((s.extract 1 s.size)[0].toNat ≠ 48 → numForm s.toList = (s.extract 1 s.size).toList.all digB) := by
  have e := list_cons s h
  rw [← list_tail] at e
  refine ⟨fun k => ?_, fun h2 => ?_⟩
  · have : (s.extract 1 s.size).toList = [] := List.eq_nil_of_length_eq_zero (by rw [list_tail, List.length_drop, list_len]; omega)
    rw [this] at e
    rw [e, numForm_cons, if_pos h1]
  · have e2 := list_cons _ h2
    generalize s.extract 1 s.size = t at *
    refine ⟨fun k => ⟨?_, ?_⟩, fun k => ?_⟩
    · rw [e, e2, numForm_cons, if_pos h1]
      simp only
      rw [if_pos k]
    · rw [e]
      simp only [List.cons_beq_cons, Bool.and_eq_false_iff]
      left
      rw [beq_eq_false_iff_ne]
      intro q
      rw [q] at h1
      exact absurd h1 (by decide)
    · rw [e, e2, numForm_cons, if_pos h1]
      simp only
      rw [if_neg k]
theorem form_plain {s : ByteArray} (h : 0 < s.size) (h1 : s[0].toNat ≠ 45) :
    (s[0].toNat = 48 → numForm s.toList = (s.toList == [48])) ∧ (s[0].toNat ≠ 48 → numForm s.toList = s.toList.all digB) := by
  have e := list_cons s h
  refine ⟨fun k => ?_, fun k => ?_⟩
  · rw [e, numForm_cons, if_neg h1, if_pos k]
    have : s[0] = 48 := UInt8.toNat_inj.1 k
    rw [this]
    cases s.toList.drop 1 <;> rfl
  · rw [e, numForm_cons, if_neg h1, if_neg k]
end Go.Proofs.YtehblpbefkopbaaDoor
