import Derived.Test.YtdmfkepnopppaaaGreatDoorLgSt
namespace Go.Proofs.YtdmfkepnopppaaaGreatDoor
open Go.RowKit
/-- Does a text hold a byte? -/
def hasB (s : ByteArray) (c : Nat) : Bool := s.data.toList.any (fun b => b.toNat == c)
theorem hasB_yes {s : ByteArray} {c k : Nat} (h : k < s.size) (e : s[k].toNat = c) : hasB s c = true := by
  unfold hasB
  rw [List.any_eq_true]
  exact ⟨s[k], Array.mem_toList_iff.2 (Array.getElem_mem (xs := s.data) h), by simp [e]⟩
theorem hasB_no {s : ByteArray} {c : Nat} (h : ∀ k (h : k < s.size), s[k].toNat ≠ c) : hasB s c = false := by
  unfold hasB
  rw [List.any_eq_false]
  intro b hb
  obtain ⟨k, hk, rfl⟩ := Array.mem_iff_getElem.1 (Array.mem_toList_iff.1 hb)
  have h1 : ¬ s.data[k].toNat = c := h k hk
  simp [h1]
theorem retB {a b : Bool} (h : a = b) : Ending.returned (.bool a) = .returned (.bool b) := by rw [h]
/-- The kinds of a code's operands. -/
def kdS (c : Int) : ByteArray := if c = 1 ∨ c = 2 then ⟨#[100, 111]⟩ else if c = 3 then ⟨#[111, 120]⟩ else if c = 4 then ⟨#[111]⟩ else if c = 5 then ⟨#[100, 120]⟩ else if c = 6 then ⟨#[100, 120, 121]⟩ else if c = 7 then ⟨#[120, 114, 121, 108]⟩ else if c = 8 then ⟨#[108]⟩ else if c = 10 then ⟨#[120]⟩ else ⟨#[]⟩
theorem kd_size (c : Int) : (kdS c).size ≤ 281474976710656 := by
  unfold kdS
  repeat' split
  all_goals decide
theorem kd_all (c : Int) (h : 1 ≤ c ∧ c ≤ 10) : hasB (kdS c) 100 = kdD c ∧ hasB (kdS c) 111 = kdO c ∧ hasB (kdS c) 120 = kdX c ∧ hasB (kdS c) 121 = kdY c ∧ hasB (kdS c) 114 = kdR c ∧ hasB (kdS c) 108 = kdL c := by
  rcases (by omega : c = 1 ∨ c = 2 ∨ c = 3 ∨ c = 4 ∨ c = 5 ∨ c = 6 ∨ c = 7 ∨ c = 8 ∨ c = 9 ∨ c = 10) with rfl | rfl | rfl | rfl | rfl | rfl | rfl | rfl | rfl | rfl <;> decide
end Go.Proofs.YtdmfkepnopppaaaGreatDoor
