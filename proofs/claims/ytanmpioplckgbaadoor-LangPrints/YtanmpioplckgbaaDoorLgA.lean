import Derived.Test.YtanmpioplckgbaaDoorLgSt
namespace Go.Proofs.YtanmpioplckgbaaDoor
open Go.RowKit
/-- Does a text hold a byte? -/
def hasB (s : ByteArray) (c : Nat) : Bool := s.data.toList.any (fun b => b.toNat == c)
theorem hasB_yes {s : ByteArray} {c k : Nat} (h : k < s.size) (e : s[k].toNat = c) : hasB s c = true := by
  unfold hasB
  rw [List.any_eq_true]
  exact ⟨s[k], Array.mem_toList_iff.2 (Array.getElem_mem (xs := s.data) h), by simp [e]⟩
theorem hasB_no {s : ByteArray} {c : Nat} (h : ∀ k (h : k < s.size), s[k].toNat ≠ c) : hasB s c = false := by
  unfold hasB
  rw [List.any_eq_false]
  intro b hb
  obtain ⟨k, hk, rfl⟩ := Array.mem_iff_getElem.1 (Array.mem_toList_iff.1 hb)
  have h1 : ¬ s.data[k].toNat = c := h k hk
  simp [h1]
theorem retB {a b : Bool} (h : a = b) : Ending.returned (.bool a) = .returned (.bool b) := by rw [h]
set_option maxHeartbeats 1000000 in
theorem has_any (w : World) (s : ByteArray) (c : Nat) (hs : s.size ≤ 281474976710656) :
    Calls Tryd.prog 46 #[.string s, .int .u8 (c : Int)] w fun e w' => e = .returned (.bool (hasB s c)) ∧ w' = w := by
  go_enter Tryd.func46, Tryd.ntmps46
  go_wp2
  go_loop [5] (fun i => ∃ k : Nat, k ≤ s.size ∧ i = .int .i64 k ∧ Hid (∀ j (h : j < s.size), j < k → s[j].toNat ≠ c)) (fun i => s.size - (intOf i).toNat)
  case atStart => exact ⟨0, Nat.zero_le _, rfl, fun j _ h => by omega⟩
  case round =>
    obtain ⟨k, hk, rfl, hd⟩ := hrel
    by_cases hlt : k < s.size
    · by_cases c1 : s[k].toNat = c
      · have b1 : ((s[k].toNat : Int) == (c : Int)) = true := by simp; omega
        have HN : Hid (_ = _) := hasB_yes hlt c1
        clear c1
        go_wp2
        go_ret
        exact ⟨retB (by rw [HN.out]), rfl⟩
      · have b1 : ((s[k].toNat : Int) == (c : Int)) = false := by simp; omega
        have HN : Hid (∀ j (h : j < s.size), j < k + 1 → s[j].toNat ≠ c) := fun j h hj => by
          by_cases e : j = k
          · subst e; exact c1
          · exact hd.out j h (by omega)
        clear c1
        go_wp2
        go_round
        case rel => exact ⟨k + 1, by omega, by go_num, HN⟩
        case measure => simp [intOf]; omega
    · have e : k = s.size := by omega
      subst e
      have HN : Hid (_ = _) := hasB_no (fun k h => hd.out k h h)
      go_wp2
      go_ret
      exact ⟨retB (by rw [HN.out]), rfl⟩
/-- The kinds of a code's operands. -/
def kdS (c : Int) : ByteArray := if c = 1 ∨ c = 2 then ⟨#[100, 111]⟩ else if c = 3 then ⟨#[111, 120]⟩ else if c = 4 then ⟨#[111]⟩ else if c = 5 then ⟨#[100, 120]⟩ else if c = 6 then ⟨#[100, 120, 121]⟩ else if c = 7 then ⟨#[120, 114, 121, 108]⟩ else if c = 8 then ⟨#[108]⟩ else if c = 10 then ⟨#[120]⟩ else ⟨#[]⟩
theorem kindsOf_any (w : World) (c : Int) (h : 1 ≤ c ∧ c ≤ 10) : Calls Tryd.prog 33 #[.int .i64 c] w fun e w' => e = .returned (.string (kdS c)) ∧ w' = w := by
  rcases (by omega : c = 1 ∨ c = 2 ∨ c = 3 ∨ c = 4 ∨ c = 5 ∨ c = 6 ∨ c = 7 ∨ c = 8 ∨ c = 9 ∨ c = 10) with rfl | rfl | rfl | rfl | rfl | rfl | rfl | rfl | rfl | rfl <;>
  (go_enter Tryd.func33, Tryd.ntmps33
   go_wp2
   go_ret
   exact ⟨rfl, rfl⟩)
theorem kd_size (c : Int) : (kdS c).size ≤ 281474976710656 := by
  unfold kdS
  repeat' split
  all_goals decide
theorem kd_all (c : Int) (h : 1 ≤ c ∧ c ≤ 10) : hasB (kdS c) 100 = kdD c ∧ hasB (kdS c) 111 = kdO c ∧ hasB (kdS c) 120 = kdX c ∧ hasB (kdS c) 121 = kdY c ∧ hasB (kdS c) 114 = kdR c ∧ hasB (kdS c) 108 = kdL c := by
  rcases (by omega : c = 1 ∨ c = 2 ∨ c = 3 ∨ c = 4 ∨ c = 5 ∨ c = 6 ∨ c = 7 ∨ c = 8 ∨ c = 9 ∨ c = 10) with rfl | rfl | rfl | rfl | rfl | rfl | rfl | rfl | rfl | rfl <;> decide
end Go.Proofs.YtanmpioplckgbaaDoor
