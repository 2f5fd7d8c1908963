import Derived.Test.YtehblpbefkopbaaGreatDoorParse
namespace Go.Proofs.YtehblpbefkopbaaGreatDoor
open Go.ChangeShapes Go.WideShapes Go.ChangeAt Go.RowKit

theorem retB {a b : Bool} (h : a = b) : Ending.returned (.bool a) = .returned (.bool b) := by rw [h]
set_option maxHeartbeats 1000000 in
theorem isNum_minus (s : ByteArray) (w : World) (hs : s.size ≤ 281474976710656) (h : 0 < s.size) (h1 : s[0].toNat = 45) (h2 : 0 < (s.extract 1 s.size).size) (h3 : (s.extract 1 s.size)[0].toNat ≠ 48) :
    Calls Tryz.prog 95 #[.string s] w fun e w' => e = .returned (.bool (numForm s.toList)) ∧ w' = w := by
  have HF : Hid (_ = _) := ((form_minus h h1).2 h2).2 h3
  have a1 : s.toList.isEmpty = false := by rw [list_cons s h]; rfl
  have a2 : ((s[0].toNat : Int) == 45) = true := by simp; omega
  have hts : (s.extract 1 s.size).size ≤ 281474976710656 := by simp; omega
  have a3 : (s.extract 1 s.size).toList.isEmpty = false := by rw [list_cons _ h2]; rfl
  have a4 : (((s.extract 1 s.size)[0].toNat : Int) == 48) = false := by simp; omega
  have h2' : 0 < s.size - 1 := by simpa using h2
  go_enter Tryz.func95, Tryz.ntmps95
  go_wp2
  generalize (s.extract 1 s.size)[0].toNat = c0 at *
  clear h2 h2' h3 a4
  generalize s.extract 1 s.size = t at *
  go_loop [4] (fun i => ∃ k : Nat, k ≤ t.size ∧ i = .int .i64 k ∧ DigTo t k) (fun i => t.size - (intOf i).toNat)
  case atStart => exact ⟨0, Nat.zero_le _, rfl, digTo_zero _⟩
  case round =>
    obtain ⟨k, hk, rfl, hd⟩ := hrel
    have HD : Hid (DigTo t k) := hd
    clear hd
    by_cases hlt : k < t.size
    · by_cases c1 : t[k].toNat < 48
      · have b1 : decide ((t[k].toNat : Int) < 48) = true := by simp; omega
        have HN : Hid (_ = _) := not_all hlt (.inl c1)
        go_wp2
        go_ret
        exact ⟨retB (by rw [HF.out, HN.out]), rfl⟩
      · have b1 : decide ((t[k].toNat : Int) < 48) = false := by simp; omega
        by_cases c2 : 57 < t[k].toNat
        · have b2 : decide ((57 : Int) < (t[k].toNat : Int)) = true := by simp; omega
          have HN : Hid (_ = _) := not_all hlt (.inr c2)
          go_wp2
          go_ret
          exact ⟨retB (by rw [HF.out, HN.out]), rfl⟩
        · have b2 : decide ((57 : Int) < (t[k].toNat : Int)) = false := by simp; omega
          have HN : Hid (DigTo t (k + 1)) := digTo_succ HD.out hlt (by omega) (by omega)
          go_wp2
          go_round
          case rel => exact ⟨k + 1, by omega, by go_num, HN.out⟩
          case measure => simp [intOf]; omega
    · have e : k = t.size := by omega
      subst e
      have HN : Hid (_ = _) := digTo_all HD.out
      go_wp2
      go_ret
      exact ⟨retB (by rw [HF.out, HN.out]), rfl⟩
set_option maxHeartbeats 1000000 in
theorem isNum_plain (s : ByteArray) (w : World) (hs : s.size ≤ 281474976710656) (h : 0 < s.size) (h1 : s[0].toNat ≠ 45) (h3 : s[0].toNat ≠ 48) :
    Calls Tryz.prog 95 #[.string s] w fun e w' => e = .returned (.bool (numForm s.toList)) ∧ w' = w := by
  have HF : Hid (_ = _) := (form_plain h h1).2 h3
  have a1 : s.toList.isEmpty = false := by rw [list_cons s h]; rfl
  have a2 : ((s[0].toNat : Int) == 45) = false := by simp; omega
  have a4 : ((s[0].toNat : Int) == 48) = false := by simp; omega
  go_enter Tryz.func95, Tryz.ntmps95
  go_wp2
  go_loop [4] (fun i => ∃ k : Nat, k ≤ s.size ∧ i = .int .i64 k ∧ DigTo s k) (fun i => s.size - (intOf i).toNat)
  case atStart => exact ⟨0, Nat.zero_le _, rfl, digTo_zero _⟩
  case round =>
    obtain ⟨k, hk, rfl, hd⟩ := hrel
    have HD : Hid (DigTo s k) := hd
    clear hd
    by_cases hlt : k < s.size
    · by_cases c1 : s[k].toNat < 48
      · have b1 : decide ((s[k].toNat : Int) < 48) = true := by simp; omega
        have HN : Hid (_ = _) := not_all hlt (.inl c1)
        go_wp2
        go_ret
        exact ⟨retB (by rw [HF.out, HN.out]), rfl⟩
      · have b1 : decide ((s[k].toNat : Int) < 48) = false := by simp; omega
        by_cases c2 : 57 < s[k].toNat
        · have b2 : decide ((57 : Int) < (s[k].toNat : Int)) = true := by simp; omega
          have HN : Hid (_ = _) := not_all hlt (.inr c2)
          go_wp2
          go_ret
          exact ⟨retB (by rw [HF.out, HN.out]), rfl⟩
        · have b2 : decide ((57 : Int) < (s[k].toNat : Int)) = false := by simp; omega
          have HN : Hid (DigTo s (k + 1)) := digTo_succ HD.out hlt (by omega) (by omega)
          go_wp2
          go_round
          case rel => exact ⟨k + 1, by omega, by go_num, HN.out⟩
          case measure => simp [intOf]; omega
    · have e : k = s.size := by omega
      subst e
      have HN : Hid (_ = _) := digTo_all HD.out
      go_wp2
      go_ret
      exact ⟨retB (by rw [HF.out, HN.out]), rfl⟩
theorem isNum_any (s : ByteArray) (w : World) (hs : s.size ≤ 281474976710656) :
    Calls Tryz.prog 95 #[.string s] w fun e w' => e = .returned (.bool (numForm s.toList)) ∧ w' = w := by
  by_cases h : 0 < s.size
  · by_cases h1 : s[0].toNat = 45
    · by_cases h2 : 0 < (s.extract 1 s.size).size
      · by_cases h3 : (s.extract 1 s.size)[0].toNat = 48
        · obtain ⟨f1, f2⟩ := ((form_minus h h1).2 h2).1 h3
          rw [f1]
          have a1 : s.toList.isEmpty = false := by rw [list_cons s h]; rfl
          have a2 : ((s[0].toNat : Int) == 45) = true := by simp; omega
          have a3 : (s.extract 1 s.size).toList.isEmpty = false := by rw [list_cons _ h2]; rfl
          have a4 : (((s.extract 1 s.size)[0].toNat : Int) == 48) = true := by simp; omega
          have h2' : 0 < s.size - 1 := by simpa using h2
          go_enter Tryz.func95, Tryz.ntmps95
          go_wp2
          go_ret
          exact ⟨rfl, rfl⟩
        · exact isNum_minus s w hs h h1 h2 h3
      · have e1 : s.size = 1 := by simp at h2; omega
        rw [(form_minus h h1).1 e1]
        have a1 : s.toList.isEmpty = false := by rw [list_cons s h]; rfl
        have a2 : ((s[0].toNat : Int) == 45) = true := by simp; omega
        have a3 : (s.extract 1 s.size).toList.isEmpty = true := by
          have : (s.extract 1 s.size).toList = [] := List.eq_nil_of_length_eq_zero (by rw [list_tail, List.length_drop, list_len]; omega)
          rw [this]; rfl
        have E1 : Hid (s.size = 1) := e1
        clear e1 h2
        go_enter Tryz.func95, Tryz.ntmps95
        go_wp2
        go_ret
        exact ⟨rfl, rfl⟩
    · by_cases h3 : s[0].toNat = 48
      · rw [(form_plain h h1).1 h3]
        have a1 : s.toList.isEmpty = false := by rw [list_cons s h]; rfl
        have a2 : ((s[0].toNat : Int) == 45) = false := by simp; omega
        have a4 : ((s[0].toNat : Int) == 48) = true := by simp; omega
        go_enter Tryz.func95, Tryz.ntmps95
        go_wp2
        go_ret
        exact ⟨rfl, rfl⟩
      · exact isNum_plain s w hs h h1 h3
  · have h0 : s.size = 0 := by omega
    rw [form_nil h0]
    have e : s.toList = [] := List.eq_nil_of_length_eq_zero (by rw [list_len]; exact h0)
    have a1 : s.toList.isEmpty = true := by rw [e]; rfl
    clear h h0
    go_enter Tryz.func95, Tryz.ntmps95
    go_wp2
    go_ret
    exact ⟨rfl, rfl⟩
end Go.Proofs.YtehblpbefkopbaaGreatDoor
