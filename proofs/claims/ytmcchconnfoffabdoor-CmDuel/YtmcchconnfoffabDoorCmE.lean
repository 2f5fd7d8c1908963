import Derived.Test.YtmcchconnfoffabDoorCmD
namespace Go.Proofs.YtmcchconnfoffabDoor
open Go.RowKit
/-- A verdict's form. -/
def Fm (k : Nat) (v : Vd) : Prop := v = .ab ∨ (v = .out ∧ k ≠ 4) ∨ ∃ n, v = .wt n ∧ 1 ≤ n ∧ n ≤ lng k
theorem cut_form {p n t : Int} (hn : 1 ≤ n) : cutv p n t = .out ∨ ∃ m, cutv p n t = .wt m ∧ 1 ≤ m ∧ m ≤ n := by
  unfold cutv
  split
  · exact .inl rfl
  · exact .inr ⟨_, rfl, by omega, by omega⟩
theorem judge_form {k : Nat} (hk : k < 5) (p : Int) (c : Cf) (h0 : 0 ≤ c.tries) : Fm k (judgev k p c) := by
  have cc : ∀ {n t : Int}, k ≠ 4 → 1 ≤ n → n ≤ lng k → Fm k (cutv p n t) := fun h4 h1 h2 =>
    (cut_form h1).elim (fun e => .inr (.inl ⟨e, h4⟩)) (fun ⟨m, e, a, b⟩ => .inr (.inr ⟨m, e, a, Int.le_trans b h2⟩))
  match k, hk with
  | 0, _ =>
    by_cases h : 8 ≤ c.tries
    · rw [show judgev 0 p c = .ab from if_pos h]; exact .inl rfl
    · rw [show judgev 0 p c = _ from if_neg h]
      have a := lowz_nn c.tries.toNat c.draw
      have b := lowz_le7 (n := c.tries.toNat) (by omega) c.draw
      exact cc (by omega) (by omega) (by simp only [lng]; omega)
  | 1, _ =>
    by_cases h : outr c = true
    · rw [show judgev 1 p c = .ab from if_pos h]; exact .inl rfl
    · rw [show judgev 1 p c = _ from if_neg h]; exact cc (by omega) (by omega) (by simp [lng])
  | 2, _ =>
    by_cases h : outr c = true
    · rw [show judgev 2 p c = .ab from if_pos h]; exact .inl rfl
    · rw [show judgev 2 p c = _ from if_neg h]
      have a := lowz_nn (min c.tries 7).toNat c.draw
      have b := lowz_le7 (n := (min c.tries 7).toNat) (by omega) c.draw
      exact cc (by omega) (by omega) (by simp only [lng]; omega)
  | 3, _ =>
    by_cases h : c.born < c.enemy ∨ c.flag = true
    · rw [show judgev 3 p c = .ab from if_pos h]; exact .inl rfl
    · rw [show judgev 3 p c = _ from if_neg h]; exact cc (by omega) (by omega) (by simp [lng])
  | 4, _ =>
    by_cases h : lowz 4 c.draw % 2 = 0
    · rw [show judgev 4 p c = .ab from if_pos h]; exact .inl rfl
    · rw [show judgev 4 p c = _ from if_neg h]
      have a := lowz_nn 4 c.draw
      have b : lowz 4 c.draw < 16 := lowz_lt 4 c.draw
      exact .inr (.inr ⟨_, rfl, by split <;> omega, by simp only [lng]; split <;> omega⟩)
end Go.Proofs.YtmcchconnfoffabDoor
