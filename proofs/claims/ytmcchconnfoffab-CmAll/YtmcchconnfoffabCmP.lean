import Derived.Test.YtmcchconnfoffabCmE
namespace Go.Proofs.Ytmcchconnfoffab
open Go.RowKit
/-- A kind's own rule: how long it waits; none: abort. -/
def rulv (k : Nat) (c : Cf) : Option Int :=
  match k with
  | 0 => if 8 ≤ c.tries then none else some (1 + lowz c.tries.toNat c.draw)
  | 1 => if outr c = true then none else some 4
  | 2 => if outr c = true then none else some (1 + lowz (min c.tries 7).toNat c.draw)
  | 3 => if c.born < c.enemy ∨ c.flag = true then none else some 4
  | _ => if lowz 4 c.draw % 2 = 0 then none else some ((lowz 4 c.draw + 1) / 2 + if c.draw < 0 then 8 else 0)
theorem judge_rul {k : Nat} (hk : k < 5) (p : Int) (c : Cf) : judgev k p c = match rulv k c with | none => .ab | some n => if k < 4 then cutv p n c.waited else .wt n := by
  match k, hk with
  | 0, _ => simp only [judgev, rulv]; split <;> simp
  | 1, _ => simp only [judgev, rulv]; split <;> simp
  | 2, _ => simp only [judgev, rulv]; split <;> simp
  | 3, _ => simp only [judgev, rulv]; split <;> simp
  | 4, _ => simp only [judgev, rulv]; split <;> simp
theorem rul_form {k : Nat} (hk : k < 5) {c : Cf} (h0 : 0 ≤ c.tries) {n : Int} (h : rulv k c = some n) : 1 ≤ n ∧ n ≤ lng k := by
  match k, hk with
  | 0, _ =>
    simp only [rulv] at h
    split at h
    · cases h
    · cases h
      have a := lowz_nn c.tries.toNat c.draw
      have b := lowz_le7 (n := c.tries.toNat) (by omega) c.draw
      simp only [lng]; omega
  | 1, _ =>
    simp only [rulv] at h
    split at h
    · cases h
    · cases h; simp [lng]
  | 2, _ =>
    simp only [rulv] at h
    split at h
    · cases h
    · cases h
      have a := lowz_nn (min c.tries 7).toNat c.draw
      have b := lowz_le7 (n := (min c.tries 7).toNat) (by omega) c.draw
      simp only [lng]; omega
  | 3, _ =>
    simp only [rulv] at h
    split at h
    · cases h
    · cases h; simp [lng]
  | 4, _ =>
    simp only [rulv] at h
    split at h
    · cases h
    · cases h
      have a := lowz_nn 4 c.draw
      have b : lowz 4 c.draw < 16 := lowz_lt 4 c.draw
      simp only [lng]; split <;> omega
theorem rul_waited {k : Nat} (hk : k < 5) (c : Cf) (x : Int) : rulv k { c with waited := x } = rulv k c := by
  match k, hk with
  | 0, _ | 1, _ | 2, _ | 3, _ | 4, _ => rfl
theorem cut_wt {p n t : Int} (h : 1 ≤ p - t) : cutv p n t = .wt (min n (p - t)) := if_neg (by omega)
theorem cut_out {p n t : Int} (h : p - t < 1) : cutv p n t = .out := if_pos h
end Go.Proofs.Ytmcchconnfoffab
