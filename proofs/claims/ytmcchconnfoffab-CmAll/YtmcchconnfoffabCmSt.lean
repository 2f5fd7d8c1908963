import Derived.Test.YtmcchconnfoffabSatFacts
namespace Go.Proofs.Ytmcchconnfoffab
open Go.RowKit

/-- A conflict, a verdict. -/
structure Cf where
  mine : Int
  theirs : Int
  born : Int
  enemy : Int
  flag : Bool
  tries : Int
  waited : Int
  draw : Int
structure Vd where
  a : Bool
  t : Bool
  n : Int
  deriving DecidableEq
def cfv (c : Cf) : Value := .agg #[.int .i64 c.mine, .int .i64 c.theirs, .int .i64 c.born, .int .i64 c.enemy, .bool c.flag, .int .i64 c.tries, .int .i64 c.waited, .int .i64 c.draw]
def vdv (v : Vd) : Value := .agg #[.bool v.a, .bool v.t, .int .i64 v.n]
def Cf.ok (c : Cf) : Prop := In64 c.mine ∧ In64 c.theirs ∧ In64 c.born ∧ In64 c.enemy ∧ In64 c.tries ∧ In64 c.waited ∧ In64 c.draw
/-- What a manager sees: no tries and no steps waited below 0. -/
def Cf.norm (c : Cf) : Cf := { c with tries := max c.tries 0, waited := max c.waited 0 }
def Vd.ab : Vd := ⟨true, false, 0⟩
def Vd.out : Vd := ⟨true, true, 0⟩
def Vd.wt (n : Int) : Vd := ⟨false, false, n⟩
/-- The lowest n bits. -/
def lowz (n : Nat) (d : Int) : Int := d % 2 ^ n
def cutv (p n waited : Int) : Vd := if p - waited < 1 then .out else .wt (min n (p - waited))
def outr (c : Cf) : Bool := decide (c.theirs < clamp (c.mine + c.tries))
/-- Each kind's verdict. -/
def judgev (k : Nat) (p : Int) (c : Cf) : Vd :=
  match k with
  | 0 => if 8 ≤ c.tries then .ab else cutv p (1 + lowz c.tries.toNat c.draw) c.waited
  | 1 => if outr c = true then .ab else cutv p 4 c.waited
  | 2 => if outr c = true then .ab else cutv p (1 + lowz (min c.tries 7).toNat c.draw) c.waited
  | 3 => if c.born < c.enemy ∨ c.flag = true then .ab else cutv p 4 c.waited
  | _ => if lowz 4 c.draw % 2 = 0 then .ab else .wt ((lowz 4 c.draw + 1) / 2 + if c.draw < 0 then 8 else 0)

theorem lowz_nn (n : Nat) (d : Int) : 0 ≤ lowz n d := Int.emod_nonneg _ (by have := Int.pow_pos (n := 2) (m := n) (by omega); omega)
theorem lowz_lt (n : Nat) (d : Int) : lowz n d < 2 ^ n := Int.emod_lt_of_pos _ (Int.pow_pos (by omega))
theorem pow_le7 {n : Nat} (h : n ≤ 7) : (2 : Int) ^ n ≤ 128 := by
  have e : ((2 ^ n : Nat) : Int) ≤ ((2 ^ 7 : Nat) : Int) := Int.ofNat_le.2 (Nat.pow_le_pow_right (by omega) h)
  simpa using e
theorem lowz_le7 {n : Nat} (h : n ≤ 7) (d : Int) : lowz n d < 128 := Int.lt_of_lt_of_le (lowz_lt n d) (pow_le7 h)
theorem low_and (n : Nat) (hn : n ≤ 62) (d : Int) : bits .and .i64 d (2 ^ n - 1) = lowz n d := by
  have h1 : (1 : Int) ≤ 2 ^ n := by have := Int.pow_pos (n := 2) (m := n) (by omega); omega
  have h2 : (2 : Int) ^ n ≤ 4611686018427387904 := by
    have e : ((2 ^ n : Nat) : Int) ≤ ((2 ^ 62 : Nat) : Int) := Int.ofNat_le.2 (Nat.pow_le_pow_right (by omega) hn)
    simpa using e
  have e1 : u (2 ^ n - 1) = 2 ^ n - 1 := by
    unfold u
    rw [Int.emod_eq_of_lt (by omega) (by omega)]
    have : ((2 ^ n : Nat) : Int) = 2 ^ n := by simp
    omega
  rw [and_i64, e1, Nat.and_two_pow_sub_one_eq_mod]
  have e2 : ((u d % 2 ^ n : Nat) : Int) = lowz n d := by
    unfold lowz u
    rw [Int.natCast_emod, Int.toNat_of_nonneg (Int.emod_nonneg _ (by omega))]
    have e3 : ((2 ^ n : Nat) : Int) = 2 ^ n := by simp
    rw [e3]
    refine Int.emod_emod_of_dvd _ ⟨2 ^ (64 - n), ?_⟩
    rw [← Int.pow_add, show n + (64 - n) = 64 by omega]
    decide
  rw [e2]
  exact wrap_id ⟨by have := lowz_nn n d; omega, by have := lowz_lt n d; omega⟩
end Go.Proofs.Ytmcchconnfoffab
