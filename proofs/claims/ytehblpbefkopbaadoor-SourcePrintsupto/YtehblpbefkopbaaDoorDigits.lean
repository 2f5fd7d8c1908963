import Derived.WalkKit
import Derived.ProofKit
import Derived.Lib.ParseIntB
import Derived.Lib.ItoaMem
namespace Go.Proofs.YtehblpbefkopbaaDoor
open Go.RowKit

/-- A digit. -/
def digB (c : UInt8) : Bool := decide (48 ≤ c.toNat) && decide (c.toNat ≤ 57)
theorem digB_iff (c : UInt8) : digB c = true ↔ 48 ≤ c.toNat ∧ c.toNat ≤ 57 := by unfold digB; simp
/-- What digits spell, behind a number. -/
def natv (a : Nat) (l : List UInt8) : Nat := l.foldl (fun acc c => acc * 10 + (c.toNat - 48)) a
theorem natv_nil (a : Nat) : natv a [] = a := by unfold natv; rw [List.foldl_nil]
theorem natv_cons (a : Nat) (c : UInt8) (r : List UInt8) : natv a (c :: r) = natv (a * 10 + (c.toNat - 48)) r := by unfold natv; rw [List.foldl_cons]
theorem natv_append (l r : List UInt8) : ∀ a : Nat, natv a (l ++ r) = natv (natv a l) r := by
  induction l with
  | nil => intro a; rw [List.nil_append, natv_nil]
  | cons c l ih => intro a; rw [List.cons_append, natv_cons, natv_cons, ih]
theorem natv_snoc (a : Nat) (l : List UInt8) (c : UInt8) : natv a (l ++ [c]) = natv a l * 10 + (c.toNat - 48) := by rw [natv_append, natv_cons, natv_nil]
theorem natv_ge (l : List UInt8) : ∀ a : Nat, a * 10 ^ l.length ≤ natv a l := by
  induction l with
  | nil => intro a; rw [natv_nil, List.length_nil, Nat.pow_zero, Nat.mul_one]; exact Nat.le_refl _
  | cons c r ih =>
    intro a
    have h := ih (a * 10 + (c.toNat - 48))
    rw [natv_cons, List.length_cons, Nat.pow_succ]
    refine Nat.le_trans ?_ h
    rw [Nat.mul_comm (10 ^ r.length) 10, ← Nat.mul_assoc]
    exact Nat.mul_le_mul_right _ (Nat.le_add_right _ _)
theorem natv_lt (l : List UInt8) : ∀ a : Nat, l.all digB = true → natv a l < (a + 1) * 10 ^ l.length := by
  induction l with
  | nil => intro a _; rw [natv_nil, List.length_nil, Nat.pow_zero, Nat.mul_one]; exact Nat.lt_succ_self _
  | cons c r ih =>
    intro a h
    rw [List.all_cons, Bool.and_eq_true] at h
    have hc := (digB_iff c).1 h.1
    have h1 := ih (a * 10 + (c.toNat - 48)) h.2
    rw [natv_cons, List.length_cons, Nat.pow_succ]
    refine Nat.lt_of_lt_of_le h1 ?_
    rw [Nat.mul_comm (10 ^ r.length) 10, ← Nat.mul_assoc]
    exact Nat.mul_le_mul_right _ (by omega)
theorem natv_mono {x y : Nat} {a b : List UInt8} (h : x < y) (hl : a.length = b.length) (ha : a.all digB = true) : natv x a < natv y b := by
  have h1 := natv_lt a x ha
  have h2 := natv_ge b y
  rw [hl] at h1
  have h3 : (x + 1) * 10 ^ b.length ≤ y * 10 ^ b.length := Nat.mul_le_mul_right _ h
  omega
/-- Of two runs of digits of one length: the texts' order is the numbers'. -/
theorem less_iff : ∀ (x : Nat) (a b : List UInt8), a.length = b.length → a.all digB = true → b.all digB = true →
    (Op.bytesLess a b = true ↔ natv x a < natv x b) ∧ ((a == b) = true ↔ natv x a = natv x b)
  | x, [], [], _, _, _ => by rw [natv_nil]; simp [Op.bytesLess]
  | x, c :: a, e :: b, hl, ha, hb => by
    rw [List.all_cons, Bool.and_eq_true] at ha hb
    have hc := (digB_iff c).1 ha.1
    have he := (digB_iff e).1 hb.1
    have hl' : a.length = b.length := by simpa using hl
    rw [natv_cons, natv_cons]
    by_cases h1 : c.toNat < e.toNat
    · have m := natv_mono (x := x * 10 + (c.toNat - 48)) (y := x * 10 + (e.toNat - 48)) (by omega) hl' ha.2
      have hce : c < e := UInt8.lt_iff_toNat_lt.2 h1
      have hne : c ≠ e := fun k => by subst k; omega
      refine ⟨⟨fun _ => m, fun _ => by simp [Op.bytesLess, hce]⟩, ⟨fun k => ?_, fun k => by omega⟩⟩
      simp at k; exact absurd k.1 hne
    · by_cases h2 : e.toNat < c.toNat
      · have m := natv_mono (x := x * 10 + (e.toNat - 48)) (y := x * 10 + (c.toNat - 48)) (by omega) hl'.symm hb.2
        have hce : ¬ c < e := fun k => h1 (UInt8.lt_iff_toNat_lt.1 k)
        have hne : c ≠ e := fun k => by subst k; omega
        refine ⟨⟨fun k => ?_, fun k => by omega⟩, ⟨fun k => ?_, fun k => by omega⟩⟩
        · simp [Op.bytesLess, hce, hne] at k
        · simp at k; exact absurd k.1 hne
      · have hce : c = e := UInt8.toNat_inj.1 (by omega)
        subst hce
        have ih := less_iff (x * 10 + (c.toNat - 48)) a b hl' ha.2 hb.2
        have hcc : ¬ c < c := fun k => by have := UInt8.lt_iff_toNat_lt.1 k; omega
        refine ⟨?_, ?_⟩
        · rw [← ih.1]; simp [Op.bytesLess, hcc]
        · rw [← ih.2]; simp

/-- The form of a number's text. -/
def numForm : List UInt8 → Bool
  | [] => false
  | c :: r =>
    if c.toNat = 45 then (match r with
      | [] => false
      | e :: _ => if e.toNat = 48 then false else r.all digB)
    else if c.toNat = 48 then r.isEmpty
    else (c :: r).all digB
theorem numForm_cons (c : UInt8) (r : List UInt8) : numForm (c :: r) = if c.toNat = 45 then (match r with
      | [] => false
      | e :: _ => if e.toNat = 48 then false else r.all digB)
    else if c.toNat = 48 then r.isEmpty
    else (c :: r).all digB := rfl
/-- Whether a minus stands ahead. -/
def neg? : List UInt8 → Bool
  | [] => false
  | c :: _ => decide (c.toNat = 45)
/-- The text behind the sign. -/
def digs : List UInt8 → List UInt8
  | [] => []
  | c :: r => if c.toNat = 45 then r else c :: r
/-- The greatest size of its sign. -/
def lim (l : List UInt8) : Nat := if neg? l then 9223372036854775808 else 9223372036854775807
/-- What a text stands for. -/
def prsV (l : List UInt8) : Int := if numForm l = true ∧ natv 0 (digs l) ≤ lim l then (if neg? l then -((natv 0 (digs l) : Nat) : Int) else ((natv 0 (digs l) : Nat) : Int)) else 0
/-- The error beside it. -/
def prsE (l : List UInt8) : Int := if numForm l = true then (if natv 0 (digs l) ≤ lim l then 0 else 13) else 12

/-- What the form says of the digits. -/
theorem form_digs {l : List UInt8} (h : numForm l = true) : (digs l).all digB = true ∧ digs l ≠ [] ∧ (digs l = [48] ∨ ∃ e r, digs l = e :: r ∧ 49 ≤ e.toNat) ∧ (neg? l = true → ∃ e r, digs l = e :: r ∧ 49 ≤ e.toNat) := by
  match l, h with
  | c :: r, h =>
    rw [numForm_cons] at h
    by_cases h1 : c.toNat = 45
    · rw [if_pos h1] at h
      have hd : digs (c :: r) = r := by show (if _ then _ else _) = _; rw [if_pos h1]
      rw [hd]
      match r, h with
      | e :: r', h =>
        simp only at h
        by_cases h2 : e.toNat = 48
        · rw [if_pos h2] at h; cases h
        · rw [if_neg h2] at h
          have h3 := h
          rw [List.all_cons, Bool.and_eq_true] at h3
          have he := (digB_iff e).1 h3.1
          exact ⟨h, by simp, .inr ⟨e, r', rfl, by omega⟩, fun _ => ⟨e, r', rfl, by omega⟩⟩
    · rw [if_neg h1] at h
      have hd : digs (c :: r) = c :: r := by show (if _ then _ else _) = _; rw [if_neg h1]
      have hn : neg? (c :: r) = false := by show decide _ = _; simp [h1]
      rw [hd, hn]
      by_cases h2 : c.toNat = 48
      · rw [if_pos h2] at h
        have hr : r = [] := by simpa using h
        subst hr
        have hc : c = 48 := UInt8.toNat_inj.1 h2
        subst hc
        exact ⟨by decide, by simp, .inl rfl, fun k => by cases k⟩
      · rw [if_neg h2] at h
        have h3 := h
        rw [List.all_cons, Bool.and_eq_true] at h3
        have he := (digB_iff c).1 h3.1
        exact ⟨h, by simp, .inr ⟨c, r, rfl, by omega⟩, fun k => by cases k⟩

/-! strconv's reading. -/
theorem uintM_digits (M : Nat) (hM : M ≤ 18446744073709551615) : ∀ (r : List UInt8) (acc : Nat), r.all digB = true → acc ≤ M → Lib.parseUintM M acc r = if natv acc r ≤ M then .ok (natv acc r) else .range
  | [], acc, _, h => by rw [natv_nil, if_pos h]; rfl
  | c :: r, acc, h, ha => by
    rw [List.all_cons, Bool.and_eq_true] at h
    have hc := (digB_iff c).1 h.1
    have hge := natv_ge r (acc * 10 + (c.toNat - 48))
    have hp : 0 < 10 ^ r.length := Nat.pow_pos (by decide)
    have hge' : acc * 10 + (c.toNat - 48) ≤ natv (acc * 10 + (c.toNat - 48)) r := by
      refine Nat.le_trans ?_ hge
      exact Nat.le_mul_of_pos_right _ hp
    rw [natv_cons]
    unfold Lib.parseUintM
    rw [if_pos hc]
    by_cases h1 : 1844674407370955162 ≤ acc
    · rw [if_pos h1, if_neg (by omega)]
    · rw [if_neg h1]
      by_cases h2 : M < acc * 10 + (c.toNat - 48)
      · rw [if_pos h2, if_neg (by omega)]
      · rw [if_neg h2]
        exact uintM_digits M hM r _ h.2 (by omega)
theorem parseInt_form {l : List UInt8} (h : numForm l = true) : Lib.parseIntB 64 l = if natv 0 (digs l) ≤ lim l then .ok (prsV l) else .range := by
  obtain ⟨h1, h2, _, _⟩ := form_digs h
  match l, h, h1, h2 with
  | c :: r, h, h1, h2 =>
    have hc43 : c.toNat ≠ 43 := by
      intro k
      rw [numForm_cons, if_neg (by omega), if_neg (by omega), List.all_cons, Bool.and_eq_true] at h
      have := (digB_iff c).1 h.1
      omega
    have hd : (if c.toNat = 43 ∨ c.toNat = 45 then r else c :: r) = digs (c :: r) := by
      show _ = if c.toNat = 45 then r else c :: r
      by_cases k : c.toNat = 45
      · rw [if_pos (.inr k), if_pos k]
      · rw [if_neg (by omega), if_neg k]
    have hu : Lib.parseUintB 64 (digs (c :: r)) = if natv 0 (digs (c :: r)) ≤ 18446744073709551615 then .ok (natv 0 (digs (c :: r))) else .range := by
      unfold Lib.parseUintB
      rw [if_neg h2]
      exact uintM_digits _ (by decide) _ 0 h1 (by decide)
    unfold Lib.parseIntB
    simp only [hd, hu]
    have hN : neg? (c :: r) = decide (c.toNat = 45) := rfl
    have hV : ∀ x : Nat, x = natv 0 (digs (c :: r)) → x ≤ lim (c :: r) → prsV (c :: r) = if neg? (c :: r) then -((x : Nat) : Int) else ((x : Nat) : Int) := by
      intro x hx hl
      unfold prsV
      rw [← hx, if_pos ⟨h, hl⟩]
    have hL : lim (c :: r) = if c.toNat = 45 then 9223372036854775808 else 9223372036854775807 := by unfold lim; rw [hN]; by_cases k : c.toNat = 45 <;> simp [k]
    generalize hv : natv 0 (digs (c :: r)) = v at *
    rw [hL] at hV ⊢
    have hV' := hV v rfl
    rw [hN] at hV'
    by_cases k : c.toNat = 45
    · simp only [k, if_true, decide_true] at hV' ⊢
      by_cases h3 : v ≤ 9223372036854775808
      · rw [if_pos h3, if_pos (by omega), hV' h3]
        simp [show ¬ (9223372036854775808 < v) by omega]
      · rw [if_neg h3]
        by_cases h4 : v ≤ 18446744073709551615
        · rw [if_pos h4]; simp [show 9223372036854775808 < v by omega]
        · rw [if_neg h4]
    · simp only [k, if_false, decide_false, Bool.false_eq_true] at hV' ⊢
      by_cases h3 : v ≤ 9223372036854775807
      · rw [if_pos h3, if_pos (by omega), hV' h3]
        simp [show ¬ (9223372036854775808 ≤ v) by omega]
      · rw [if_neg h3]
        by_cases h4 : v ≤ 18446744073709551615
        · rw [if_pos h4]; simp [show 9223372036854775808 ≤ v by omega]
        · rw [if_neg h4]
end Go.Proofs.YtehblpbefkopbaaDoor
