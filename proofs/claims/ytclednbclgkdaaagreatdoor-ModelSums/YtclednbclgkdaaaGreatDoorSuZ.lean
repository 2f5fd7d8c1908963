import Derived.Test.YtclednbclgkdaaaGreatDoorPqD
import Derived.Test.YtclednbclgkdaaaGreatDoorJP
namespace Go.Proofs.YtclednbclgkdaaaGreatDoor
open Go.RowKit
/-- The law's text for so many objects. -/
def suA : ByteArray := ⟨#[97, 58, 32, 103, 101, 116, 32, 114, 49, 32, 64, 114, 48, 10, 97, 100, 100, 32, 114, 50, 32, 114, 50, 32, 114, 49, 10, 97, 100, 100, 32, 114, 48, 32, 114, 48, 32, 49, 10, 105, 102, 32, 114, 48, 32, 60, 32]⟩
def suB : ByteArray := ⟨#[32, 97, 10, 112, 117, 116, 32, 64]⟩
def suC : ByteArray := ⟨#[32, 114, 50, 10, 100, 111, 110, 101, 32, 114, 50]⟩
def prgS (n : Int) : List Ins := [⟨1, 1, true, 0, false, 0, false, 0, 0, 0, 0⟩, ⟨6, 2, false, 0, true, 2, true, 1, 1, 0, 0⟩, ⟨6, 0, false, 0, true, 0, false, 1, 1, 0, 0⟩, ⟨7, 0, false, 0, true, 0, false, n, 0, 3, 0⟩, ⟨3, 0, false, n - 1, true, 2, false, 0, 0, 0, 0⟩, ⟨10, 0, false, 0, true, 2, false, 0, 0, 0, 0⟩]
def txS (a b : ByteArray) : ByteArray := suA ++ a ++ suB ++ b ++ suC
theorem su1 : prsR (txS ⟨(Lib.itoa 1).toArray⟩ ⟨(Lib.itoa 0).toArray⟩) = .ok (prgS 1) ∧ (chk (prgS 1)).1 = 0 ∧ (txS ⟨(Lib.itoa 1).toArray⟩ ⟨(Lib.itoa 0).toArray⟩).size ≤ 100 ∧ (Lib.itoa 1).toArray.size ≤ 2 ∧ (Lib.itoa 0).toArray.size ≤ 2 := ⟨by kernel_rfl, by kernel_rfl, of_decide_eq_true (by kernel_rfl), of_decide_eq_true (by kernel_rfl), of_decide_eq_true (by kernel_rfl)⟩
theorem su2 : prsR (txS ⟨(Lib.itoa 2).toArray⟩ ⟨(Lib.itoa 1).toArray⟩) = .ok (prgS 2) ∧ (chk (prgS 2)).1 = 0 ∧ (txS ⟨(Lib.itoa 2).toArray⟩ ⟨(Lib.itoa 1).toArray⟩).size ≤ 100 ∧ (Lib.itoa 2).toArray.size ≤ 2 ∧ (Lib.itoa 1).toArray.size ≤ 2 := ⟨by kernel_rfl, by kernel_rfl, of_decide_eq_true (by kernel_rfl), of_decide_eq_true (by kernel_rfl), of_decide_eq_true (by kernel_rfl)⟩
theorem su3 : prsR (txS ⟨(Lib.itoa 3).toArray⟩ ⟨(Lib.itoa 2).toArray⟩) = .ok (prgS 3) ∧ (chk (prgS 3)).1 = 0 ∧ (txS ⟨(Lib.itoa 3).toArray⟩ ⟨(Lib.itoa 2).toArray⟩).size ≤ 100 ∧ (Lib.itoa 3).toArray.size ≤ 2 ∧ (Lib.itoa 2).toArray.size ≤ 2 := ⟨by kernel_rfl, by kernel_rfl, of_decide_eq_true (by kernel_rfl), of_decide_eq_true (by kernel_rfl), of_decide_eq_true (by kernel_rfl)⟩
theorem su4 : prsR (txS ⟨(Lib.itoa 4).toArray⟩ ⟨(Lib.itoa 3).toArray⟩) = .ok (prgS 4) ∧ (chk (prgS 4)).1 = 0 ∧ (txS ⟨(Lib.itoa 4).toArray⟩ ⟨(Lib.itoa 3).toArray⟩).size ≤ 100 ∧ (Lib.itoa 4).toArray.size ≤ 2 ∧ (Lib.itoa 3).toArray.size ≤ 2 := ⟨by kernel_rfl, by kernel_rfl, of_decide_eq_true (by kernel_rfl), of_decide_eq_true (by kernel_rfl), of_decide_eq_true (by kernel_rfl)⟩
theorem su5 : prsR (txS ⟨(Lib.itoa 5).toArray⟩ ⟨(Lib.itoa 4).toArray⟩) = .ok (prgS 5) ∧ (chk (prgS 5)).1 = 0 ∧ (txS ⟨(Lib.itoa 5).toArray⟩ ⟨(Lib.itoa 4).toArray⟩).size ≤ 100 ∧ (Lib.itoa 5).toArray.size ≤ 2 ∧ (Lib.itoa 4).toArray.size ≤ 2 := ⟨by kernel_rfl, by kernel_rfl, of_decide_eq_true (by kernel_rfl), of_decide_eq_true (by kernel_rfl), of_decide_eq_true (by kernel_rfl)⟩
theorem su6 : prsR (txS ⟨(Lib.itoa 6).toArray⟩ ⟨(Lib.itoa 5).toArray⟩) = .ok (prgS 6) ∧ (chk (prgS 6)).1 = 0 ∧ (txS ⟨(Lib.itoa 6).toArray⟩ ⟨(Lib.itoa 5).toArray⟩).size ≤ 100 ∧ (Lib.itoa 6).toArray.size ≤ 2 ∧ (Lib.itoa 5).toArray.size ≤ 2 := ⟨by kernel_rfl, by kernel_rfl, of_decide_eq_true (by kernel_rfl), of_decide_eq_true (by kernel_rfl), of_decide_eq_true (by kernel_rfl)⟩
theorem su7 : prsR (txS ⟨(Lib.itoa 7).toArray⟩ ⟨(Lib.itoa 6).toArray⟩) = .ok (prgS 7) ∧ (chk (prgS 7)).1 = 0 ∧ (txS ⟨(Lib.itoa 7).toArray⟩ ⟨(Lib.itoa 6).toArray⟩).size ≤ 100 ∧ (Lib.itoa 7).toArray.size ≤ 2 ∧ (Lib.itoa 6).toArray.size ≤ 2 := ⟨by kernel_rfl, by kernel_rfl, of_decide_eq_true (by kernel_rfl), of_decide_eq_true (by kernel_rfl), of_decide_eq_true (by kernel_rfl)⟩
theorem su8 : prsR (txS ⟨(Lib.itoa 8).toArray⟩ ⟨(Lib.itoa 7).toArray⟩) = .ok (prgS 8) ∧ (chk (prgS 8)).1 = 0 ∧ (txS ⟨(Lib.itoa 8).toArray⟩ ⟨(Lib.itoa 7).toArray⟩).size ≤ 100 ∧ (Lib.itoa 8).toArray.size ≤ 2 ∧ (Lib.itoa 7).toArray.size ≤ 2 := ⟨by kernel_rfl, by kernel_rfl, of_decide_eq_true (by kernel_rfl), of_decide_eq_true (by kernel_rfl), of_decide_eq_true (by kernel_rfl)⟩
theorem su9 : prsR (txS ⟨(Lib.itoa 9).toArray⟩ ⟨(Lib.itoa 8).toArray⟩) = .ok (prgS 9) ∧ (chk (prgS 9)).1 = 0 ∧ (txS ⟨(Lib.itoa 9).toArray⟩ ⟨(Lib.itoa 8).toArray⟩).size ≤ 100 ∧ (Lib.itoa 9).toArray.size ≤ 2 ∧ (Lib.itoa 8).toArray.size ≤ 2 := ⟨by kernel_rfl, by kernel_rfl, of_decide_eq_true (by kernel_rfl), of_decide_eq_true (by kernel_rfl), of_decide_eq_true (by kernel_rfl)⟩
theorem su10 : prsR (txS ⟨(Lib.itoa 10).toArray⟩ ⟨(Lib.itoa 9).toArray⟩) = .ok (prgS 10) ∧ (chk (prgS 10)).1 = 0 ∧ (txS ⟨(Lib.itoa 10).toArray⟩ ⟨(Lib.itoa 9).toArray⟩).size ≤ 100 ∧ (Lib.itoa 10).toArray.size ≤ 2 ∧ (Lib.itoa 9).toArray.size ≤ 2 := ⟨by kernel_rfl, by kernel_rfl, of_decide_eq_true (by kernel_rfl), of_decide_eq_true (by kernel_rfl), of_decide_eq_true (by kernel_rfl)⟩
theorem su11 : prsR (txS ⟨(Lib.itoa 11).toArray⟩ ⟨(Lib.itoa 10).toArray⟩) = .ok (prgS 11) ∧ (chk (prgS 11)).1 = 0 ∧ (txS ⟨(Lib.itoa 11).toArray⟩ ⟨(Lib.itoa 10).toArray⟩).size ≤ 100 ∧ (Lib.itoa 11).toArray.size ≤ 2 ∧ (Lib.itoa 10).toArray.size ≤ 2 := ⟨by kernel_rfl, by kernel_rfl, of_decide_eq_true (by kernel_rfl), of_decide_eq_true (by kernel_rfl), of_decide_eq_true (by kernel_rfl)⟩
theorem su12 : prsR (txS ⟨(Lib.itoa 12).toArray⟩ ⟨(Lib.itoa 11).toArray⟩) = .ok (prgS 12) ∧ (chk (prgS 12)).1 = 0 ∧ (txS ⟨(Lib.itoa 12).toArray⟩ ⟨(Lib.itoa 11).toArray⟩).size ≤ 100 ∧ (Lib.itoa 12).toArray.size ≤ 2 ∧ (Lib.itoa 11).toArray.size ≤ 2 := ⟨by kernel_rfl, by kernel_rfl, of_decide_eq_true (by kernel_rfl), of_decide_eq_true (by kernel_rfl), of_decide_eq_true (by kernel_rfl)⟩
theorem su13 : prsR (txS ⟨(Lib.itoa 13).toArray⟩ ⟨(Lib.itoa 12).toArray⟩) = .ok (prgS 13) ∧ (chk (prgS 13)).1 = 0 ∧ (txS ⟨(Lib.itoa 13).toArray⟩ ⟨(Lib.itoa 12).toArray⟩).size ≤ 100 ∧ (Lib.itoa 13).toArray.size ≤ 2 ∧ (Lib.itoa 12).toArray.size ≤ 2 := ⟨by kernel_rfl, by kernel_rfl, of_decide_eq_true (by kernel_rfl), of_decide_eq_true (by kernel_rfl), of_decide_eq_true (by kernel_rfl)⟩
theorem su14 : prsR (txS ⟨(Lib.itoa 14).toArray⟩ ⟨(Lib.itoa 13).toArray⟩) = .ok (prgS 14) ∧ (chk (prgS 14)).1 = 0 ∧ (txS ⟨(Lib.itoa 14).toArray⟩ ⟨(Lib.itoa 13).toArray⟩).size ≤ 100 ∧ (Lib.itoa 14).toArray.size ≤ 2 ∧ (Lib.itoa 13).toArray.size ≤ 2 := ⟨by kernel_rfl, by kernel_rfl, of_decide_eq_true (by kernel_rfl), of_decide_eq_true (by kernel_rfl), of_decide_eq_true (by kernel_rfl)⟩
theorem su15 : prsR (txS ⟨(Lib.itoa 15).toArray⟩ ⟨(Lib.itoa 14).toArray⟩) = .ok (prgS 15) ∧ (chk (prgS 15)).1 = 0 ∧ (txS ⟨(Lib.itoa 15).toArray⟩ ⟨(Lib.itoa 14).toArray⟩).size ≤ 100 ∧ (Lib.itoa 15).toArray.size ≤ 2 ∧ (Lib.itoa 14).toArray.size ≤ 2 := ⟨by kernel_rfl, by kernel_rfl, of_decide_eq_true (by kernel_rfl), of_decide_eq_true (by kernel_rfl), of_decide_eq_true (by kernel_rfl)⟩
theorem su16 : prsR (txS ⟨(Lib.itoa 16).toArray⟩ ⟨(Lib.itoa 15).toArray⟩) = .ok (prgS 16) ∧ (chk (prgS 16)).1 = 0 ∧ (txS ⟨(Lib.itoa 16).toArray⟩ ⟨(Lib.itoa 15).toArray⟩).size ≤ 100 ∧ (Lib.itoa 16).toArray.size ≤ 2 ∧ (Lib.itoa 15).toArray.size ≤ 2 := ⟨by kernel_rfl, by kernel_rfl, of_decide_eq_true (by kernel_rfl), of_decide_eq_true (by kernel_rfl), of_decide_eq_true (by kernel_rfl)⟩
theorem su_any (n : Nat) (h1 : 1 ≤ n) (h2 : n ≤ 16) : prsR (txS ⟨(Lib.itoa (n : Int)).toArray⟩ ⟨(Lib.itoa ((n : Int) - 1)).toArray⟩) = .ok (prgS n) ∧ (chk (prgS n)).1 = 0 ∧ (txS ⟨(Lib.itoa (n : Int)).toArray⟩ ⟨(Lib.itoa ((n : Int) - 1)).toArray⟩).size ≤ 100 ∧ (Lib.itoa (n : Int)).toArray.size ≤ 2 ∧ (Lib.itoa ((n : Int) - 1)).toArray.size ≤ 2 := by
  match n, h1, h2 with
  | 1, _, _ => exact su1
  | 2, _, _ => exact su2
  | 3, _, _ => exact su3
  | 4, _, _ => exact su4
  | 5, _, _ => exact su5
  | 6, _, _ => exact su6
  | 7, _, _ => exact su7
  | 8, _, _ => exact su8
  | 9, _, _ => exact su9
  | 10, _, _ => exact su10
  | 11, _, _ => exact su11
  | 12, _, _ => exact su12
  | 13, _, _ => exact su13
  | 14, _, _ => exact su14
  | 15, _, _ => exact su15
  | 16, _, _ => exact su16
  | n + 17, _, h2 => omega
/-- The sum of the first. -/
def smk (os : List Int) : Nat → Int
  | 0 => 0
  | k + 1 => wrap64 (smk os k + os.getD k 0)
structure SQ (s : Rs) (pl r0 r1 r2 : Int) (m : Nat) : Prop where
  oc : s.oc = 0
  rs : s.rs = 0
  pl : s.pl = pl
  r0 : s.regs 0 = r0
  r1 : s.regs 1 = r1
  r2 : s.regs 2 = r2
  st : ∀ k, s.st k = if k < m then 1 else 0
theorem ap_one (a b : Int) : ap 1 a b = wrap64 (a + b) := if_pos rfl
theorem sq_get {os : List Int} {s : Rs} {i : Nat} {r1 r2 : Int} (h : SQ s 0 i r1 r2 i) (hi : i < os.length) : SQ (mstp os [] ⟨1, 1, true, 0, false, 0, false, 0, 0, 0, 0⟩ s) 1 i (os.getD i 0) r2 (i + 1) := by
  have hv : s.sv true 0 = (i : Int) := h.r0
  have hs0 : s.inc.st i = 0 := by show s.st i = 0; rw [h.st, if_neg (Nat.lt_irrefl _)]
  have e : mstp os [] ⟨1, 1, true, 0, false, 0, false, 0, 0, 0, 0⟩ s = (s.inc.rdo os [] i).setReg 1 ((s.inc.rdo os [] i).nm i) := by
    unfold mstp
    rw [if_pos (by show (1 : Int) ≤ 4; decide)]
    show (if 0 ≤ s.sv true 0 ∧ s.sv true 0 < os.length then mstpO os [] _ s (s.sv true 0).toNat else _) = _
    rw [hv, if_pos ⟨by omega, by omega⟩, Int.toNat_natCast]
    unfold mstpO
    rw [if_pos rfl]
    rfl
  have e2 : s.inc.rdo os [] i = { s.inc with st := fun k => if k = i then 1 else s.inc.st k, nm := fun k => if k = i then seenV os [] s.inc.rd i else s.inc.nm k, rd := s.inc.rd + 1 } := if_pos hs0
  rw [e, e2]
  refine ⟨h.oc, h.rs, ?_, h.r0, ?_, h.r2, fun k => ?_⟩
  · show s.pl + 1 = 1
    rw [h.pl]; rfl
  · show (if i = i then seenV os [] s.inc.rd i else _) = _
    rw [if_pos rfl]
    rfl
  · show (if k = i then 1 else s.st k) = _
    rw [h.st]
    by_cases hk : k = i
    · rw [if_pos hk, if_pos (by omega)]
    · rw [if_neg hk]
      by_cases hk2 : k < i
      · rw [if_pos hk2, if_pos (by omega)]
      · rw [if_neg hk2, if_neg (by omega)]
theorem sq_add {os : List Int} {s : Rs} {m : Nat} {r0 r1 r2 : Int} (h : SQ s 1 r0 r1 r2 m) : SQ (mstp os [] ⟨6, 2, false, 0, true, 2, true, 1, 1, 0, 0⟩ s) 2 r0 r1 (wrap64 (r2 + r1)) m := by
  have e : mstp os [] ⟨6, 2, false, 0, true, 2, true, 1, 1, 0, 0⟩ s = s.inc.setReg 2 (ap 1 (s.regs 2) (s.regs 1)) := rfl
  rw [e, ap_one, h.r2, h.r1]
  exact ⟨h.oc, h.rs, by show s.pl + 1 = 2; rw [h.pl]; rfl, h.r0, h.r1, rfl, h.st⟩
theorem sq_inc {os : List Int} {s : Rs} {m : Nat} {r0 r1 r2 : Int} (h : SQ s 2 r0 r1 r2 m) : SQ (mstp os [] ⟨6, 0, false, 0, true, 0, false, 1, 1, 0, 0⟩ s) 3 (wrap64 (r0 + 1)) r1 r2 m := by
  have e : mstp os [] ⟨6, 0, false, 0, true, 0, false, 1, 1, 0, 0⟩ s = s.inc.setReg 0 (ap 1 (s.regs 0) 1) := rfl
  rw [e, ap_one, h.r0]
  exact ⟨h.oc, h.rs, by show s.pl + 1 = 3; rw [h.pl]; rfl, rfl, h.r1, h.r2, h.st⟩
theorem sq_if {os : List Int} {s : Rs} {m : Nat} {r0 r1 r2 n : Int} (h : SQ s 3 r0 r1 r2 m) : SQ (mstp os [] ⟨7, 0, false, 0, true, 0, false, n, 0, 3, 0⟩ s) (if r0 < n then 0 else 4) r0 r1 r2 m := by
  have e : mstp os [] ⟨7, 0, false, 0, true, 0, false, n, 0, 3, 0⟩ s = if decide (s.regs 0 < n) = true then { s.inc with pl := 0 } else s.inc := rfl
  rw [e, h.r0]
  by_cases g : r0 < n
  · rw [if_pos (decide_eq_true g), if_pos g]
    exact ⟨h.oc, h.rs, rfl, h.r0, h.r1, h.r2, h.st⟩
  · rw [if_neg (by simpa using g), if_neg g]
    exact ⟨h.oc, h.rs, by show s.pl + 1 = 4; rw [h.pl]; rfl, h.r0, h.r1, h.r2, h.st⟩
theorem wrap_small {a : Int} (h1 : -9223372036854775808 ≤ a) (h2 : a ≤ 9223372036854775807) : wrap64 a = a := by unfold wrap64; omega
theorem gor_turn {os : List Int} {n : Nat} (hn : os.length = n) (hn2 : n ≤ 16) (f c i : Nat) {s : Rs} {r1 : Int} (hi : i < n) (h : SQ s 0 i r1 (smk os i) i) : ∃ s', gor (prgS n) os [] (f + 4) c s = gor (prgS n) os [] f (c + 4) s' ∧ SQ s' (if i + 1 < n then 0 else 4) ((i + 1 : Nat) : Int) (os.getD i 0) (smk os (i + 1)) (i + 1) := by
  have h1 := sq_get (os := os) h (by omega)
  have h2 := sq_add (os := os) h1
  have h3 := sq_inc (os := os) h2
  have h4 := sq_if (os := os) (n := (n : Int)) h3
  rw [wrap_small (by omega) (by omega)] at h4
  have e1 : (if (i : Int) + 1 < (n : Int) then (0 : Int) else 4) = if i + 1 < n then 0 else 4 := by
    by_cases g : i + 1 < n
    · rw [if_pos g, if_pos (by omega)]
    · rw [if_neg g, if_neg (by omega)]
  rw [e1] at h4
  refine ⟨_, ?_, h4⟩
  · rw [show f + 4 = (f + 3) + 1 by omega, gor_step _ _ h.oc, h.pl]
    rw [show atI (prgS n) (0 : Int).toNat = ⟨1, 1, true, 0, false, 0, false, 0, 0, 0, 0⟩ from rfl]
    rw [show f + 3 = (f + 2) + 1 by omega, gor_step _ _ h1.oc, h1.pl]
    rw [show atI (prgS n) (1 : Int).toNat = ⟨6, 2, false, 0, true, 2, true, 1, 1, 0, 0⟩ from rfl]
    rw [show f + 2 = (f + 1) + 1 by omega, gor_step _ _ h2.oc, h2.pl]
    rw [show atI (prgS n) (2 : Int).toNat = ⟨6, 0, false, 0, true, 0, false, 1, 1, 0, 0⟩ from rfl]
    rw [gor_step _ _ h3.oc, h3.pl]
    rfl
theorem gor_turns {os : List Int} {n : Nat} (hn : os.length = n) (hn2 : n ≤ 16) : ∀ (k i f c : Nat) (s : Rs) (r1 : Int), i + (k + 1) = n → SQ s 0 i r1 (smk os i) i → ∃ s' r1', gor (prgS n) os [] (f + 4 * (k + 1)) c s = gor (prgS n) os [] f (c + 4 * (k + 1)) s' ∧ SQ s' 4 n r1' (smk os n) n
  | 0, i, f, c, s, r1, hk, h => by
    obtain ⟨s', e, h'⟩ := gor_turn hn hn2 f c i (by omega) h
    rw [if_neg (by omega)] at h'
    obtain rfl : i + 1 = n := by omega
    exact ⟨s', _, e, h'⟩
  | k + 1, i, f, c, s, r1, hk, h => by
    obtain ⟨s1, e, h1⟩ := gor_turn hn hn2 (f + 4 * (k + 1)) c i (by omega) h
    rw [if_pos (by omega)] at h1
    obtain ⟨s', r1', e2, h2⟩ := gor_turns hn hn2 k (i + 1) f (c + 4) s1 _ (by omega) h1
    refine ⟨s', r1', ?_, h2⟩
    rw [show f + 4 * (k + 1 + 1) = f + 4 * (k + 1) + 4 by omega, e, e2, show c + 4 + 4 * (k + 1) = c + 4 * (k + 1 + 1) by omega]
theorem gor_sums {os : List Int} {n : Nat} (hn : os.length = n) (h1 : 1 ≤ n) (hn2 : n ≤ 16) : ∃ F, gor (prgS n) os [] 10000 0 rs0 = F ∧ F.1.oc = 1 ∧ F.1.rs = smk os n ∧ F.2 = 4 * n + 2 ∧ lft os F.1 os.length = os.set (n - 1) (smk os n) := by
  obtain ⟨k, rfl⟩ : ∃ k, n = k + 1 := ⟨n - 1, by omega⟩
  obtain ⟨s, r1, e, h⟩ := gor_turns hn hn2 k 0 (10000 - 4 * (k + 1)) 0 rs0 0 (by omega) ⟨rfl, rfl, rfl, rfl, rfl, rfl, fun j => rfl⟩
  rw [show 10000 - 4 * (k + 1) + 4 * (k + 1) = 10000 by omega] at e
  obtain ⟨f, hf⟩ : ∃ f, 10000 - 4 * (k + 1) = f + 1 + 1 := ⟨10000 - 4 * (k + 1) - 2, by omega⟩
  rw [hf, Nat.zero_add] at e
  refine ⟨_, rfl, ?_⟩
  rw [e, gor_step _ _ h.oc, h.pl]
  rw [show atI (prgS (k + 1 : Nat)) (4 : Int).toNat = ⟨3, 0, false, ((k + 1 : Nat) : Int) - 1, true, 2, false, 0, 0, 0, 0⟩ from rfl]
  have hst : s.inc.st k = 1 := by show s.st k = 1; rw [h.st, if_pos (by omega)]
  have e5 : mstp os [] ⟨3, 0, false, ((k + 1 : Nat) : Int) - 1, true, 2, false, 0, 0, 0, 0⟩ s = { s.inc with st := fun j => if j = k then 2 else s.st j, nm := fun j => if j = k then smk os (k + 1) else (if j = k then os.getD k 0 else s.nm j) } := by
    unfold mstp
    rw [if_pos (by show (3 : Int) ≤ 4; decide)]
    show (if 0 ≤ ((k + 1 : Nat) : Int) - 1 ∧ ((k + 1 : Nat) : Int) - 1 < os.length then mstpO os [] _ s (((k + 1 : Nat) : Int) - 1).toNat else _) = _
    rw [if_pos ⟨by omega, by omega⟩, show (((k + 1 : Nat) : Int) - 1).toNat = k by omega]
    unfold mstpO
    rw [if_neg (by show ¬ (3 : Int) = 1; decide), if_neg (by show ¬ (3 : Int) = 2; decide), if_pos (by rfl)]
    have ew : s.inc.wro os k = { s.inc with st := fun j => if j = k then 2 else s.inc.st j, nm := fun j => if j = k then os.getD k 0 else s.inc.nm j } := if_neg (by rw [hst]; decide)
    rw [ew]
    show ({ s.inc with st := fun j => if j = k then 2 else s.inc.st j, nm := fun j => if j = k then s.regs 2 else (if j = k then os.getD k 0 else s.inc.nm j) } : Rs) = _
    rw [h.r2]
    rfl
  obtain ⟨s5, hs5⟩ : ∃ s5, mstp os [] ⟨3, 0, false, ((k + 1 : Nat) : Int) - 1, true, 2, false, 0, 0, 0, 0⟩ s = s5 := ⟨_, rfl⟩
  rw [hs5] at e5
  have h5oc : s5.oc = 0 := by rw [e5]; exact h.oc
  have h5pl : s5.pl = 5 := by rw [e5]; show s.pl + 1 = 5; rw [h.pl]; rfl
  have h5r2 : s5.regs 2 = smk os (k + 1) := by rw [e5]; exact h.r2
  have h5st : ∀ j, s5.st j = if j = k then 2 else s.st j := fun j => by rw [e5]
  have h5nm : s5.nm k = smk os (k + 1) := by rw [e5]; exact if_pos rfl
  clear e5
  rw [hs5, gor_step _ _ h5oc, h5pl, show atI (prgS (k + 1 : Nat)) (5 : Int).toNat = ⟨10, 0, false, 0, true, 2, false, 0, 0, 0, 0⟩ from rfl]
  rw [gor_end _ _ (by show ¬ (1 : Int) = 0; decide)]
  refine ⟨rfl, h5r2, by omega, ?_⟩
  unfold lft
  apply List.ext_getElem (by simp)
  intro j j1 j2
  simp only [List.length_map, List.length_range] at j1
  rw [List.getElem_map, List.getElem_range, List.getElem_set]
  show (if j < os.length ∧ (1 : Int) = 1 ∧ s5.st j = 2 then s5.nm j else os.getD j 0) = _
  rw [h5st]
  by_cases g : j = k
  · rw [if_pos g, if_pos ⟨j1, rfl, rfl⟩, if_pos (by omega), g, h5nm]
  · rw [if_neg g, if_neg (by rw [h.st]; intro hh; have := hh.2.2; split at this <;> omega), if_neg (by omega), List.getD_eq_getElem?_getD, List.getElem?_eq_getElem j1]
    rfl
end Go.Proofs.YtclednbclgkdaaaGreatDoor
namespace Go.Proofs.YtclednbclgkdaaaGreatDoor
open Go.RowKit Go.Deep Go.ChangeShapes Go.WideShapes Go.ChangeAt
attribute [local go_sem] Oper.semAt_some run_store_nf run_store_f
set_option maxRecDepth 100000 in
theorem small0 (w : World) : Calls Tryz.prog 30 #[.int .i64 0] w fun e w' => e = .returned (.string ⟨(Lib.itoa 0).toArray⟩) ∧ w' = w := by
  go_enter Tryz.func30, Tryz.ntmps30
  go_wp2_with fail
  go_ret
  exact ⟨by kernel_rfl, rfl⟩
set_option maxRecDepth 100000 in
theorem small1 (w : World) : Calls Tryz.prog 30 #[.int .i64 1] w fun e w' => e = .returned (.string ⟨(Lib.itoa 1).toArray⟩) ∧ w' = w := by
  go_enter Tryz.func30, Tryz.ntmps30
  go_wp2_with fail
  go_ret
  exact ⟨by kernel_rfl, rfl⟩
set_option maxRecDepth 100000 in
theorem small2 (w : World) : Calls Tryz.prog 30 #[.int .i64 2] w fun e w' => e = .returned (.string ⟨(Lib.itoa 2).toArray⟩) ∧ w' = w := by
  go_enter Tryz.func30, Tryz.ntmps30
  go_wp2_with fail
  go_ret
  exact ⟨by kernel_rfl, rfl⟩
set_option maxRecDepth 100000 in
theorem small3 (w : World) : Calls Tryz.prog 30 #[.int .i64 3] w fun e w' => e = .returned (.string ⟨(Lib.itoa 3).toArray⟩) ∧ w' = w := by
  go_enter Tryz.func30, Tryz.ntmps30
  go_wp2_with fail
  go_ret
  exact ⟨by kernel_rfl, rfl⟩
set_option maxRecDepth 100000 in
theorem small4 (w : World) : Calls Tryz.prog 30 #[.int .i64 4] w fun e w' => e = .returned (.string ⟨(Lib.itoa 4).toArray⟩) ∧ w' = w := by
  go_enter Tryz.func30, Tryz.ntmps30
  go_wp2_with fail
  go_ret
  exact ⟨by kernel_rfl, rfl⟩
set_option maxRecDepth 100000 in
theorem small5 (w : World) : Calls Tryz.prog 30 #[.int .i64 5] w fun e w' => e = .returned (.string ⟨(Lib.itoa 5).toArray⟩) ∧ w' = w := by
  go_enter Tryz.func30, Tryz.ntmps30
  go_wp2_with fail
  go_ret
  exact ⟨by kernel_rfl, rfl⟩
set_option maxRecDepth 100000 in
theorem small6 (w : World) : Calls Tryz.prog 30 #[.int .i64 6] w fun e w' => e = .returned (.string ⟨(Lib.itoa 6).toArray⟩) ∧ w' = w := by
  go_enter Tryz.func30, Tryz.ntmps30
  go_wp2_with fail
  go_ret
  exact ⟨by kernel_rfl, rfl⟩
set_option maxRecDepth 100000 in
theorem small7 (w : World) : Calls Tryz.prog 30 #[.int .i64 7] w fun e w' => e = .returned (.string ⟨(Lib.itoa 7).toArray⟩) ∧ w' = w := by
  go_enter Tryz.func30, Tryz.ntmps30
  go_wp2_with fail
  go_ret
  exact ⟨by kernel_rfl, rfl⟩
set_option maxRecDepth 100000 in
theorem small8 (w : World) : Calls Tryz.prog 30 #[.int .i64 8] w fun e w' => e = .returned (.string ⟨(Lib.itoa 8).toArray⟩) ∧ w' = w := by
  go_enter Tryz.func30, Tryz.ntmps30
  go_wp2_with fail
  go_ret
  exact ⟨by kernel_rfl, rfl⟩
set_option maxRecDepth 100000 in
theorem small9 (w : World) : Calls Tryz.prog 30 #[.int .i64 9] w fun e w' => e = .returned (.string ⟨(Lib.itoa 9).toArray⟩) ∧ w' = w := by
  go_enter Tryz.func30, Tryz.ntmps30
  go_wp2_with fail
  go_ret
  exact ⟨by kernel_rfl, rfl⟩
set_option maxRecDepth 100000 in
theorem small10 (w : World) : Calls Tryz.prog 30 #[.int .i64 10] w fun e w' => e = .returned (.string ⟨(Lib.itoa 10).toArray⟩) ∧ w' = w := by
  go_enter Tryz.func30, Tryz.ntmps30
  go_wp2_with fail
  go_ret
  exact ⟨by kernel_rfl, rfl⟩
set_option maxRecDepth 100000 in
theorem small11 (w : World) : Calls Tryz.prog 30 #[.int .i64 11] w fun e w' => e = .returned (.string ⟨(Lib.itoa 11).toArray⟩) ∧ w' = w := by
  go_enter Tryz.func30, Tryz.ntmps30
  go_wp2_with fail
  go_ret
  exact ⟨by kernel_rfl, rfl⟩
set_option maxRecDepth 100000 in
theorem small12 (w : World) : Calls Tryz.prog 30 #[.int .i64 12] w fun e w' => e = .returned (.string ⟨(Lib.itoa 12).toArray⟩) ∧ w' = w := by
  go_enter Tryz.func30, Tryz.ntmps30
  go_wp2_with fail
  go_ret
  exact ⟨by kernel_rfl, rfl⟩
set_option maxRecDepth 100000 in
theorem small13 (w : World) : Calls Tryz.prog 30 #[.int .i64 13] w fun e w' => e = .returned (.string ⟨(Lib.itoa 13).toArray⟩) ∧ w' = w := by
  go_enter Tryz.func30, Tryz.ntmps30
  go_wp2_with fail
  go_ret
  exact ⟨by kernel_rfl, rfl⟩
set_option maxRecDepth 100000 in
theorem small14 (w : World) : Calls Tryz.prog 30 #[.int .i64 14] w fun e w' => e = .returned (.string ⟨(Lib.itoa 14).toArray⟩) ∧ w' = w := by
  go_enter Tryz.func30, Tryz.ntmps30
  go_wp2_with fail
  go_ret
  exact ⟨by kernel_rfl, rfl⟩
set_option maxRecDepth 100000 in
theorem small15 (w : World) : Calls Tryz.prog 30 #[.int .i64 15] w fun e w' => e = .returned (.string ⟨(Lib.itoa 15).toArray⟩) ∧ w' = w := by
  go_enter Tryz.func30, Tryz.ntmps30
  go_wp2_with fail
  go_ret
  exact ⟨by kernel_rfl, rfl⟩
set_option maxRecDepth 100000 in
theorem small16 (w : World) : Calls Tryz.prog 30 #[.int .i64 16] w fun e w' => e = .returned (.string ⟨(Lib.itoa 16).toArray⟩) ∧ w' = w := by
  go_enter Tryz.func30, Tryz.ntmps30
  go_wp2_with fail
  go_ret
  exact ⟨by kernel_rfl, rfl⟩
theorem small_any (w : World) (n : Nat) (h : n ≤ 16) : Calls Tryz.prog 30 #[.int .i64 (n : Int)] w fun e w' => e = .returned (.string ⟨(Lib.itoa (n : Int)).toArray⟩) ∧ w' = w := by
  match n, h with
  | 0, _ => exact small0 w
  | 1, _ => exact small1 w
  | 2, _ => exact small2 w
  | 3, _ => exact small3 w
  | 4, _ => exact small4 w
  | 5, _ => exact small5 w
  | 6, _ => exact small6 w
  | 7, _ => exact small7 w
  | 8, _ => exact small8 w
  | 9, _ => exact small9 w
  | 10, _ => exact small10 w
  | 11, _ => exact small11 w
  | 12, _ => exact small12 w
  | 13, _ => exact small13 w
  | 14, _ => exact small14 w
  | 15, _ => exact small15 w
  | 16, _ => exact small16 w
  | n + 17, h => omega
theorem format_small (w : World) (z : Int) (h0 : 0 ≤ z) (h : z ≤ 16) : Calls Tryz.prog 5 #[.int .i64 z] w fun e w' => e = .returned (.string ⟨(Lib.itoa z).toArray⟩) ∧ w' = w := by
  obtain ⟨n, rfl⟩ : ∃ n : Nat, z = (n : Int) := ⟨z.toNat, by omega⟩
  have hS := small_any w n (by omega)
  have b1 : decide ((0 : Int) ≤ (n : Int)) = true := decide_eq_true (by omega)
  have b2 : decide ((n : Int) < 100) = true := decide_eq_true (by omega)
  have b3 : decide (n < 100) = true := decide_eq_true (by omega)
  have hI : Calls Tryz.prog 19 #[.int .i64 (n : Int), .int .i64 10] w fun e w' => e = .returned (.string ⟨(Lib.itoa (n : Int)).toArray⟩) ∧ w' = w := by
    go_enter Tryz.func19, Tryz.ntmps19
    go_wp2_with fail
    refine hS.mono ?_
    rintro e w1 ⟨rfl, rfl⟩
    go_wp2_with fail
    go_ret
    exact ⟨rfl, rfl⟩
  have hJ : Calls Tryz.prog 10 #[.int .i64 (n : Int), .int .i64 10] w fun e w' => e = .returned (.string ⟨(Lib.itoa (n : Int)).toArray⟩) ∧ w' = w := by
    clear hS b1 b2 b3
    go_enter Tryz.func10, Tryz.ntmps10
    go_wp2_with fail
    refine hI.mono ?_
    rintro e w1 ⟨rfl, rfl⟩
    go_wp2_with fail
    go_ret
    exact ⟨rfl, rfl⟩
  clear hS hI b1 b2 b3
  go_enter Tryz.func5, Tryz.ntmps5
  go_wp2_with fail
  refine hJ.mono ?_
  rintro e w1 ⟨rfl, rfl⟩
  go_wp2_with fail
  go_ret
  exact ⟨rfl, rfl⟩
end Go.Proofs.YtclednbclgkdaaaGreatDoor
namespace Go.Proofs.YtclednbclgkdaaaGreatDoor
open Go.RowKit Go.Deep Go.ChangeShapes Go.WideShapes Go.ChangeAt
attribute [local go_sem] Oper.semAt_some run_store_nf run_store_f
def sumsTail (f : Func) : Code := match f.body with | some (.seq _ (.seq _ (.seq _ t))) => t | _ => .skip
set_option maxHeartbeats 2000000 in
set_option maxRecDepth 1000000 in
theorem sums_tail {w1 : World} {R : Ending → World → Prop} {ao : Option Addr} {co N : Nat} {os : List Int} {x1 x2 x3 x4 x5 x6 x7 x8 x9 x10 x11 x12 x13 x14 x15 x16 x17 x18 x19 x20 x21 x22 x23 x24 x25 x26 x27 x28 x29 x30 x31 x32 x33 x34 x35 x36 x37 x38 x39 x40 x41 x42 x43 x44 x45 x46 x47 x48 x49 x50 x51 x52 x53 x54 x55 x56 x57 x58 x59 x60 x61 x62 x63 x64 x65 x66 x67 x68 x69 x70 x71 x72 x73 x74 x75 x76 x77 x78 : Value} (hT : PT w1) (hNT : NT w1) (hO1 : NUM w1 ao os) (hol : os.length = N) (hN : N ≤ 16) (hz : ao = none → co = 0)
    (hR : ∀ w', Keeps (fun _ => False) w1 w' → R (.returned (.bool true)) w') :
    (sumsTail Tryz.f3).wp Tryz.prog (bodyPost Tryz.prog Tryz.f3 R) { tmps := #[.slice ao N co, x1, x2, x3, x4, x5, x6, x7, x8, x9, x10, x11, x12, x13, x14, x15, x16, x17, x18, x19, x20, x21, x22, x23, x24, x25, x26, x27, x28, x29, x30, x31, x32, x33, x34, x35, x36, x37, x38, x39, x40, x41, x42, x43, x44, x45, x46, x47, x48, x49, x50, x51, x52, x53, x54, x55, x56, x57, x58, x59, x60, x61, x62, x63, x64, x65, x66, x67, x68, x69, x70, x71, x72, x73, x74, x75, x76, x77, x78], defers := [] } w1 := by
  have HR : Hid (∀ w', Keeps (fun _ => False) w1 w' → R (.returned (.bool true)) w') := hR
  clear hR
  dsimp only [sumsTail, Tryz.f3]
  refine wp_seq_k (fun KK hKK => ?_)
  have hKH : Hid _ := hKK
  clear hKK
  go_wp2_with fail
  refine hKH.out _ _ ?_
  clear hKH KK
  by_cases h0 : N = 0
  · have c0 : ((N : Int) == 0) = true := beq_iff_eq.2 (by omega)
    have c1 : (N == 0) = true := beq_iff_eq.2 h0
    go_wp2_with fail
    exact HR.out _ (Keeps.refl _ _)
  have c0 : ((N : Int) == 0) = false := beq_eq_false_iff_ne.2 (by omega)
  have c1 : (N == 0) = false := beq_eq_false_iff_ne.2 h0
  refine wp_seq_k (fun KK hKK => ?_)
  have hKH : Hid _ := hKK
  clear hKK
  go_wp2_with fail
  refine hKH.out _ _ ?_
  clear hKH KK
  refine wp_seq_k (fun KK hKK => ?_)
  have hKH : Hid _ := hKK
  clear hKK
  go_wp2_with fail
  refine hKH.out _ _ ?_
  clear hKH KK
  refine wp_seq_k (fun KK hKK => ?_)
  have hKH : Hid _ := hKK
  clear hKK
  go_wp2_with fail
  go_loopw [4, 5] (fun sv iv Wr => ∃ k : Nat, sv = .int .i64 (smk os k) ∧ iv = .int .i64 (k : Int) ∧ k ≤ N ∧ Wr = w1) (fun _ iv _ => N - (intOf iv).toNat)
  case atStart => exact ⟨0, rfl, rfl, Nat.zero_le _, rfl⟩
  case round =>
    obtain ⟨k, rfl, rfl, hk, ew⟩ := hrel
    subst wr
    by_cases hlt : k < N
    · have hltI : decide ((k : Int) < (N : Int)) = true := decide_eq_true (by omega)
      have hltJ : (k : Int) < (N : Int) := by omega
      have hk0 : (0 : Int) ≤ (k : Int) := by omega
      have hwk : IntKind.i64.wrap ((k : Int) + 1) = (k : Int) + 1 := by rw [IntKind.wrap_i64]; omega
      obtain ⟨x, hx⟩ : ∃ x, os[k]? = some x := ⟨_, List.getElem?_eq_getElem (by omega)⟩
      have hgx : os.getD k 0 = x := by rw [List.getD_eq_getElem?_getD, hx]; rfl
      obtain ⟨b, off, rfl, hc⟩ := hO1 k x hx
      have hsm : IntKind.i64.wrap (smk os k + x) = smk os (k + 1) := by
        show _ = wrap64 (smk os k + os.getD k 0)
        rw [hgx, IntKind.wrap_i64]; unfold wrap64; omega
      clear hO1 hx hgx hT hNT hz
      go_wp2_with fail
      go_roundw
      case rel => exact ⟨k + 1, by first | rfl | (rw [hsm]) | trivial, by go_num, by omega, trivial⟩
      case measure => simp [intOf]; omega
    · have hltI : decide ((k : Int) < (N : Int)) = false := decide_eq_false (by omega)
      obtain rfl : k = N := by omega
      go_wp2_with fail
      refine hKH.out _ _ ?_
      clear hltI hlt hk hKH
      obtain ⟨SM, hSM⟩ : ∃ SM, smk os k = SM := ⟨_, rfl⟩
      rw [hSM]
      obtain ⟨hpr, hch, htz, hs1, hs2⟩ := su_any k (by omega) hN
      obtain ⟨fa, hfa⟩ : ∃ fa : ByteArray, ⟨(Lib.itoa (k : Int)).toArray⟩ = fa := ⟨_, rfl⟩
      obtain ⟨fb, hfb⟩ : ∃ fb : ByteArray, ⟨(Lib.itoa ((k : Int) - 1)).toArray⟩ = fb := ⟨_, rfl⟩
      have hF1 := format_small w1 (k : Int) (by omega) (by omega)
      have hF2 := format_small w1 ((k : Int) - 1) (by omega) (by omega)
      have z1 : fa.size ≤ 2 := by rw [← hfa]; exact hs1
      have z2 : fb.size ≤ 2 := by rw [← hfb]; exact hs2
      rw [hfa] at hF1
      rw [hfb] at hF2
      rw [hfa, hfb] at hpr htz
      clear hfa hfb hs1 hs2
      have hwn : IntKind.i64.wrap ((k : Int) - 1) = (k : Int) - 1 := by rw [IntKind.wrap_i64]; omega
      have y1 : ¬ (9223372036854775807 < 47 + fa.size) := by omega
      have y2 : ¬ (9223372036854775807 < 47 + fa.size + 8) := by omega
      have y3 : ¬ (9223372036854775807 < 47 + fa.size + 8 + fb.size) := by omega
      have y4 : ¬ (9223372036854775807 < 47 + fa.size + 8 + fb.size + 11) := by omega
      have HPR : Hid (prsR (txS fa fb) = .ok (prgS k)) := hpr
      have HTZ : Hid ((txS fa fb).size ≤ 100) := htz
      have HSM : Hid (smk os k = SM) := hSM
      clear hpr htz hSM
      refine wp_seq_k (fun KK hKK => ?_)
      have hKH : Hid _ := hKK
      clear hKK
      go_wp2_with fail
      refine hF1.mono ?_
      clear hF1
      rintro e wf ⟨rfl, ef⟩
      subst wf
      go_wp2_with fail
      refine hF2.mono ?_
      clear hF2
      rintro e wf ⟨rfl, ef⟩
      subst wf
      go_wp2_with fail
      refine hKH.out _ _ ?_
      clear hKH KK
      obtain ⟨tx, htx⟩ : ∃ tx, tx = txS fa fb := ⟨_, rfl⟩
      have htx2 : (⟨#[97, 58, 32, 103, 101, 116, 32, 114, 49, 32, 64, 114, 48, 10, 97, 100, 100, 32, 114, 50, 32, 114, 50, 32, 114, 49, 10, 97, 100, 100, 32, 114, 48, 32, 114, 48, 32, 49, 10, 105, 102, 32, 114, 48, 32, 60, 32]⟩ : ByteArray) ++ fa ++ (⟨#[32, 97, 10, 112, 117, 116, 32, 64]⟩ : ByteArray) ++ fb ++ (⟨#[32, 114, 50, 10, 100, 111, 110, 101, 32, 114, 50]⟩ : ByteArray) = tx := htx.symm
      rw [htx2]
      rw [← htx] at HPR HTZ
      clear htx htx2 y1 y2 y3 y4 z1 z2
      have hPs := parse_all (w := w1) tx (by have := HTZ.out; omega) hT hNT
      rw [show prL (prsR tx) = prgS k by rw [HPR.out]; rfl, show prF (prsR tx) = (0, 0, 0) by rw [HPR.out]; rfl] at hPs
      simp only at hPs
      have hLT := hT.lt
      clear hT hNT HPR HTZ
      obtain ⟨l, hl⟩ : ∃ l, prgS k = l := ⟨_, rfl⟩
      have hl6 : l.length = 6 := by rw [← hl]; rfl
      rw [hl] at hPs hch
      rw [hl6] at hPs
      refine wp_seq_k (fun KK hKK => ?_)
      have hKH : Hid _ := hKK
      clear hKK
      go_wp2_with fail
      refine hPs.mono ?_
      clear hPs
      rintro e w2 ⟨v2, rfl, ho2, k2, _⟩
      obtain ⟨ap', cp, rfl⟩ := slice_of_owns ho2
      obtain ⟨W3, hW3⟩ : ∃ W3, W3 = w2.alloc (.cells #[.int .i64 0, .int .i64 0, .int .i64 0] 28) := ⟨_, rfl⟩
      have k3 : Keeps (fun _ => False) w2 W3 := by rw [hW3]; exact (Keeps.refl _ w2).alloc _
      have g3 : CL W3 w2.heap.size [.int .i64 0, .int .i64 0, .int .i64 0] := by rw [hW3]; exact CL.made w2 _ _
      have HW3 : Hid (_ = _) := hW3
      clear hW3
      go_wp2_with fail
      refine hKH.out _ _ ?_
      clear hKH KK
      rw [← HW3.out]
      clear HW3
      have ho3 := k3.owns ho2 (fun _ _ e => e)
      obtain ⟨ap2, cp2, ep', hI3⟩ := isl_of_owns ho3 hl6
      injection ep' with ep1 _ ep3
      subst ep1 ep3
      have K3 := k2.trans k3
      clear k2 k3 ho2 ho3
      have y0 := g3.c 0 _ rfl
      clear g3
      refine wp_seq_k (fun KK hKK => ?_)
      have hKH : Hid _ := hKK
      clear hKK
      go_wp2_with (go_at_call 7; refine (num11 _ _).mono ?_; rintro e wn ⟨rfl, en⟩; subst wn)
      refine hKH.out _ _ ?_
      clear hKH KK
      clear y0
      obtain ⟨⟨⟨rg, st, nm, rd, pl, oc, rs⟩, d⟩, hG, g1, g2, g3, g4⟩ := gor_sums hol (by omega) hN
      simp only at g1 g2 g3
      subst g1 g3
      rw [HSM.out] at g2
      subst g2
      rw [hl] at hG
      obtain ⟨L, hL⟩ : ∃ L, os.set (k - 1) rs = L := ⟨_, rfl⟩
      rw [HSM.out, hL] at g4
      have hRF := run_fine (cap := cp) (co := co) (cg := 0) (ag := none) (gs := []) (hLT.keep K3) hI3 (hO1.keep K3) (fun i x hx => by simp at hx) hch (by omega) (by simp) 10000 (by omega) hG g4
      rw [show ((10000 : Nat) : Int) = 10000 from rfl, hl6, hol] at hRF
      simp only at hRF
      have hRF : Calls Tryz.prog 8 #[.slice ap' 6 cp, .slice ao k co, .slice none 0 0, .int .i64 10000] W3 _ := hRF
      clear hG g4 hLT hI3 hch hl6 hl
      have hcw : ((4 * k + 2 : Nat) : Int) = 4 * (k : Int) + 2 := by omega
      rw [hcw] at hRF
      clear hcw
      refine wp_seq_k (fun KK hKK => ?_)
      have hKH : Hid _ := hKK
      clear hKK
      go_wp2_with fail
      refine hRF.mono ?_
      clear hRF
      rintro e w4 ⟨b4, rfl, C4, k4⟩
      obtain ⟨W5, hW5⟩ : ∃ W5, W5 = w4.alloc (.cells #[.int .i64 1, .int .i64 rs, .slice (some ⟨b4, 0, none⟩) k k, .int .i64 (4 * (k : Int) + 2)] 33) := ⟨_, rfl⟩
      have k5 : Keeps (fun _ => False) w4 W5 := by rw [hW5]; exact (Keeps.refl _ w4).alloc _
      have g5 : CL W5 w4.heap.size [.int .i64 1, .int .i64 rs, .slice (some ⟨b4, 0, none⟩) k k, .int .i64 (4 * (k : Int) + 2)] := by rw [hW5]; exact CL.made w4 _ _
      have HW5 : Hid (_ = _) := hW5
      clear hW5
      go_wp2_with fail
      refine hKH.out _ _ ?_
      clear hKH KK
      rw [← HW5.out]
      clear HW5
      have N5 := (NUM.ofCL C4).keep k5
      have K5 := (K3.trans k4).trans k5
      clear C4 k4 k5 K3
      obtain ⟨wv, w6, hcp, ho6, k6⟩ := copy_n co (hO1.keep K5) hz (by omega)
      rw [hol] at hcp ho6
      obtain ⟨aw, cw, g, rfl, hg, CW, hgs⟩ := cl_of_owns ho6 hol
      obtain ⟨rfl, hgl⟩ := hgs (by omega)
      clear ho6 hgs
      refine wp_seq_k (fun KK hKK => ?_)
      have hKH : Hid _ := hKK
      clear hKK
      go_wp2_with (at_builtin; refine wpList_append_run rfl _ _ _ rfl _ _ _ w6 rfl rfl hcp ?_; clear hcp)
      refine hKH.out _ _ ?_
      clear hKH KK
      obtain ⟨k', hk'⟩ : ∃ k', k = k' + 1 := ⟨k - 1, by omega⟩
      have hk1 : (k : Int) - 1 = (k' : Int) := by omega
      have hk2 : IntKind.i64.wrap ((k : Int) - 1) = (k' : Int) := by rw [hwn, hk1]
      have lw : k' < (nvs os).length := by unfold nvs; rw [List.length_map]; omega
      have yz := CW.z k' lw
      have yc := CW.c k' _ (List.getElem?_eq_getElem lw)
      generalize (nvs os)[k'] = old at *
      have CS := CW.set lw (.int .i64 rs)
      have es : (nvs os).set k' (.int .i64 rs) = nvs L := by rw [← hL, show k - 1 = k' by omega]; unfold nvs; rw [List.map_set]
      rw [es] at CS
      have kS : Keeps (fun i => i = g) w6 (w6.setCell ⟨g, k', none⟩ (.int .i64 rs)) := (Keeps.refl _ w6).setA k' _
      have q1 : (0 : Int) ≤ (k' : Int) := by omega
      have q2 : (k' : Int) < (k : Int) := by omega
      have q3 : k' < k := by omega
      clear hwn hk'
      refine wp_seq_k (fun KK hKK => ?_)
      have hKH : Hid _ := hKK
      clear hKK
      go_wp2_with fail
      refine hKH.out _ _ ?_
      clear hKH KK
      have k6s := k6.size
      have kT := k6.trans' kS (fun _ _ e => e) (fun i hi e => by have e : i = g := e; omega)
      have N6 := N5.keep kT
      have g6 := g5.keep (by show 0 < 4; decide) kT (fun e => e)
      have K6 := K5.trans kT
      have s0 := g6.c 0 _ rfl
      have s1 := g6.c 1 _ rfl
      have s2 := g6.c 2 _ rfl
      have s3 := g6.c 3 _ rfl
      have hLl : L.length = k := by rw [← hL, List.length_set]; exact hol
      have hsm := same_ok k cw 1 rs (4 * (k : Int) + 2) N6 (NUM.ofCL CS) (by omega)
      rw [hLl] at hsm
      have w1' : IntKind.i64.wrap (4 * (k : Int)) = 4 * (k : Int) := by rw [IntKind.wrap_i64]; omega
      have w2' : IntKind.i64.wrap (4 * (k : Int) + 2) = 4 * (k : Int) + 2 := by rw [IntKind.wrap_i64]; omega
      clear N5 N6 CS CW g5 kT kS k6 K5 yz yc q1 q2 q3 hk1 hk2
      go_wp2_with (first | (go_at_call 7; refine (num11 _ _).mono ?_; rintro e wn ⟨rfl, en⟩; subst wn) | (go_at_call 9; refine hsm.mono ?_; clear hsm; rintro e w7 ⟨rfl, k7⟩))
      exact HR.out _ (K6.trans k7)
end Go.Proofs.YtclednbclgkdaaaGreatDoor
namespace Go.Proofs.YtclednbclgkdaaaGreatDoor
open Go.RowKit Go.Deep Go.ChangeShapes Go.WideShapes Go.ChangeAt
attribute [local go_sem] Oper.semAt_some run_store_nf run_store_f
theorem NUM.take {w : World} {a : Option Addr} {os : List Int} (h : NUM w a os) (n : Nat) : NUM w a (os.take n) := fun i x hx => by
  rw [List.getElem?_take] at hx
  split at hx
  · exact h i x hx
  · cases hx
set_option maxHeartbeats 2000000 in
set_option maxRecDepth 1000000 in
theorem sums_any {w : World} {ao : Option Addr} {co : Nat} {os : List Int} (hT : PT w) (hNT : NT w) (hO : NUM w ao os) (hco : os.length ≤ co) (hz : ao = none → co = 0) : Calls Tryz.prog 3 #[.slice ao os.length co] w fun e w' => e = .returned (.bool true) ∧ Below w.heap.size w w' := by
  have hH := head11 hT hNT
  obtain ⟨N, hol⟩ : ∃ N, os.length = N := ⟨_, rfl⟩
  rw [hol] at hco ⊢
  by_cases hN : N ≤ 16
  · have b3 : decide ((16 : Int) < (N : Int)) = false := decide_eq_false (by omega)
    have b4 : decide (16 < N) = false := decide_eq_false (by omega)
    go_enter Tryz.func3, Tryz.ntmps3
    refine wp_seq_k (fun KK hKK => ?_)
    have hKH : Hid _ := hKK
    clear hKK
    go_wp2_with fail
    refine hKH.out _ _ ?_
    clear hKH KK
    refine wp_seq_k (fun KK hKK => ?_)
    have hKH : Hid _ := hKK
    clear hKK
    go_wp2_with (go_at_call 4; refine hH.mono ?_; clear hH; rintro e w1 ⟨rfl, k1⟩)
    refine hKH.out _ _ ?_
    clear hKH KK
    refine wp_seq_k (fun KK hKK => ?_)
    have hKH : Hid _ := hKK
    clear hKK
    go_wp2_with fail
    refine hKH.out _ _ ?_
    clear hKH KK
    exact sums_tail (hT.keep k1) (hNT.keep k1) (hO.keep k1) hol (by omega) (fun e => by exact hz e) (fun w' kw => ⟨rfl, (k1.trans kw).below (Nat.le_refl _) (fun _ _ e => e)⟩)
  · have b3 : decide ((16 : Int) < (N : Int)) = true := decide_eq_true (by omega)
    have b4 : decide (16 < N) = true := decide_eq_true (by omega)
    have b5 : 16 ≤ co := by omega
    obtain ⟨x0, hx0⟩ : ∃ x, os[0]? = some x := ⟨_, List.getElem?_eq_getElem (by omega)⟩
    obtain ⟨bo, oo, rfl, _⟩ := hO 0 _ hx0
    go_enter Tryz.func3, Tryz.ntmps3
    refine wp_seq_k (fun KK hKK => ?_)
    have hKH : Hid _ := hKK
    clear hKK
    go_wp2_with fail
    refine hKH.out _ _ ?_
    clear hKH KK
    refine wp_seq_k (fun KK hKK => ?_)
    have hKH : Hid _ := hKK
    clear hKK
    go_wp2_with (go_at_call 4; refine hH.mono ?_; clear hH; rintro e w1 ⟨rfl, k1⟩)
    refine hKH.out _ _ ?_
    clear hKH KK
    refine wp_seq_k (fun KK hKK => ?_)
    have hKH : Hid _ := hKK
    clear hKK
    go_wp2_with fail
    refine hKH.out _ _ ?_
    clear hKH KK
    exact sums_tail (hT.keep k1) (hNT.keep k1) ((NUM.take hO 16).keep k1) (by rw [List.length_take]; omega) (by omega) (fun e => by cases e) (fun w' kw => ⟨rfl, (k1.trans kw).below (Nat.le_refl _) (fun _ _ e => e)⟩)
end Go.Proofs.YtclednbclgkdaaaGreatDoor
