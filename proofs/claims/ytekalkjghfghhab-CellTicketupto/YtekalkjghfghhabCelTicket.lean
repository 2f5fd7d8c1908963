import Derived.Test.YtekalkjghfghhabCelN
namespace Go.Proofs.Ytekalkjghfghhab
open Go.RowKit

/-- The two cells of the tickets. -/
structure TK (s : Mm) (first sm : Int) (i n : Nat) : Prop where
  cells : s.cells = [(first, sm), (0, (i : Int))]
  log : s.log.length = n
  stp : s.begun = true → s.step < (n : Int)
theorem TK.may {s : Mm} {first sm : Int} {i n : Nat} (h : TK s first sm i n) {st th : Int} (hst : st = (n : Int)) (hth : 0 ≤ th) : s.may st th = true := by
  have := h.stp
  subst hst
  simp only [Mm.may]
  cases hb : s.begun with
  | false => simp [hth]
  | true => have := this hb; simp [hth]; omega
theorem TK.add0 {s : Mm} {first sm : Int} {i n : Nat} (h : TK s first sm i n) {st : Int} (hst : st = (n : Int)) (th u : Int) : TK ((s.begin st th).take 3 0 (wrap64 (sm + u)) true) first (wrap64 (sm + u)) i (n + 1) := by
  refine ⟨?_, ?_, ?_⟩
  · simp [Mm.take, Mm.begin, h.cells, ca]
  · simp [Mm.take, Mm.begin, h.log]
  · intro _; simp [Mm.take, Mm.begin]; omega
theorem TK.add1 {s : Mm} {first sm : Int} {i n : Nat} (h : TK s first sm i n) {st : Int} (hst : st = (n : Int)) (th : Int) : TK ((s.begin st th).take 3 1 ((i : Int) + 1) true) first sm (i + 1) (n + 1) := by
  refine ⟨?_, ?_, ?_⟩
  · simp [Mm.take, Mm.begin, h.cells, ca]
  · simp [Mm.take, Mm.begin, h.log]
  · intro _; simp [Mm.take, Mm.begin]; omega

set_option maxHeartbeats 6400000 in
set_option maxRecDepth 1000000 in
theorem cellTicket_walk (first : Int) (_ : I64 first) {w : World} {a : Option Addr} {n : Nat} {z : Nat → Int} (hz : NL w a n z) (_ : ∀ i, i < n → I64 (z i)) (hn : n ≤ 1048576) (cap : Nat) :
    Calls Try.prog 6 #[.int .i64 first, .slice a n cap] w fun e w' => e = .returned (.bool true) ∧ Below w.heap.size w w' := by
  have hp := peq w.heap.size
  have HZ : Hid (NL w a n z) := hz
  clear hz
  go_enter Try.func6, Try.ntmps6
  go_wp2_with fail
  refine (new_any w).mono ?_
  rintro e w1 ⟨rfl, m1, k1⟩
  have M1 := MN.made (Keeps.refl _ w) m1 k1
  clear m1 k1
  go_wp2_with fail
  refine (nmake M1 first (by simp [Mm.new])).mono ?_
  rintro e w2 ⟨rfl, M2⟩
  clear M1
  go_wp2_with fail
  refine (nmake M2 0 (by simp [Mm.new, Mm.make])).mono ?_
  rintro e w3 ⟨rfl, M3⟩
  clear M2
  have L0 : Mm.new.cells.length = 0 := rfl
  have L1 : (Mm.new.make first).cells.length = 1 := rfl
  rw [L0, L1]
  clear L0 L1
  have T3 : TK ((Mm.new.make first).make 0) first first 0 0 := ⟨rfl, rfl, fun e => by cases e⟩
  generalize (Mm.new.make first).make 0 = s3 at M3 T3
  go_wp2_with (go_at_call 11; refine (num_any _ _).mono ?_; rintro e w4 ⟨rfl, rfl⟩)
  go_loopw [51, 10] (fun iv sv wr => ∃ (i : Nat) (sm : Int) (s : Mm), i ≤ n ∧ iv = .int .i64 i ∧ sv = .int .i64 sm ∧ MN w wr w.heap.size s ∧ TK s first sm i (2 * i)) (fun iv _ _ => n - (intOf iv).toNat)
  case atStart => exact ⟨0, first, s3, Nat.zero_le _, rfl, rfl, M3, T3⟩
  case round =>
    obtain ⟨i, sm, s, hi, rfl, rfl, M, T⟩ := hrel
    by_cases hlt : i < n
    · obtain ⟨b, off, rfl, hb, hc⟩ := HZ.out.some (by omega)
      have hiI : (i : Int) < (n : Int) := by omega
      have cz := M.keeps.cell (hc i hlt) (fun e => e)
      obtain ⟨x, hx⟩ : ∃ x, Hid (z i = x) := ⟨_, rfl⟩
      rw [hx.out] at cz
      have B1 := nbegin M (2 * (i : Int)) 0 (T.may (by omega) (by omega))
      go_wp2_with fail
      refine B1.mono ?_
      rintro e w5 ⟨rfl, M5⟩
      clear B1 cz
      have A5 := nadd M5 (c := 0) (by simp [Mm.begin, T.cells]) rfl (by simp [Mm.begin, T.log]; omega) x
      have e5 : (ca (s.begin (2 * (i : Int)) 0).cells 0).2 = sm := by simp [Mm.begin, T.cells, ca]
      rw [e5] at A5
      have T6 := T.add0 (st := 2 * (i : Int)) (by omega) 0 x
      go_wp2_with (first | (go_at_call 11; refine (num_any _ _).mono ?_; rintro e w5 ⟨rfl, rfl⟩) | (go_at_call 18; refine A5.mono ?_; clear A5; rintro e w6 ⟨rfl, M6⟩))
      generalize (s.begin (2 * (i : Int)) 0).take 3 0 (wrap64 (sm + x)) true = s6 at M6 T6
      refine (nbegin M6 (2 * (i : Int) + 1) 1 (T6.may (by omega) (by omega))).mono ?_
      rintro e w7 ⟨rfl, M7⟩
      have A7 := nadd M7 (c := 1) (by simp [Mm.begin, T6.cells]) rfl (by simp [Mm.begin, T6.log]; omega) 1
      have e7 : (ca (s6.begin (2 * (i : Int) + 1) 1).cells 1).2 = (i : Int) := by simp [Mm.begin, T6.cells, ca]
      have e8 : wrap64 ((i : Int) + 1) = (i : Int) + 1 := by unfold wrap64; omega
      rw [e7, e8] at A7
      have T8 := T6.add1 (st := 2 * (i : Int) + 1) (by omega) 1
      clear e8
      go_wp2_with (first | (go_at_call 11; refine (num_any _ _).mono ?_; rintro e w7 ⟨rfl, rfl⟩) | (go_at_call 18; refine A7.mono ?_; clear A7; rintro e w8 ⟨rfl, M8⟩))
      go_roundw
      case rel => exact ⟨i + 1, _, _, by omega, by go_num, rfl, M8, T8⟩
      case measure => simp [intOf]; omega
    · have hiI : ¬ (i : Int) < (n : Int) := by omega
      have hin : i = n := by omega
      have P1 := npeek M (c := 0) (by simp [T.cells])
      have P2 := npeek M (c := 1) (by simp [T.cells])
      have e1 : (ca s.cells 0).2 = sm := by simp [T.cells, ca]
      have e2 : (ca s.cells 1).2 = (n : Int) := by simp [T.cells, ca, hin]
      rw [e1] at P1
      rw [e2] at P2
      have BW : Hid (Below w.heap.size w wr) := M.keeps.below (Nat.le_refl _) (fun _ _ e => e)
      clear M T e1 e2 hin
      go_wp2_with fail
      refine P1.mono ?_
      rintro e wr ⟨rfl, rfl⟩
      go_wp2_with fail
      refine P2.mono ?_
      rintro e wr ⟨rfl, rfl⟩
      go_wp2_with (go_at_call 11; refine (num_any _ _).mono ?_; rintro e w7 ⟨rfl, rfl⟩)
      go_ret
      exact ⟨rfl, BW.out⟩
end Go.Proofs.Ytekalkjghfghhab
