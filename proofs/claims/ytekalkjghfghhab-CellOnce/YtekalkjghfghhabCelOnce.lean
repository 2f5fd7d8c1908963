import Derived.Test.YtekalkjghfghhabCelSame
namespace Go.Proofs.Ytekalkjghfghhab
open Go.RowKit

/-- A number modulo 2. -/
theorem and1 (p : Int) : ∃ k : Nat, k < 2 ∧ bits .and .i64 p 1 = (k : Int) := by
  refine ⟨(BitVec.ofInt 64 p &&& BitVec.ofInt 64 1).toNat, ?_, ?_⟩
  · rw [BitVec.toNat_and]
    have : (BitVec.ofInt 64 1).toNat = 1 := by decide
    rw [this]
    exact Nat.lt_succ_of_le Nat.and_le_right
  · show IntKind.i64.wrap ((BitVec.ofInt 64 p &&& BitVec.ofInt 64 1).toNat : Int) = _
    have h : (BitVec.ofInt 64 p &&& BitVec.ofInt 64 1).toNat < 2 := by
      rw [BitVec.toNat_and]
      have : (BitVec.ofInt 64 1).toNat = 1 := by decide
      rw [this]
      exact Nat.lt_succ_of_le Nat.and_le_right
    rw [IntKind.wrap_i64]; omega

theorem aa_ok {l : List Ac} (h : ∀ q ∈ l, q.ok) {i : Nat} (hi : i < l.length) : (aa l i).ok := by
  have e : aa l i = l[i] := by simp [aa, List.getD_eq_getElem?_getD, hi]
  rw [e]; exact h _ (List.getElem_mem hi)
theorem no3 {s : Mm} (hl : s.cells.length = 3) {c : Nat} (hc : c = 3) : s.there (c : Int) = false := by simp [Mm.there, hl, hc]
theorem yes3 {s : Mm} (hl : s.cells.length = 3) {c : Nat} (h4 : c < 4) (hc : c ≠ 3) : s.there (c : Int) = true := by simp [Mm.there, hl]; omega

/-- The state behind the first Add. -/
def on1 (step thread : Int) : Mm := ((fr 3).begin step thread).take 3 1 16 true
def on2 (step thread : Int) : Mm := ((on1 step thread).begin (step + 1) thread).take 3 1 21 true

theorem on1_len (step thread : Int) : (on1 step thread).cells.length = 3 := rfl
theorem may0 {step thread : Int} (h : 0 ≤ step) (h' : 0 ≤ thread) : (fr 3).may step thread = true := by simp [Mm.may, fr, Mm.new, h, h']
theorem may1 {i : Int} (_ : 0 ≤ i) (step thread th : Int) : (on1 step thread).may step th = false := by simp [Mm.may, on1, Mm.take, Mm.begin]
theorem may2 {step thread : Int} (st : Int) {th : Int} (h : th < 0) : (on1 step thread).may st th = false := by
  simp only [Mm.may]; rw [show decide (0 ≤ th) = false by simp; omega]; simp
theorem may3 {step earlier : Int} (h : earlier ≤ step) (thread : Int) : (on1 step thread).may earlier 0 = false := by simp [Mm.may, on1, Mm.take, Mm.begin, h]
theorem may4 {step thread : Int} (h : 0 ≤ step) (h' : 0 ≤ thread) : (on1 step thread).may (step + 1) thread = true := by
  have e1 : decide (0 ≤ step + 1) = true := decide_eq_true (by omega)
  have e2 : decide (0 ≤ thread) = true := decide_eq_true h'
  have e3 : decide (step + 1 ≤ step) = false := decide_eq_false (by omega)
  have e : (on1 step thread).may (step + 1) thread = (decide (0 ≤ step + 1) && decide (0 ≤ thread) && !(true && decide (step + 1 ≤ step))) := rfl
  rw [e, e1, e2, e3]; rfl

set_option maxHeartbeats 6400000 in
set_option maxRecDepth 1000000 in
theorem cellOnce_walk {w : World} {a : Option Addr} {l : List Ac} (hA : AL w a l) (_ : ∀ q ∈ l, q.ok) (hln : l.length ≤ 9223372036854775807) (cap : Nat) {a2 : Option Addr} {l2 : List Ac} (hA2 : AL w a2 l2) (_ : ∀ q ∈ l2, q.ok) (hln2 : l2.length ≤ 9223372036854775807) (cap2 : Nat)
    (step : Int) (hst : I64 step) (thread : Int) (_ : I64 thread) (earlier : Int) (_ : I64 earlier) :
    Calls Try.prog 4 #[.slice a l.length cap, .slice a2 l2.length cap2, .int .i64 step, .int .i64 thread, .int .i64 earlier] w fun e w' => e = .returned (.bool true) ∧ Below w.heap.size w w' := by
  have hp := peq w.heap.size
  have HA : Hid (AL w a l) := hA
  have HA2 : Hid (AL w a2 l2) := hA2
  clear hA hA2
  have bel : ∀ {W : World} {s : Mm}, MN w W w.heap.size s → Below w.heap.size w W := fun h => h.keeps.below (Nat.le_refl _) (fun _ _ e => e)
  go_enter Try.func4, Try.ntmps4
  go_wp2_with fail
  refine (fresh_any w).mono ?_
  rintro e w1 ⟨rfl, M1⟩
  by_cases hbad : step < 0 ∨ step = 9223372036854775807 ∨ thread < 0
  · have E1 := nbegin_not M1 (-1) 0 (by decide)
    have E2 := nbegin_not M1 0 (-1) (by decide)
    have E3 := nbegin M1 9223372036854775807 9223372036854775807 (by decide)
    by_cases c1 : step < 0
    · have b1 : decide (step < 0) = true := by simp [c1]
      clear hbad c1
      go_wp2_with fail
      refine E1.mono ?_
      rintro e w1 ⟨rfl, rfl⟩
      go_wp2_with fail
      refine (num_any _ _).mono ?_
      rintro e w2 ⟨rfl, rfl⟩
      go_wp2_with fail
      refine E2.mono ?_
      rintro e w1 ⟨rfl, rfl⟩
      go_wp2_with fail
      refine (num_any _ _).mono ?_
      rintro e w2 ⟨rfl, rfl⟩
      go_wp2_with fail
      refine E3.mono ?_
      rintro e w3 ⟨rfl, M2⟩
      go_wp2_with (go_at_call 11; refine (num_any _ _).mono ?_; rintro e w2 ⟨rfl, rfl⟩)
      go_ret
      exact ⟨rfl, bel M2⟩
    · have b1 : decide (step < 0) = false := by simp; omega
      by_cases c2 : step = 9223372036854775807
      · have b2 : (step == 9223372036854775807) = true := by simp [c2]
        clear hbad c1 c2 hst
        go_wp2_with fail
        refine E1.mono ?_
        rintro e w1 ⟨rfl, rfl⟩
        go_wp2_with fail
        refine (num_any _ _).mono ?_
        rintro e w2 ⟨rfl, rfl⟩
        go_wp2_with fail
        refine E2.mono ?_
        rintro e w1 ⟨rfl, rfl⟩
        go_wp2_with fail
        refine (num_any _ _).mono ?_
        rintro e w2 ⟨rfl, rfl⟩
        go_wp2_with fail
        refine E3.mono ?_
        rintro e w3 ⟨rfl, M2⟩
        go_wp2_with (go_at_call 11; refine (num_any _ _).mono ?_; rintro e w2 ⟨rfl, rfl⟩)
        go_ret
        exact ⟨rfl, bel M2⟩
      · have b2 : (step == 9223372036854775807) = false := by simp [c2]
        have b3 : decide (thread < 0) = true := by simp; omega
        clear hbad c1 c2
        go_wp2_with fail
        refine E1.mono ?_
        rintro e w1 ⟨rfl, rfl⟩
        go_wp2_with fail
        refine (num_any _ _).mono ?_
        rintro e w2 ⟨rfl, rfl⟩
        go_wp2_with fail
        refine E2.mono ?_
        rintro e w1 ⟨rfl, rfl⟩
        go_wp2_with fail
        refine (num_any _ _).mono ?_
        rintro e w2 ⟨rfl, rfl⟩
        go_wp2_with fail
        refine E3.mono ?_
        rintro e w3 ⟨rfl, M2⟩
        go_wp2_with (go_at_call 11; refine (num_any _ _).mono ?_; rintro e w2 ⟨rfl, rfl⟩)
        go_ret
        exact ⟨rfl, bel M2⟩
  · have b1 : decide (step < 0) = false := by simp; omega
    have b2 : (step == 9223372036854775807) = false := by simp; omega
    have b3 : decide (thread < 0) = false := by simp; omega
    have hs0 : 0 ≤ step := by omega
    have hs1 : step < 9223372036854775807 := by unfold I64 at hst; omega
    have ht0 : 0 ≤ thread := by omega
    clear hbad hst
    go_wp2_with fail
    go_loopw [53] (fun iv wr => ∃ i : Nat, i ≤ l.length ∧ iv = .int .i64 i ∧ MN w wr w.heap.size (fr 3)) (fun iv _ => l.length - (intOf iv).toNat)
    case atStart => exact ⟨0, Nat.zero_le _, rfl, M1⟩
    case round =>
      obtain ⟨i, hi, rfl, M⟩ := hrel
      by_cases hlt : i < l.length
      · obtain ⟨b, off, rfl, hb, hc⟩ := HA.out.some (by omega)
        have hiI : (i : Int) < (l.length : Int) := by omega
        have d0 := M.keeps.cell (hc i hlt).1 (fun e => e)
        have d1 := M.keeps.cell (hc i hlt).2.1 (fun e => e)
        have d2 := M.keeps.cell (hc i hlt).2.2.1 (fun e => e)
        have d3 := M.keeps.cell (hc i hlt).2.2.2 (fun e => e)
        generalize aa l i = q at *
        have h4 := pl_lt q.c
        obtain ⟨wx, hwx⟩ : ∃ wx, wx = wr.alloc (.cells #[.int .i64 q.kind, .int .i64 q.c, .int .i64 q.x, .int .i64 q.y] 27) := ⟨_, rfl⟩
        have KX : Keeps (fun _ => False) wr wx := by rw [hwx]; exact (Keeps.refl _ wr).alloc _
        have b0 : wx.cell? ⟨wr.heap.size, 0, none⟩ = some (.int .i64 q.kind) := by rw [hwx]; simp
        have b1' : wx.cell? ⟨wr.heap.size, 1, none⟩ = some (.int .i64 q.c) := by rw [hwx]; simp
        have b2' : wx.cell? ⟨wr.heap.size, 2, none⟩ = some (.int .i64 q.x) := by rw [hwx]; simp
        have b3' : wx.cell? ⟨wr.heap.size, 3, none⟩ = some (.int .i64 q.y) := by rw [hwx]; simp
        go_wp2_with fail
        rw [← hwx]
        clear hwx hc
        by_cases hpl : pl q.c = 3
        · skip
          have A := nask_cell (M.new KX) q (no3 rfl hpl)
          refine A.mono ?_
          rintro e w5 ⟨rfl, M5, K5⟩
          have c0 := K5.cell b0 (fun e => e)
          have c1 := K5.cell b1' (fun e => e)
          have c2 := K5.cell b2' (fun e => e)
          have c3 := K5.cell b3' (fun e => e)
          have hpI : ((pl q.c : Int) == 3) = true := by simp [hpl]
          have hpN : ((pl q.c : Int) != 3) = false := by simp [hpl]
          have hpl' : Hid (pl q.c = 3) := hpl
          clear hpl
          clear b0 b1' b2' b3' d0 d1 d2 d3 A
          go_wp2_with fail
          refine (place_any w5 q).mono ?_
          rintro e w6 ⟨rfl, hw6⟩
          have K6 : Keeps (fun _ => False) w5 w6 := by rw [hw6]; exact (Keeps.refl _ w5).alloc _
          clear hw6
          have e0 := K6.cell c0 (fun e => e)
          have e1 := K6.cell c1 (fun e => e)
          have e2 := K6.cell c2 (fun e => e)
          have e3 := K6.cell c3 (fun e => e)
          clear c0 c1 c2 c3
          go_wp2_with fail
          refine (place_any w6 q).mono ?_
          rintro e w7 ⟨rfl, hw7⟩
          have K7 : Keeps (fun _ => False) w6 w7 := by rw [hw7]; exact (Keeps.refl _ w6).alloc _
          clear hw7
          go_wp2_with fail
          go_roundw
          case rel => exact ⟨i + 1, by omega, by go_num, (M5.new K6).new K7⟩
          case measure => simp [intOf]; omega
        · skip
          have A := nask_closed (M.new KX) q (yes3 rfl h4 hpl) rfl
          refine A.mono ?_
          rintro e w5 ⟨rfl, M5, K5⟩
          have c0 := K5.cell b0 (fun e => e)
          have c1 := K5.cell b1' (fun e => e)
          have c2 := K5.cell b2' (fun e => e)
          have c3 := K5.cell b3' (fun e => e)
          have hpI : ((pl q.c : Int) == 3) = false := by simp; omega
          have hpN : ((pl q.c : Int) != 3) = true := by simp; omega
          have hpl' : Hid (¬ pl q.c = 3) := hpl
          clear hpl
          clear b0 b1' b2' b3' d0 d1 d2 d3 A
          go_wp2_with fail
          refine (place_any w5 q).mono ?_
          rintro e w6 ⟨rfl, hw6⟩
          have K6 : Keeps (fun _ => False) w5 w6 := by rw [hw6]; exact (Keeps.refl _ w5).alloc _
          clear hw6
          have e0 := K6.cell c0 (fun e => e)
          have e1 := K6.cell c1 (fun e => e)
          have e2 := K6.cell c2 (fun e => e)
          have e3 := K6.cell c3 (fun e => e)
          clear c0 c1 c2 c3
          go_wp2_with fail
          refine (place_any w6 q).mono ?_
          rintro e w7 ⟨rfl, hw7⟩
          have K7 : Keeps (fun _ => False) w6 w7 := by rw [hw7]; exact (Keeps.refl _ w6).alloc _
          clear hw7
          go_wp2_with fail
          go_roundw
          case rel => exact ⟨i + 1, by omega, by go_num, (M5.new K6).new K7⟩
          case measure => simp [intOf]; omega
      · have hiI : ¬ (i : Int) < (l.length : Int) := by omega
        have S1 := same_any M rfl 10 11 12 rfl rfl rfl (by decide)
        rw [show (((fr 3).log.length : Nat) : Int) = 0 from rfl] at S1
        go_wp2_with fail
        refine S1.mono ?_
        clear S1
        rintro e w2 ⟨rfl, M2⟩
        go_wp2_with fail
        refine (nbegin M2 step thread (may0 hs0 ht0)).mono ?_
        rintro e w3 ⟨rfl, M3⟩
        have A3 := nadd M3 (c := 1) (by show 1 < 3; decide) rfl (by show (0 + 1) * 56 ≤ 140737488355328; decide) 5
        rw [show (ca ((fr 3).begin step thread).cells 1).2 = 11 from rfl, show wrap64 (11 + 5) = 16 from by unfold wrap64; omega, show ((1 : Nat) : Int) = 1 from rfl] at A3
        go_wp2_with (first | (go_at_call 11; refine (num_any _ _).mono ?_; rintro e w3 ⟨rfl, rfl⟩) | (go_at_call 18; refine A3.mono ?_; clear A3; rintro e w4 ⟨rfl, M4⟩))

        have M4' : MN w _ w.heap.size (on1 step thread) := M4
        clear M4 M2
        have S2 := same_any M4' rfl 10 16 12 rfl rfl rfl (by show 1 * 56 ≤ 140737488355328; decide)
        rw [show (((on1 step thread).log.length : Nat) : Int) = 1 from rfl] at S2
        refine S2.mono ?_
        clear S2
        rintro e w5 ⟨rfl, M5⟩
        clear M4' M
        go_wp2_with fail
        go_loopw [116] (fun iv wr => ∃ i : Nat, i ≤ l2.length ∧ iv = .int .i64 i ∧ MN w wr w.heap.size (on1 step thread)) (fun iv _ => l2.length - (intOf iv).toNat)
        case atStart => exact ⟨0, Nat.zero_le _, rfl, M5⟩
        case round =>
          obtain ⟨i, hi, rfl, M⟩ := hrel
          clear hiI
          by_cases hlt : i < l2.length
          · obtain ⟨b, off, rfl, hb, hc⟩ := HA2.out.some (by omega)
            have hiI : (i : Int) < (l2.length : Int) := by omega
            have d0 := M.keeps.cell (hc i hlt).1 (fun e => e)
            have d1 := M.keeps.cell (hc i hlt).2.1 (fun e => e)
            have d2 := M.keeps.cell (hc i hlt).2.2.1 (fun e => e)
            have d3 := M.keeps.cell (hc i hlt).2.2.2 (fun e => e)
            generalize aa l2 i = q at *
            have h4 := pl_lt q.c
            obtain ⟨k, hk2, hk⟩ := and1 (i : Int)
            have hs2 : step + 1 ≤ 9223372036854775807 := by omega
            obtain ⟨wx, hwx⟩ : ∃ wx, wx = wr.alloc (.cells #[.int .i64 q.kind, .int .i64 q.c, .int .i64 q.x, .int .i64 q.y] 27) := ⟨_, rfl⟩
            have KX : Keeps (fun _ => False) wr wx := by rw [hwx]; exact (Keeps.refl _ wr).alloc _
            have b0 : wx.cell? ⟨wr.heap.size, 0, none⟩ = some (.int .i64 q.kind) := by rw [hwx]; simp
            have b1' : wx.cell? ⟨wr.heap.size, 1, none⟩ = some (.int .i64 q.c) := by rw [hwx]; simp
            have b2' : wx.cell? ⟨wr.heap.size, 2, none⟩ = some (.int .i64 q.x) := by rw [hwx]; simp
            have b3' : wx.cell? ⟨wr.heap.size, 3, none⟩ = some (.int .i64 q.y) := by rw [hwx]; simp
            go_wp2_with fail
            rw [← hwx]
            clear hwx hc
            by_cases hpl : pl q.c = 3
            · skip
              have A := nask_cell (M.new KX) q (no3 (on1_len _ _) hpl)
              refine A.mono ?_
              rintro e w5 ⟨rfl, M5, K5⟩
              have c0 := K5.cell b0 (fun e => e)
              have c1 := K5.cell b1' (fun e => e)
              have c2 := K5.cell b2' (fun e => e)
              have c3 := K5.cell b3' (fun e => e)
              have hpI : ((pl q.c : Int) == 3) = true := by simp [hpl]
              have hpN : ((pl q.c : Int) != 3) = false := by simp [hpl]
              have hpl' : Hid (pl q.c = 3) := hpl
              clear hpl
              clear b0 b1' b2' b3' d0 d1 d2 d3 A
              go_wp2_with fail
              refine (place_any w5 q).mono ?_
              rintro e w6 ⟨rfl, hw6⟩
              have K6 : Keeps (fun _ => False) w5 w6 := by rw [hw6]; exact (Keeps.refl _ w5).alloc _
              clear hw6
              have e0 := K6.cell c0 (fun e => e)
              have e1 := K6.cell c1 (fun e => e)
              have e2 := K6.cell c2 (fun e => e)
              have e3 := K6.cell c3 (fun e => e)
              clear c0 c1 c2 c3
              go_wp2_with fail
              refine (place_any w6 q).mono ?_
              rintro e w7 ⟨rfl, hw7⟩
              have K7 : Keeps (fun _ => False) w6 w7 := by rw [hw7]; exact (Keeps.refl _ w6).alloc _
              clear hw7
              have M7 := (M5.new K6).new K7
              clear M5 K6 K7 K5 e0 e1 e2 e3
              have N1 := nbegin_not M7 step (i : Int) (may1 (i := 0) (by omega) step thread (i : Int))
              have N2 := nbegin_not M7 (step + 1) (-1 - (k : Int)) (may2 _ (by omega))
              go_wp2_with fail
              refine N1.mono ?_
              rintro e w8 ⟨rfl, rfl⟩
              go_wp2_with fail
              refine (num_any _ _).mono ?_
              rintro e w8 ⟨rfl, rfl⟩
              go_wp2_with fail
              refine N2.mono ?_
              rintro e w8 ⟨rfl, rfl⟩
              by_cases hel : earlier ≤ step
              · have hel' : decide (earlier ≤ step) = true := by simp [hel]
                have N3 := nbegin_not M7 earlier 0 (may3 hel thread)
                clear hel
                go_wp2_with fail
                refine (num_any _ _).mono ?_
                rintro e w8 ⟨rfl, rfl⟩
                go_wp2_with fail
                refine N3.mono ?_
                rintro e w8 ⟨rfl, rfl⟩
                go_wp2_with (go_at_call 11; refine (num_any _ _).mono ?_; rintro e w8 ⟨rfl, rfl⟩)
                go_roundw
                case rel => exact ⟨i + 1, by omega, by go_num, M7⟩
                case measure => simp [intOf]; omega
              · have hel' : decide (earlier ≤ step) = false := by simp; omega
                clear hel
                go_wp2_with (go_at_call 11; refine (num_any _ _).mono ?_; rintro e w8 ⟨rfl, rfl⟩)
                go_roundw
                case rel => exact ⟨i + 1, by omega, by go_num, M7⟩
                case measure => simp [intOf]; omega
            · skip
              have A := nask_closed (M.new KX) q (yes3 (on1_len _ _) h4 hpl) rfl
              refine A.mono ?_
              rintro e w5 ⟨rfl, M5, K5⟩
              have c0 := K5.cell b0 (fun e => e)
              have c1 := K5.cell b1' (fun e => e)
              have c2 := K5.cell b2' (fun e => e)
              have c3 := K5.cell b3' (fun e => e)
              have hpI : ((pl q.c : Int) == 3) = false := by simp; omega
              have hpN : ((pl q.c : Int) != 3) = true := by simp; omega
              have hpl' : Hid (¬ pl q.c = 3) := hpl
              clear hpl
              clear b0 b1' b2' b3' d0 d1 d2 d3 A
              go_wp2_with fail
              refine (place_any w5 q).mono ?_
              rintro e w6 ⟨rfl, hw6⟩
              have K6 : Keeps (fun _ => False) w5 w6 := by rw [hw6]; exact (Keeps.refl _ w5).alloc _
              clear hw6
              have e0 := K6.cell c0 (fun e => e)
              have e1 := K6.cell c1 (fun e => e)
              have e2 := K6.cell c2 (fun e => e)
              have e3 := K6.cell c3 (fun e => e)
              clear c0 c1 c2 c3
              go_wp2_with fail
              refine (place_any w6 q).mono ?_
              rintro e w7 ⟨rfl, hw7⟩
              have K7 : Keeps (fun _ => False) w6 w7 := by rw [hw7]; exact (Keeps.refl _ w6).alloc _
              clear hw7
              have M7 := (M5.new K6).new K7
              clear M5 K6 K7 K5 e0 e1 e2 e3
              have N1 := nbegin_not M7 step (i : Int) (may1 (i := 0) (by omega) step thread (i : Int))
              have N2 := nbegin_not M7 (step + 1) (-1 - (k : Int)) (may2 _ (by omega))
              go_wp2_with fail
              refine N1.mono ?_
              rintro e w8 ⟨rfl, rfl⟩
              go_wp2_with fail
              refine (num_any _ _).mono ?_
              rintro e w8 ⟨rfl, rfl⟩
              go_wp2_with fail
              refine N2.mono ?_
              rintro e w8 ⟨rfl, rfl⟩
              by_cases hel : earlier ≤ step
              · have hel' : decide (earlier ≤ step) = true := by simp [hel]
                have N3 := nbegin_not M7 earlier 0 (may3 hel thread)
                clear hel
                go_wp2_with fail
                refine (num_any _ _).mono ?_
                rintro e w8 ⟨rfl, rfl⟩
                go_wp2_with fail
                refine N3.mono ?_
                rintro e w8 ⟨rfl, rfl⟩
                go_wp2_with (go_at_call 11; refine (num_any _ _).mono ?_; rintro e w8 ⟨rfl, rfl⟩)
                go_roundw
                case rel => exact ⟨i + 1, by omega, by go_num, M7⟩
                case measure => simp [intOf]; omega
              · have hel' : decide (earlier ≤ step) = false := by simp; omega
                clear hel
                go_wp2_with (go_at_call 11; refine (num_any _ _).mono ?_; rintro e w8 ⟨rfl, rfl⟩)
                go_roundw
                case rel => exact ⟨i + 1, by omega, by go_num, M7⟩
                case measure => simp [intOf]; omega
          · have hiI : ¬ (i : Int) < (l2.length : Int) := by omega
            have hs2 : step + 1 ≤ 9223372036854775807 := by omega
            have S3 := same_any M rfl 10 16 12 rfl rfl rfl (by show 1 * 56 ≤ 140737488355328; decide)
            rw [show (((on1 step thread).log.length : Nat) : Int) = 1 from rfl] at S3
            go_wp2_with fail
            refine S3.mono ?_
            clear S3
            rintro e w6 ⟨rfl, M6⟩
            go_wp2_with fail
            refine (nbegin M6 (step + 1) thread (may4 hs0 ht0)).mono ?_
            rintro e w7 ⟨rfl, M7⟩
            have A7 := nadd M7 (c := 1) (by show 1 < 3; decide) rfl (by show (1 + 1) * 56 ≤ 140737488355328; decide) 5
            rw [show (ca ((on1 step thread).begin (step + 1) thread).cells 1).2 = 16 from rfl, show wrap64 (16 + 5) = 21 from by unfold wrap64; omega, show ((1 : Nat) : Int) = 1 from rfl] at A7
            go_wp2_with (first | (go_at_call 11; refine (num_any _ _).mono ?_; rintro e w7 ⟨rfl, rfl⟩) | (go_at_call 18; refine A7.mono ?_; clear A7; rintro e w8 ⟨rfl, M8⟩))
            have M8' : MN w _ w.heap.size (on2 step thread) := M8
            clear M8 M6 M
            have S4 := same_any M8' rfl 10 21 12 rfl rfl rfl (by show 2 * 56 ≤ 140737488355328; decide)
            rw [show (((on2 step thread).log.length : Nat) : Int) = 2 from rfl] at S4
            refine S4.mono ?_
            clear S4
            rintro e w9 ⟨rfl, M9⟩
            go_wp2_with fail
            go_ret
            exact ⟨rfl, bel M9⟩
end Go.Proofs.Ytekalkjghfghhab
