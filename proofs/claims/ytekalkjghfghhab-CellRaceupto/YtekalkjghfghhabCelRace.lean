import Derived.Test.YtekalkjghfghhabCelRace0
namespace Go.Proofs.Ytekalkjghfghhab
open Go.RowKit

set_option maxHeartbeats 3200000 in
set_option maxRecDepth 1000000 in
theorem cellRace_walk {w : World} {a : Option Addr} {n : Nat} {z : Nat → Int} (hz : NL w a n z) (_ : ∀ i, i < n → I64 (z i)) (hn : n ≤ 1048576) (cap : Nat) :
    Calls Try.prog 5 #[.slice a n cap] w fun e w' => e = .returned (.bool true) ∧ Below w.heap.size w w' := by
  have hp := peq w.heap.size
  have HZ : Hid (NL w a n z) := hz
  clear hz
  go_enter Try.func5, Try.ntmps5
  go_wp2_with fail
  refine (fresh_any w).mono ?_
  rintro e w1 ⟨rfl, m1⟩
  have M1 := MP.ofMN m1
  clear m1
  go_wp2_with fail
  have M2 : MP w (fun b => b = w1.heap.size) (w1.alloc (.cells #[.bool false, .int .i64 0, .int .i64 0, .bool false, .int .i64 0, .int .i64 0, .bool false, .int .i64 0, .int .i64 0, .bool false, .int .i64 0, .int .i64 0] 49)) w.heap.size (fr 3) :=
    M1.own ((Keeps.refl _ w1).alloc _) (fun k hk => ⟨.inr (by omega), by rw [hk]; simp⟩)
  have C2 : RC (w1.alloc (.cells #[.bool false, .int .i64 0, .int .i64 0, .bool false, .int .i64 0, .int .i64 0, .bool false, .int .i64 0, .int .i64 0, .bool false, .int .i64 0, .int .i64 0] 49)) w1.heap.size 0 := by
    refine ⟨fun k hk => ⟨false, 0, 0, ?_, ?_, ?_, fun e => by cases e⟩, fun o => by simp⟩
    all_goals
      rcases k with _ | _ | _ | _ | k
      · simp
      · simp
      · simp
      · simp
      · omega
  have S2 : RS (fr 3) 0 0 := ⟨rfl, rfl, by simp [fr, Mm.new], fun e => by cases e⟩
  generalize fr 3 = s2 at M2 S2
  have M2s := M1.keeps.size
  clear M1
  have hRw : w.heap.size ≤ w1.heap.size := M2s
  generalize w1.heap.size = R at *
  go_loopw [20, 5] (fun iv wv wr => ∃ (i won : Nat) (s : Mm), i ≤ n ∧ won ≤ i ∧ iv = .int .i64 i ∧ wv = .int .i64 won ∧ MP w (fun b => b = R) wr w.heap.size s ∧ RS s won i ∧ RC wr R won) (fun iv _ _ => n - (intOf iv).toNat)
  case atStart => exact ⟨0, 0, s2, Nat.zero_le _, Nat.le_refl _, rfl, rfl, M2, S2, C2⟩
  case round =>
    obtain ⟨i, won, s, hi, hwi, rfl, rfl, M, S, C⟩ := hrel
    by_cases hlt : i < n
    · obtain ⟨b, off, rfl, hb, hc⟩ := HZ.out.some (by omega)
      have hiI : (i : Int) < (n : Int) := by omega
      have cz := M.keeps.cell (hc i hlt) (fun e => e)
      obtain ⟨k, hk4, hbits⟩ : ∃ k : Nat, k < 4 ∧ bits .and .i64 (z i) 3 = (k : Int) := ⟨pl (z i), pl_lt _, and3 _⟩
      have hk4I : (k : Int) < 4 := by omega
      have B1 := pbegin M (i : Int) (k : Int) (S.may (by omega))
      go_wp2_with fail
      refine B1.mono ?_
      rintro e w5 ⟨rfl, M5, K5⟩
      clear B1 cz hc
      have C5 := C.kp (M.lt rfl) K5
      obtain ⟨ld, sw, wn, c0, c1, c2, hq⟩ := C5.all k hk4
      clear hbits
      have hL : (s.begin (i : Int) (k : Int)).cells.length = 3 := S.len
      have hv : (ca (s.begin (i : Int) (k : Int)).cells 2).2 = 12 + (won : Int) := S.v
      have hlg : ((s.begin (i : Int) (k : Int)).log.length + 1) * 56 ≤ 140737488355328 := by have := S.log; simp [Mm.begin]; omega
      cases ld with
      | false =>
        have A := pload M5 (c := 2) (by omega) rfl hlg
        rw [hv] at A
        have S6 := S.take won (k : Int) 1 true
        have fr0 := C5.fr (k * 3)
        have fr1 := C5.fr (k * 3 + 1)
        have fr2 := C5.fr (k * 3 + 2)
        go_wp2_with (go_at_call 11; refine (num_any _ _).mono ?_; rintro e w5 ⟨rfl, rfl⟩)
        refine A.mono ?_
        clear A
        rintro e w6 ⟨rfl, M6, K6⟩
        have d0 := K6.cell c0 rfl
        have d1 := K6.cell c1 rfl
        have d2 := K6.cell c2 rfl
        have e0 := (K6.frozen (p := ⟨R, k * 3, none⟩) (M5.lt rfl) rfl).trans fr0
        have e1 := (K6.frozen (p := ⟨R, k * 3 + 1, none⟩) (M5.lt rfl) rfl).trans fr1
        have e2 := (K6.frozen (p := ⟨R, k * 3 + 2, none⟩) (M5.lt rfl) rfl).trans fr2
        have C6 := C5.kp (M5.lt rfl) K6
        have C7 : Hid (RC (((w6.setCell ⟨R, k * 3, none⟩ (.bool true)).setCell ⟨R, k * 3 + 1, none⟩ (.int .i64 (12 + (won : Int)))).setCell ⟨R, k * 3 + 2, none⟩ (.int .i64 (won : Int))) R won) := C6.set hk4 true (12 + (won : Int)) (won : Int) (fun _ => ⟨rfl, by omega, by omega⟩)
        clear c0 c1 c2 fr0 fr1 fr2 C6 C5 C M5 M K5 K6
        go_wp2_with (go_at_call 11; refine (num_any _ _).mono ?_; rintro e w6 ⟨rfl, rfl⟩)
        go_roundw
        case rel => exact ⟨i + 1, won, _, by omega, by omega, by go_num, rfl, M6.own (((((Keeps.refl _ _).setCell (p := ⟨R, _, none⟩) (fun _ => ⟨hRw, rfl⟩) _).setCell (p := ⟨R, _, none⟩) (fun _ => ⟨hRw, rfl⟩) _).setCell (p := ⟨R, _, none⟩) (fun _ => ⟨hRw, rfl⟩) _)) (fun j hj => ⟨.inl hj, by simp; exact M6.lt hj⟩), S6, C7.out⟩
        case measure => simp [intOf]; omega
      | true =>
        obtain ⟨hsw, hw0, hw1⟩ := hq rfl
        have fr0 := C5.fr (k * 3)
        have hs1 : 0 ≤ sw := by omega
        have hs2 : sw ≤ 2000000 := by omega
        have A := pswap (M5.new ((Keeps.refl _ w5).drew)) (c := 2) (by omega) rfl hlg sw (sw + 1)
        rw [show ((2 : Nat) : Int) = 2 from rfl] at A
        have hwr : IntKind.i64.wrap (sw + 1) = sw + 1 := by rw [IntKind.wrap_i64]; omega
        by_cases hww : wn = (won : Int)
        · have e1 : decide ((ca (s.begin (i : Int) (k : Int)).cells 2).2 = sw) = true := by simp [hv, hsw, hww]
          have e2 : (if (ca (s.begin (i : Int) (k : Int)).cells 2).2 = sw then sw + 1 else (ca (s.begin (i : Int) (k : Int)).cells 2).2) = 12 + ((won + 1 : Nat) : Int) := by rw [if_pos (by rw [hv, hsw, hww])]; omega
          rw [e1, e2] at A
          have S6 := S.take (won + 1) (k : Int) 2 true
          clear e1 e2 hq hw0 hw1 hsw
          subst hww
          go_wp2_with (go_at_call 11; refine (num_any _ _).mono ?_; rintro e w5 ⟨rfl, rfl⟩)
          go_region_held3 (fun w' => w'.cell? ⟨R, k * 3 + 1, none⟩ = some (.int .i64 sw)) (go_keep) ((go_at_call 20; refine A.mono ?_; rintro e w6 ⟨rfl, M6, K6⟩; have q1 := K6.cell (p := ⟨R, k * 3 + 1, none⟩) c1 rfl))
          have d0 := K6.cell (p := ⟨R, k * 3, none⟩) c0 rfl
          have d2 := K6.cell (p := ⟨R, k * 3 + 2, none⟩) c2 rfl
          have lR : R < w5.drew.heap.size := M5.lt rfl
          have e0 := (K6.frozen (p := ⟨R, k * 3, none⟩) lR rfl).trans fr0
          have C5' : RC w5.drew R won := ⟨C5.all, C5.fr⟩
          have C6 := (C5'.kp lR K6).mono (won' := won + 1) (by omega)
          have C7 : Hid (RC (w6.setCell ⟨R, k * 3, none⟩ (.bool false)) R (won + 1)) := C6.off hk4
          clear c0 c1 c2 fr0 C6 C5 C5' C M5 M K5 K6 A hwr lR
          go_wp2_with (go_at_call 11; refine (num_any _ _).mono ?_; rintro e w6 ⟨rfl, rfl⟩)
          go_roundw
          case rel => exact ⟨i + 1, won + 1, _, by omega, by omega, by go_num, by go_num, M6.own ((Keeps.refl _ _).setCell (p := ⟨R, _, none⟩) (fun _ => ⟨hRw, rfl⟩) _) (fun j hj => ⟨.inl hj, by simp; exact M6.lt hj⟩), S6, C7.out⟩
          case measure => simp [intOf]; omega
        · have e1 : decide ((ca (s.begin (i : Int) (k : Int)).cells 2).2 = sw) = false := by simp [hv, hsw]; omega
          have e2 : (if (ca (s.begin (i : Int) (k : Int)).cells 2).2 = sw then sw + 1 else (ca (s.begin (i : Int) (k : Int)).cells 2).2) = 12 + (won : Int) := by rw [if_neg (by rw [hv, hsw]; omega), hv]
          rw [e1, e2] at A
          have S6 := S.take won (k : Int) 2 false
          have hwb : (wn == (won : Int)) = false := by simp [hww]
          clear e1 e2 hq hw0 hw1 hsw hww
          go_wp2_with (go_at_call 11; refine (num_any _ _).mono ?_; rintro e w5 ⟨rfl, rfl⟩)
          go_region_held3 (fun w' => w'.cell? ⟨R, k * 3 + 1, none⟩ = some (.int .i64 sw)) (go_keep) ((go_at_call 20; refine A.mono ?_; rintro e w6 ⟨rfl, M6, K6⟩; have q1 := K6.cell (p := ⟨R, k * 3 + 1, none⟩) c1 rfl))
          have d0 := K6.cell (p := ⟨R, k * 3, none⟩) c0 rfl
          have d2 := K6.cell (p := ⟨R, k * 3 + 2, none⟩) c2 rfl
          have lR : R < w5.drew.heap.size := M5.lt rfl
          have e0 := (K6.frozen (p := ⟨R, k * 3, none⟩) lR rfl).trans fr0
          have C5' : RC w5.drew R won := ⟨C5.all, C5.fr⟩
          have C6 := (C5'.kp lR K6).mono (won' := won) (by omega)
          have C7 : Hid (RC (w6.setCell ⟨R, k * 3, none⟩ (.bool false)) R (won)) := C6.off hk4
          clear c0 c1 c2 fr0 C6 C5 C5' C M5 M K5 K6 A hwr lR
          go_wp2_with (go_at_call 11; refine (num_any _ _).mono ?_; rintro e w6 ⟨rfl, rfl⟩)
          go_roundw
          case rel => exact ⟨i + 1, won, _, by omega, by omega, by go_num, by rfl, M6.own ((Keeps.refl _ _).setCell (p := ⟨R, _, none⟩) (fun _ => ⟨hRw, rfl⟩) _) (fun j hj => ⟨.inl hj, by simp; exact M6.lt hj⟩), S6, C7.out⟩
          case measure => simp [intOf]; omega
    · have hiI : ¬ (i : Int) < (n : Int) := by omega
      have P1 := ppeek M (c := 2) (by rw [S.len]; omega)
      rw [S.v, show ((2 : Nat) : Int) = 2 from rfl] at P1
      have BW : Hid (Below w.heap.size w wr) := M.keeps.below (Nat.le_refl _) (fun _ _ e => e)
      clear M S C
      go_wp2_with fail
      refine P1.mono ?_
      rintro e wr ⟨rfl, rfl⟩
      go_wp2_with (go_at_call 11; refine (num_any _ _).mono ?_; rintro e w7 ⟨rfl, rfl⟩)
      go_ret
      exact ⟨rfl, BW.out⟩
end Go.Proofs.Ytekalkjghfghhab
