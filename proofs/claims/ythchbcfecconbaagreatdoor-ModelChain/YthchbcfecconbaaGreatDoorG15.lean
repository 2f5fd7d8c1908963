import Derived.Test.YthchbcfecconbaaGreatDoorG14
import Derived.WalkKit
import Derived.ProofKit
import Derived.Lib.ParseIntB
import Derived.Lib.ItoaMem
import Derived.Shelf.Small.Wraps
import Derived.Shelf.LaysM
import Derived.Shelf.LaysC
import Derived.Shelf.Strconv.ParseIntPublic10
import Derived.Shelf.Strconv.ErrVarParseInt
import Derived.Shelf.Strings.Cut
import Derived.Shelf.Strings.Split
import Derived.Test.YthchbcfecconbaaGreatDoorProg
namespace Go.Proofs.YthchbcfecconbaaGreatDoor
open Go.RowKit
attribute [local go_sem] Oper.semAt_some run_store_nf run_store_f
set_option maxHeartbeats 1000000 in
set_option maxRecDepth 100000 in
theorem drun_chk {w : World} {a ao ag : Option Addr} {cap co cg : Nat} {l : List Ins} {os : List Int} {gs : List (Bool × Int)} (hl : ISL w a l) (hlen : l.length ≤ 9223372036854775807) (fuel : Int) (h0 : ¬ (chk l).1 = 0) : Calls Tryz.prog 9 #[.slice a l.length cap, .slice ao os.length co, .slice ag gs.length cg, .int .i64 fuel] w fun e w' => e = .returned (.tuple #[zA, .int .i64 (chk l).1]) ∧ Keeps (fun _ => False) w w' := by
  obtain ⟨W1, hW1⟩ : ∃ W1, W1 = w.alloc (.cells #[.int .i64 0, .int .i64 0, .slice none 0 0, .int .i64 0] 31) := ⟨_, rfl⟩
  have K1 : Keeps (fun _ => False) w W1 := by rw [hW1]; exact (Keeps.refl _ w).alloc _
  have C1 : CL W1 w.heap.size [.int .i64 0, .int .i64 0, .slice none 0 0, .int .i64 0] := by rw [hW1]; exact CL.made w _ _
  have HW1 : Hid (_ = _) := hW1
  clear hW1
  have hC := rcheck_any (cap := cap) (hl.keep K1) hlen
  generalize (chk l).2 = ci at *
  generalize (chk l).1 = ce at *
  have hb : (ce != 0) = true := by simpa using h0
  have hb2 : (ce == 0) = false := by simpa using h0
  clear hl
  go_enter Tryz.func9, Tryz.ntmps9
  go_wp2_with (go_at_call 24; rw [← HW1.out]; refine hC.mono ?_; clear hC; rintro e w1 ⟨rfl, k1⟩; have C4 := C1.keep (by show 0 < 4; decide) k1 (fun e => e); have y0 := C4.c 0 _ rfl; have y1 := C4.c 1 _ rfl; have y2 := C4.c 2 _ rfl; have y3 := C4.c 3 _ rfl; have x0 := C4.z 0 (by show 0 < 4; decide); have x1 := C4.z 1 (by show 1 < 4; decide); have x2 := C4.z 2 (by show 2 < 4; decide); have x3 := C4.z 3 (by show 3 < 4; decide))
  (try simp only [Exit.inBlock, Exit.then])
  have KX := K1.trans k1
  refine bodyPost_ret (v := .tuple #[zA, .int .i64 ce]) (by rw [results_cell_tmp rfl]; unfold zA; go_simp) rfl ⟨rfl, ?_⟩
  exact (((KX.setCell (fun h => absurd h (Nat.lt_irrefl _)) _).setCell (fun h => absurd h (Nat.lt_irrefl _)) _).setCell (fun h => absurd h (Nat.lt_irrefl _)) _).setCell (fun h => absurd h (Nat.lt_irrefl _)) _
set_option maxHeartbeats 1000000 in
set_option maxRecDepth 100000 in
theorem drun_obj {w : World} {a ao ag : Option Addr} {cap co cg : Nat} {l : List Ins} {os : List Int} {gs : List (Bool × Int)} (hl : ISL w a l) (hlen : l.length ≤ 9223372036854775807) (fuel : Int) (h0 : (chk l).1 = 0) (h1 : 16 < os.length) : Calls Tryz.prog 9 #[.slice a l.length cap, .slice ao os.length co, .slice ag gs.length cg, .int .i64 fuel] w fun e w' => e = .returned (.tuple #[zA, .int .i64 110]) ∧ Keeps (fun _ => False) w w' := by
  obtain ⟨W1, hW1⟩ : ∃ W1, W1 = w.alloc (.cells #[.int .i64 0, .int .i64 0, .slice none 0 0, .int .i64 0] 31) := ⟨_, rfl⟩
  have K1 : Keeps (fun _ => False) w W1 := by rw [hW1]; exact (Keeps.refl _ w).alloc _
  have C1 : CL W1 w.heap.size [.int .i64 0, .int .i64 0, .slice none 0 0, .int .i64 0] := by rw [hW1]; exact CL.made w _ _
  have HW1 : Hid (_ = _) := hW1
  clear hW1
  have hC := rcheck_any (cap := cap) (hl.keep K1) hlen
  generalize (chk l).2 = ci at *
  rw [h0] at hC
  have d1 : decide ((16 : Int) < (os.length : Int)) = true := decide_eq_true (by omega)
  have d1' : decide (16 < os.length) = true := decide_eq_true (by omega)
  clear hl
  go_enter Tryz.func9, Tryz.ntmps9
  go_wp2_with (go_at_call 24; rw [← HW1.out]; refine hC.mono ?_; clear hC; rintro e w1 ⟨rfl, k1⟩; have C4 := C1.keep (by show 0 < 4; decide) k1 (fun e => e); have y0 := C4.c 0 _ rfl; have y1 := C4.c 1 _ rfl; have y2 := C4.c 2 _ rfl; have y3 := C4.c 3 _ rfl; have x0 := C4.z 0 (by show 0 < 4; decide); have x1 := C4.z 1 (by show 1 < 4; decide); have x2 := C4.z 2 (by show 2 < 4; decide); have x3 := C4.z 3 (by show 3 < 4; decide))
  (try simp only [Exit.inBlock, Exit.then])
  have KX := K1.trans k1
  refine bodyPost_ret (v := .tuple #[zA, .int .i64 110]) (by rw [results_cell_tmp rfl]; unfold zA; go_simp) rfl ⟨rfl, ?_⟩
  exact (((KX.setCell (fun h => absurd h (Nat.lt_irrefl _)) _).setCell (fun h => absurd h (Nat.lt_irrefl _)) _).setCell (fun h => absurd h (Nat.lt_irrefl _)) _).setCell (fun h => absurd h (Nat.lt_irrefl _)) _
set_option maxHeartbeats 1000000 in
set_option maxRecDepth 100000 in
theorem drun_giv {w : World} {a ao ag : Option Addr} {cap co cg : Nat} {l : List Ins} {os : List Int} {gs : List (Bool × Int)} (hl : ISL w a l) (hlen : l.length ≤ 9223372036854775807) (fuel : Int) (h0 : (chk l).1 = 0) (h1 : os.length ≤ 16) (h2 : 4096 < gs.length) : Calls Tryz.prog 9 #[.slice a l.length cap, .slice ao os.length co, .slice ag gs.length cg, .int .i64 fuel] w fun e w' => e = .returned (.tuple #[zA, .int .i64 111]) ∧ Keeps (fun _ => False) w w' := by
  obtain ⟨W1, hW1⟩ : ∃ W1, W1 = w.alloc (.cells #[.int .i64 0, .int .i64 0, .slice none 0 0, .int .i64 0] 31) := ⟨_, rfl⟩
  have K1 : Keeps (fun _ => False) w W1 := by rw [hW1]; exact (Keeps.refl _ w).alloc _
  have C1 : CL W1 w.heap.size [.int .i64 0, .int .i64 0, .slice none 0 0, .int .i64 0] := by rw [hW1]; exact CL.made w _ _
  have HW1 : Hid (_ = _) := hW1
  clear hW1
  have hC := rcheck_any (cap := cap) (hl.keep K1) hlen
  generalize (chk l).2 = ci at *
  rw [h0] at hC
  have d1 : decide ((16 : Int) < (os.length : Int)) = false := decide_eq_false (by omega)
  have d1' : decide (16 < os.length) = false := decide_eq_false (by omega)
  have d2 : decide ((4096 : Int) < (gs.length : Int)) = true := decide_eq_true (by omega)
  have d2' : decide (4096 < gs.length) = true := decide_eq_true (by omega)
  clear hl
  go_enter Tryz.func9, Tryz.ntmps9
  go_wp2_with (go_at_call 24; rw [← HW1.out]; refine hC.mono ?_; clear hC; rintro e w1 ⟨rfl, k1⟩; have C4 := C1.keep (by show 0 < 4; decide) k1 (fun e => e); have y0 := C4.c 0 _ rfl; have y1 := C4.c 1 _ rfl; have y2 := C4.c 2 _ rfl; have y3 := C4.c 3 _ rfl; have x0 := C4.z 0 (by show 0 < 4; decide); have x1 := C4.z 1 (by show 1 < 4; decide); have x2 := C4.z 2 (by show 2 < 4; decide); have x3 := C4.z 3 (by show 3 < 4; decide))
  (try simp only [Exit.inBlock, Exit.then])
  have KX := K1.trans k1
  refine bodyPost_ret (v := .tuple #[zA, .int .i64 111]) (by rw [results_cell_tmp rfl]; unfold zA; go_simp) rfl ⟨rfl, ?_⟩
  exact (((KX.setCell (fun h => absurd h (Nat.lt_irrefl _)) _).setCell (fun h => absurd h (Nat.lt_irrefl _)) _).setCell (fun h => absurd h (Nat.lt_irrefl _)) _).setCell (fun h => absurd h (Nat.lt_irrefl _)) _
set_option maxHeartbeats 1000000 in
set_option maxRecDepth 100000 in
theorem drun_low {w : World} {a ao ag : Option Addr} {cap co cg : Nat} {l : List Ins} {os : List Int} {gs : List (Bool × Int)} (hl : ISL w a l) (hlen : l.length ≤ 9223372036854775807) (fuel : Int) (h0 : (chk l).1 = 0) (h1 : os.length ≤ 16) (h2 : gs.length ≤ 4096) (h3 : fuel < 0) : Calls Tryz.prog 9 #[.slice a l.length cap, .slice ao os.length co, .slice ag gs.length cg, .int .i64 fuel] w fun e w' => e = .returned (.tuple #[zA, .int .i64 112]) ∧ Keeps (fun _ => False) w w' := by
  obtain ⟨W1, hW1⟩ : ∃ W1, W1 = w.alloc (.cells #[.int .i64 0, .int .i64 0, .slice none 0 0, .int .i64 0] 31) := ⟨_, rfl⟩
  have K1 : Keeps (fun _ => False) w W1 := by rw [hW1]; exact (Keeps.refl _ w).alloc _
  have C1 : CL W1 w.heap.size [.int .i64 0, .int .i64 0, .slice none 0 0, .int .i64 0] := by rw [hW1]; exact CL.made w _ _
  have HW1 : Hid (_ = _) := hW1
  clear hW1
  have hC := rcheck_any (cap := cap) (hl.keep K1) hlen
  generalize (chk l).2 = ci at *
  rw [h0] at hC
  have d1 : decide ((16 : Int) < (os.length : Int)) = false := decide_eq_false (by omega)
  have d1' : decide (16 < os.length) = false := decide_eq_false (by omega)
  have d2 : decide ((4096 : Int) < (gs.length : Int)) = false := decide_eq_false (by omega)
  have d2' : decide (4096 < gs.length) = false := decide_eq_false (by omega)
  have d3 : decide (fuel < 0) = true := decide_eq_true (by omega)
  clear hl
  go_enter Tryz.func9, Tryz.ntmps9
  go_wp2_with (go_at_call 24; rw [← HW1.out]; refine hC.mono ?_; clear hC; rintro e w1 ⟨rfl, k1⟩; have C4 := C1.keep (by show 0 < 4; decide) k1 (fun e => e); have y0 := C4.c 0 _ rfl; have y1 := C4.c 1 _ rfl; have y2 := C4.c 2 _ rfl; have y3 := C4.c 3 _ rfl; have x0 := C4.z 0 (by show 0 < 4; decide); have x1 := C4.z 1 (by show 1 < 4; decide); have x2 := C4.z 2 (by show 2 < 4; decide); have x3 := C4.z 3 (by show 3 < 4; decide))
  (try simp only [Exit.inBlock, Exit.then])
  have KX := K1.trans k1
  refine bodyPost_ret (v := .tuple #[zA, .int .i64 112]) (by rw [results_cell_tmp rfl]; unfold zA; go_simp) rfl ⟨rfl, ?_⟩
  exact (((KX.setCell (fun h => absurd h (Nat.lt_irrefl _)) _).setCell (fun h => absurd h (Nat.lt_irrefl _)) _).setCell (fun h => absurd h (Nat.lt_irrefl _)) _).setCell (fun h => absurd h (Nat.lt_irrefl _)) _
set_option maxHeartbeats 1000000 in
set_option maxRecDepth 100000 in
theorem drun_high {w : World} {a ao ag : Option Addr} {cap co cg : Nat} {l : List Ins} {os : List Int} {gs : List (Bool × Int)} (hl : ISL w a l) (hlen : l.length ≤ 9223372036854775807) (fuel : Int) (h0 : (chk l).1 = 0) (h1 : os.length ≤ 16) (h2 : gs.length ≤ 4096) (h3 : 10000 < fuel) : Calls Tryz.prog 9 #[.slice a l.length cap, .slice ao os.length co, .slice ag gs.length cg, .int .i64 fuel] w fun e w' => e = .returned (.tuple #[zA, .int .i64 112]) ∧ Keeps (fun _ => False) w w' := by
  obtain ⟨W1, hW1⟩ : ∃ W1, W1 = w.alloc (.cells #[.int .i64 0, .int .i64 0, .slice none 0 0, .int .i64 0] 31) := ⟨_, rfl⟩
  have K1 : Keeps (fun _ => False) w W1 := by rw [hW1]; exact (Keeps.refl _ w).alloc _
  have C1 : CL W1 w.heap.size [.int .i64 0, .int .i64 0, .slice none 0 0, .int .i64 0] := by rw [hW1]; exact CL.made w _ _
  have HW1 : Hid (_ = _) := hW1
  clear hW1
  have hC := rcheck_any (cap := cap) (hl.keep K1) hlen
  generalize (chk l).2 = ci at *
  rw [h0] at hC
  have d1 : decide ((16 : Int) < (os.length : Int)) = false := decide_eq_false (by omega)
  have d1' : decide (16 < os.length) = false := decide_eq_false (by omega)
  have d2 : decide ((4096 : Int) < (gs.length : Int)) = false := decide_eq_false (by omega)
  have d2' : decide (4096 < gs.length) = false := decide_eq_false (by omega)
  have d3 : decide (fuel < 0) = false := decide_eq_false (by omega)
  have d4 : decide (10000 < fuel) = true := decide_eq_true (by omega)
  clear hl
  go_enter Tryz.func9, Tryz.ntmps9
  go_wp2_with (go_at_call 24; rw [← HW1.out]; refine hC.mono ?_; clear hC; rintro e w1 ⟨rfl, k1⟩; have C4 := C1.keep (by show 0 < 4; decide) k1 (fun e => e); have y0 := C4.c 0 _ rfl; have y1 := C4.c 1 _ rfl; have y2 := C4.c 2 _ rfl; have y3 := C4.c 3 _ rfl; have x0 := C4.z 0 (by show 0 < 4; decide); have x1 := C4.z 1 (by show 1 < 4; decide); have x2 := C4.z 2 (by show 2 < 4; decide); have x3 := C4.z 3 (by show 3 < 4; decide))
  (try simp only [Exit.inBlock, Exit.then])
  have KX := K1.trans k1
  refine bodyPost_ret (v := .tuple #[zA, .int .i64 112]) (by rw [results_cell_tmp rfl]; unfold zA; go_simp) rfl ⟨rfl, ?_⟩
  exact (((KX.setCell (fun h => absurd h (Nat.lt_irrefl _)) _).setCell (fun h => absurd h (Nat.lt_irrefl _)) _).setCell (fun h => absurd h (Nat.lt_irrefl _)) _).setCell (fun h => absurd h (Nat.lt_irrefl _)) _
theorem drun_any {w : World} {a ao ag : Option Addr} {cap co cg : Nat} {l : List Ins} {os : List Int} {gs : List (Bool × Int)} (hl : ISL w a l) (hlen : l.length ≤ 9223372036854775807) (hO : NUM w ao os) (hG : GVN w ag gs) (hOB : ∀ b off, ao = some ⟨b, off, none⟩ → b < w.heap.size) (hGB : ∀ b off, ag = some ⟨b, off, none⟩ → b < w.heap.size) (hos : ∀ i, In64 (os.getD i 0)) (hgs : ∀ i, In64 (gs.getD i (false, 0)).2) (hqs : ∀ p, p < l.length → In64 (l.getD p ins0).xN ∧ In64 (l.getD p ins0).yN) (fuel : Int) : Calls Tryz.prog 9 #[.slice a l.length cap, .slice ao os.length co, .slice ag gs.length cg, .int .i64 fuel] w fun e w' => ∃ v x, e = .returned (.tuple #[v, .int .i64 x]) ∧ DRunP w w' l os gs fuel v x ∧ Keeps (fun _ => False) w w' := by
  unfold DRunP
  by_cases h0 : (chk l).1 = 0
  · by_cases h1 : 16 < os.length
    · have e : rfs os.length gs.length fuel = 110 := by unfold rfs; rw [if_pos h1]
      rw [e]
      exact (drun_obj hl hlen fuel h0 h1).mono (fun e w' h => ⟨_, _, h.1, .inr (.inl ⟨h0, by decide, rfl, rfl⟩), h.2⟩)
    · by_cases h2 : 4096 < gs.length
      · have e : rfs os.length gs.length fuel = 111 := by unfold rfs; rw [if_neg h1, if_pos h2]
        rw [e]
        exact (drun_giv hl hlen fuel h0 (by omega) h2).mono (fun e w' h => ⟨_, _, h.1, .inr (.inl ⟨h0, by decide, rfl, rfl⟩), h.2⟩)
      · by_cases h3 : fuel < 0 ∨ 10000 < fuel
        · have e : rfs os.length gs.length fuel = 112 := by unfold rfs; rw [if_neg h1, if_neg h2, if_pos h3]
          rw [e]
          rcases h3 with h3 | h3
          · exact (drun_low hl hlen fuel h0 (by omega) (by omega) h3).mono (fun e w' h => ⟨_, _, h.1, .inr (.inl ⟨h0, by decide, rfl, rfl⟩), h.2⟩)
          · exact (drun_high hl hlen fuel h0 (by omega) (by omega) h3).mono (fun e w' h => ⟨_, _, h.1, .inr (.inl ⟨h0, by decide, rfl, rfl⟩), h.2⟩)
        · have e : rfs os.length gs.length fuel = 0 := by unfold rfs; rw [if_neg h1, if_neg h2, if_neg h3]
          rw [e]
          obtain ⟨g, rfl⟩ : ∃ g : Nat, fuel = (g : Int) := ⟨fuel.toNat, by omega⟩
          rw [Int.toNat_natCast]
          exact (drun_go hl hlen hO hG hOB hGB hos hgs hqs h0 (by omega) (by omega) g (by omega)).mono (fun e w' ⟨v, h1, h2, h3⟩ => ⟨v, 0, h1, .inr (.inr ⟨h0, rfl, rfl, h2⟩), h3⟩)
  · exact (drun_chk hl hlen fuel h0).mono (fun e w' h => ⟨_, _, h.1, .inl ⟨h0, rfl, rfl⟩, h.2⟩)
end Go.Proofs.YthchbcfecconbaaGreatDoor

namespace Go.Proofs.YthchbcfecconbaaGreatDoor
open Go.RowKit
attribute [local go_sem] Oper.semAt_some run_store_nf run_store_f
theorem num11 (w : World) (n : Int) : Calls Tryz.prog 10 #[.int .i64 n] w fun e w' => e = .returned (.int .i64 n) ∧ w' = w := by
  go_enter Tryz.func10, Tryz.ntmps10
  go_wp2
  go_ret
  exact ⟨rfl, rfl⟩
set_option maxHeartbeats 800000 in
set_option maxRecDepth 1000000 in
theorem sameNums_ok {w : World} {a b : Option Addr} {xs : List Int} (ca cb : Nat) (ha : NUM w a xs) (hb : NUM w b xs) (hn : xs.length ≤ 4611686018427387904) : Calls Tryz.prog 13 #[.slice a xs.length ca, .slice b xs.length cb] w fun e w' => e = .returned (.bool true) ∧ Keeps (fun _ => False) w w' := by
  have hnn : ((xs.length : Int) != (xs.length : Int)) = false := by simp
  generalize hN : xs.length = N at *
  go_enter Tryz.func13, Tryz.ntmps13
  go_wp2
  go_loopw [5] (fun iv Wr => ∃ k : Nat, iv = .int .i64 (k : Int) ∧ k ≤ N ∧ Keeps (fun _ => False) w Wr) (fun iv _ => N - (intOf iv).toNat)
  case atStart => exact ⟨0, rfl, Nat.zero_le _, Keeps.refl _ w⟩
  case round =>
    obtain ⟨k, rfl, hk, kr⟩ := hrel
    by_cases hlt : k < N
    · have hltI : decide ((k : Int) < (N : Int)) = true := by simp; omega
      have hltJ : (k : Int) < (N : Int) := by omega
      have hk0 : (0 : Int) ≤ (k : Int) := by omega
      have hw1 : IntKind.i64.wrap ((k : Int) + 1) = (k : Int) + 1 := by rw [IntKind.wrap_i64]; omega
      obtain ⟨ba, oa, rfl, c1⟩ := ha k _ (List.getElem?_eq_getElem (by omega))
      obtain ⟨bb, ob, rfl, c2⟩ := hb k _ (List.getElem?_eq_getElem (by omega))
      have d1 := kr.cell c1 (fun e => e)
      have d2 := kr.cell c2 (fun e => e)
      generalize xs[k]'(by omega) = x at *
      have hxx : (x != x) = false := by simp
      clear c1 c2 ha hb
      go_wp2
      go_quiet (fail)
      go_wp2
      go_roundw
      case rel => exact ⟨k + 1, by go_num, by omega, kr.drewN _⟩
      case measure => simp [intOf]; omega
    · have hltI : decide ((k : Int) < (N : Int)) = false := by simp; omega
      clear ha hb
      go_wp2
      go_ret
      exact ⟨rfl, kr⟩
set_option maxHeartbeats 800000 in
set_option maxRecDepth 1000000 in
theorem same_ok {w : World} {a b : Option Addr} {xs : List Int} (ca cb : Nat) (oc rs n : Int) (ha : NUM w a xs) (hb : NUM w b xs) (hn : xs.length ≤ 4611686018427387904) : Calls Tryz.prog 11 #[.agg #[.int .i64 oc, .int .i64 rs, .slice a xs.length ca, .int .i64 n], .agg #[.int .i64 oc, .int .i64 rs, .slice b xs.length cb, .int .i64 n]] w fun e w' => e = .returned (.bool true) ∧ Keeps (fun _ => False) w w' := by
  obtain ⟨W, hW⟩ : ∃ W, W = (w.alloc (.cells #[.int .i64 oc, .int .i64 rs, .slice a xs.length ca, .int .i64 n] 31)).alloc (.cells #[.int .i64 oc, .int .i64 rs, .slice b xs.length cb, .int .i64 n] 31) := ⟨_, rfl⟩
  have K : Keeps (fun _ => False) w W := by rw [hW]; exact ((Keeps.refl _ w).alloc _).alloc _
  have hs := sameNums_ok ca cb (ha.keep K) (hb.keep K) hn
  have HW : Hid (_ = _) := hW
  clear hW ha hb
  generalize xs.length = N at *
  go_enter Tryz.func11, Tryz.ntmps11
  go_wp2_with (go_at_call 13; rw [← HW.out]; refine hs.mono ?_; clear hs; rintro e w1 ⟨rfl, k1⟩)
  go_ret
  exact ⟨rfl, K.trans k1⟩
theorem NUM.ofCL {w : World} {b : Nat} {xs : List Int} (h : CL w b (nvs xs)) : NUM w (some ⟨b, 0, none⟩) xs := fun i x hx => ⟨b, 0, rfl, by
  rw [Nat.zero_add]
  exact h.c i _ (by unfold nvs; rw [List.getElem?_map, hx]; rfl)⟩
end Go.Proofs.YthchbcfecconbaaGreatDoor

namespace Go.Proofs.YthchbcfecconbaaGreatDoor
open Go.RowKit
attribute [local go_sem] Oper.semAt_some run_store_nf run_store_f
set_option maxHeartbeats 800000 in
set_option maxRecDepth 1000000 in
theorem sameGiven_ok {w : World} {a b : Option Addr} {xs : List (Bool × Int)} (ca cb : Nat) (ha : GVN w a xs) (hb : GVN w b xs) (hn : xs.length ≤ 4611686018427387904) : Calls Tryz.prog 14 #[.slice a xs.length ca, .slice b xs.length cb] w fun e w' => e = .returned (.bool true) ∧ Keeps (fun _ => False) w w' := by
  have hnn : ((xs.length : Int) != (xs.length : Int)) = false := by simp
  generalize hN : xs.length = N at *
  go_enter Tryz.func14, Tryz.ntmps14
  go_wp2
  go_loopw [5] (fun iv Wr => ∃ k : Nat, iv = .int .i64 (k : Int) ∧ k ≤ N ∧ Keeps (fun _ => False) w Wr) (fun iv _ => N - (intOf iv).toNat)
  case atStart => exact ⟨0, rfl, Nat.zero_le _, Keeps.refl _ w⟩
  case round =>
    obtain ⟨k, rfl, hk, kr⟩ := hrel
    by_cases hlt : k < N
    · have hltI : decide ((k : Int) < (N : Int)) = true := by simp; omega
      have hltJ : (k : Int) < (N : Int) := by omega
      have hk0 : (0 : Int) ≤ (k : Int) := by omega
      have hw1 : IntKind.i64.wrap ((k : Int) + 1) = (k : Int) + 1 := by rw [IntKind.wrap_i64]; omega
      obtain ⟨ba, oa, rfl, c1, c2⟩ := ha k _ (List.getElem?_eq_getElem (by omega))
      obtain ⟨bb, ob, rfl, c3, c4⟩ := hb k _ (List.getElem?_eq_getElem (by omega))
      have d1 := kr.cell c1 (fun e => e)
      have d2 := kr.cell c2 (fun e => e)
      have d3 := kr.cell c3 (fun e => e)
      have d4 := kr.cell c4 (fun e => e)
      generalize xs[k]'(by omega) = x at *
      obtain ⟨u, y⟩ := x
      simp only at d1 d2 d3 d4
      clear c1 c2 c3 c4 ha hb
      go_wp2
      go_quiet (fail)
      go_wp2
      go_roundw
      case rel => exact ⟨k + 1, by go_num, by omega, kr.drewN _⟩
      case measure => simp [intOf]; omega
    · have hltI : decide ((k : Int) < (N : Int)) = false := by simp; omega
      clear ha hb
      go_wp2
      go_ret
      exact ⟨rfl, kr⟩
end Go.Proofs.YthchbcfecconbaaGreatDoor

namespace Go.Proofs.YthchbcfecconbaaGreatDoor
open Go.RowKit
def digB (c : UInt8) : Bool := decide (48 ≤ c.toNat) && decide (c.toNat ≤ 57)
theorem digB_iff (c : UInt8) : digB c = true ↔ 48 ≤ c.toNat ∧ c.toNat ≤ 57 := by unfold digB; simp
def natv (a : Nat) (l : List UInt8) : Nat := l.foldl (fun acc c => acc * 10 + (c.toNat - 48)) a
theorem natv_nil (a : Nat) : natv a [] = a := by unfold natv; rw [List.foldl_nil]
theorem natv_cons (a : Nat) (c : UInt8) (r : List UInt8) : natv a (c :: r) = natv (a * 10 + (c.toNat - 48)) r := by unfold natv; rw [List.foldl_cons]
theorem natv_ge (l : List UInt8) : ∀ a : Nat, a * 10 ^ l.length ≤ natv a l := by
  induction l with
  | nil => intro a; rw [natv_nil, List.length_nil, Nat.pow_zero, Nat.mul_one]; exact Nat.le_refl _
  | cons c r ih =>
    intro a
    have h := ih (a * 10 + (c.toNat - 48))
    rw [natv_cons, List.length_cons, Nat.pow_succ]
    refine Nat.le_trans ?_ h
    rw [Nat.mul_comm (10 ^ r.length) 10, ← Nat.mul_assoc]
    exact Nat.mul_le_mul_right _ (Nat.le_add_right _ _)
def numForm : List UInt8 → Bool
  | [] => false
  | c :: r =>
    if c.toNat = 45 then (match r with
      | [] => false
      | e :: _ => if e.toNat = 48 then false else r.all digB)
    else if c.toNat = 48 then r.isEmpty
    else (c :: r).all digB
theorem numForm_cons (c : UInt8) (r : List UInt8) : numForm (c :: r) = if c.toNat = 45 then (match r with
      | [] => false
      | e :: _ => if e.toNat = 48 then false else r.all digB)
    else if c.toNat = 48 then r.isEmpty
    else (c :: r).all digB := rfl
def neg? : List UInt8 → Bool
  | [] => false
  | c :: _ => decide (c.toNat = 45)
def digs : List UInt8 → List UInt8
  | [] => []
  | c :: r => if c.toNat = 45 then r else c :: r
def lim (l : List UInt8) : Nat := if neg? l then 9223372036854775808 else 9223372036854775807
def prsV (l : List UInt8) : Int := if numForm l = true ∧ natv 0 (digs l) ≤ lim l then (if neg? l then -((natv 0 (digs l) : Nat) : Int) else ((natv 0 (digs l) : Nat) : Int)) else 0
def prsE (l : List UInt8) : Int := if numForm l = true then (if natv 0 (digs l) ≤ lim l then 0 else 13) else 12
theorem form_digs {l : List UInt8} (h : numForm l = true) : (digs l).all digB = true ∧ digs l ≠ [] ∧ (digs l = [48] ∨ ∃ e r, digs l = e :: r ∧ 49 ≤ e.toNat) ∧ (neg? l = true → ∃ e r, digs l = e :: r ∧ 49 ≤ e.toNat) := by
  match l, h with
  | c :: r, h =>
    rw [numForm_cons] at h
    by_cases h1 : c.toNat = 45
    · rw [if_pos h1] at h
      have hd : digs (c :: r) = r := by show (if _ then _ else _) = _; rw [if_pos h1]
      rw [hd]
      match r, h with
      | e :: r', h =>
        simp only at h
        by_cases h2 : e.toNat = 48
        · rw [if_pos h2] at h; cases h
        · rw [if_neg h2] at h
          have h3 := h
          rw [List.all_cons, Bool.and_eq_true] at h3
          have he := (digB_iff e).1 h3.1
          exact ⟨h, by simp, .inr ⟨e, r', rfl, by omega⟩, fun _ => ⟨e, r', rfl, by omega⟩⟩
    · rw [if_neg h1] at h
      have hd : digs (c :: r) = c :: r := by show (if _ then _ else _) = _; rw [if_neg h1]
      have hn : neg? (c :: r) = false := by show decide _ = _; simp [h1]
      rw [hd, hn]
      by_cases h2 : c.toNat = 48
      · rw [if_pos h2] at h
        have hr : r = [] := by simpa using h
        subst hr
        have hc : c = 48 := UInt8.toNat_inj.1 h2
        subst hc
        exact ⟨by decide, by simp, .inl rfl, fun k => by cases k⟩
      · rw [if_neg h2] at h
        have h3 := h
        rw [List.all_cons, Bool.and_eq_true] at h3
        have he := (digB_iff c).1 h3.1
        exact ⟨h, by simp, .inr ⟨c, r, rfl, by omega⟩, fun k => by cases k⟩
theorem uintM_digits (M : Nat) (hM : M ≤ 18446744073709551615) : ∀ (r : List UInt8) (acc : Nat), r.all digB = true → acc ≤ M → Lib.parseUintM M acc r = if natv acc r ≤ M then .ok (natv acc r) else .range
  | [], acc, _, h => by rw [natv_nil, if_pos h]; rfl
  | c :: r, acc, h, ha => by
    rw [List.all_cons, Bool.and_eq_true] at h
    have hc := (digB_iff c).1 h.1
    have hge := natv_ge r (acc * 10 + (c.toNat - 48))
    have hp : 0 < 10 ^ r.length := Nat.pow_pos (by decide)
    have hge' : acc * 10 + (c.toNat - 48) ≤ natv (acc * 10 + (c.toNat - 48)) r := by
      refine Nat.le_trans ?_ hge
      exact Nat.le_mul_of_pos_right _ hp
    rw [natv_cons]
    unfold Lib.parseUintM
    rw [if_pos hc]
    by_cases h1 : 1844674407370955162 ≤ acc
    · rw [if_pos h1, if_neg (by omega)]
    · rw [if_neg h1]
      by_cases h2 : M < acc * 10 + (c.toNat - 48)
      · rw [if_pos h2, if_neg (by omega)]
      · rw [if_neg h2]
        exact uintM_digits M hM r _ h.2 (by omega)
theorem parseInt_form {l : List UInt8} (h : numForm l = true) : Lib.parseIntB 64 l = if natv 0 (digs l) ≤ lim l then .ok (prsV l) else .range := by
  obtain ⟨h1, h2, _, _⟩ := form_digs h
  match l, h, h1, h2 with
  | c :: r, h, h1, h2 =>
    have hc43 : c.toNat ≠ 43 := by
      intro k
      rw [numForm_cons, if_neg (by omega), if_neg (by omega), List.all_cons, Bool.and_eq_true] at h
      have := (digB_iff c).1 h.1
      omega
    have hd : (if c.toNat = 43 ∨ c.toNat = 45 then r else c :: r) = digs (c :: r) := by
      show _ = if c.toNat = 45 then r else c :: r
      by_cases k : c.toNat = 45
      · rw [if_pos (.inr k), if_pos k]
      · rw [if_neg (by omega), if_neg k]
    have hu : Lib.parseUintB 64 (digs (c :: r)) = if natv 0 (digs (c :: r)) ≤ 18446744073709551615 then .ok (natv 0 (digs (c :: r))) else .range := by
      unfold Lib.parseUintB
      rw [if_neg h2]
      exact uintM_digits _ (by decide) _ 0 h1 (by decide)
    unfold Lib.parseIntB
    simp only [hd, hu]
    have hN : neg? (c :: r) = decide (c.toNat = 45) := rfl
    have hV : ∀ x : Nat, x = natv 0 (digs (c :: r)) → x ≤ lim (c :: r) → prsV (c :: r) = if neg? (c :: r) then -((x : Nat) : Int) else ((x : Nat) : Int) := by
      intro x hx hl
      unfold prsV
      rw [← hx, if_pos ⟨h, hl⟩]
    have hL : lim (c :: r) = if c.toNat = 45 then 9223372036854775808 else 9223372036854775807 := by unfold lim; rw [hN]; by_cases k : c.toNat = 45 <;> simp [k]
    generalize hv : natv 0 (digs (c :: r)) = v at *
    rw [hL] at hV ⊢
    have hV' := hV v rfl
    rw [hN] at hV'
    by_cases k : c.toNat = 45
    · simp only [k, if_true, decide_true] at hV' ⊢
      by_cases h3 : v ≤ 9223372036854775808
      · rw [if_pos h3, if_pos (by omega), hV' h3]
        simp [show ¬ (9223372036854775808 < v) by omega]
      · rw [if_neg h3]
        by_cases h4 : v ≤ 18446744073709551615
        · rw [if_pos h4]; simp [show 9223372036854775808 < v by omega]
        · rw [if_neg h4]
    · simp only [k, if_false, decide_false, Bool.false_eq_true] at hV' ⊢
      by_cases h3 : v ≤ 9223372036854775807
      · rw [if_pos h3, if_pos (by omega), hV' h3]
        simp [show ¬ (9223372036854775808 ≤ v) by omega]
      · rw [if_neg h3]
        by_cases h4 : v ≤ 18446744073709551615
        · rw [if_pos h4]; simp [show 9223372036854775808 ≤ v by omega]
        · rw [if_neg h4]
end Go.Proofs.YthchbcfecconbaaGreatDoor

/-
  DERIVED: THE SHELF's CONTRACTS AT THIS DUMP, IN PLAIN WORDS (tools/lay-plain.mjs out of 'YthchbcfecconbaaGreatDoorShelfSrc.lean', which tools/lay-shelf.mjs wrote): THE SAME DECLARATIONS UNDER THE SAME NAMES: 'import', 'namespace', 'open', 'def', 'theorem' AND NOTHING ELSE: no command of the shelf's: FOR A HAND-IN. Each laying: the table of numbers ('.._ren') and one theorem, a field a fact of the dump's own or the kernel's comparison; each contract: ONE APPLICATION.
-/
namespace Go.Proofs
open Go.Shelf
def Tryz.lays103_ren : Go.Shelf.Ren := ⟨fun | 103 => 110 | 210 => 118 | 206 => 123 | n => n, fun | 9 => 9 | 4 => 4 | 24 => 125 | 3 => 3 | n => n, fun | n => n⟩
theorem Tryz.lays103 : Go.Proofs.Lays.n103 Tryz.prog Tryz.lays103_ren := {
  mixed := by kernel_rfl
  f103 := Tryz.func110.trans (congrArg some (by kernel_rfl))
  f206 := Tryz.func123.trans (congrArg some (by kernel_rfl))
  f210 := Tryz.func118.trans (congrArg some (by kernel_rfl))
  t3 := Tryz.underlying3
  a3 := Tryz.isAgg3
  z3 := Tryz.sizeOf3
  v3 := Tryz.zeroValue3
  t4 := Tryz.underlying4
  a4 := Tryz.isAgg4
  z4 := Tryz.sizeOf4
  v4 := Tryz.zeroValue4
  t9 := Tryz.underlying9
  a9 := Tryz.isAgg9
  z9 := Tryz.sizeOf9
  v9 := Tryz.zeroValue9
  t24 := Tryz.underlying125
  a24 := Tryz.isAgg125
  z24 := Tryz.sizeOf125
  v24 := Tryz.zeroValue125 }
open Go.RowKit in
theorem Tryz.strings_CutPrefix (s p : ByteArray) (w : World) :
    Calls Tryz.prog 110 #[.string s, .string p] w fun e w' => e = .returned (.tuple #[.string ⟨(Lib.trimPrefix s.data.toList p.data.toList).toArray⟩, .bool (Lib.hasPrefix s.data.toList p.data.toList)]) ∧ w' = w := Any.strings_CutPrefix Tryz.lays103 s p w
def Tryz.lays104_ren : Go.Shelf.Ren := ⟨fun | 104 => 46 | 211 => 73 | 207 => 98 | n => n, fun | 9 => 9 | 4 => 4 | 24 => 125 | 3 => 3 | n => n, fun | n => n⟩
theorem Tryz.lays104 : Go.Proofs.Lays.n104 Tryz.prog Tryz.lays104_ren := {
  mixed := by kernel_rfl
  f104 := Tryz.func46.trans (congrArg some (by kernel_rfl))
  f207 := Tryz.func98.trans (congrArg some (by kernel_rfl))
  f211 := Tryz.func73.trans (congrArg some (by kernel_rfl))
  t3 := Tryz.underlying3
  a3 := Tryz.isAgg3
  z3 := Tryz.sizeOf3
  v3 := Tryz.zeroValue3
  t4 := Tryz.underlying4
  a4 := Tryz.isAgg4
  z4 := Tryz.sizeOf4
  v4 := Tryz.zeroValue4
  t9 := Tryz.underlying9
  a9 := Tryz.isAgg9
  z9 := Tryz.sizeOf9
  v9 := Tryz.zeroValue9
  t24 := Tryz.underlying125
  a24 := Tryz.isAgg125
  z24 := Tryz.sizeOf125
  v24 := Tryz.zeroValue125 }
open Go.RowKit in
theorem Tryz.strings_CutSuffix (s p : ByteArray) (w : World) (hs : s.size ≤ 9223372036854775807) :
    Calls Tryz.prog 46 #[.string s, .string p] w fun e w' => e = .returned (.tuple #[.string ⟨(Lib.trimSuffix s.data.toList p.data.toList).toArray⟩, .bool (Lib.hasSuffix s.data.toList p.data.toList)]) ∧ w' = w := Any.strings_CutSuffix Tryz.lays104 s p w hs
def Tryz.laysC174_ren : Go.Shelf.Ren := ⟨fun | 174 => 120 | 247 => 124 | 245 => 125 | 287 => 126 | 279 => 127 | 280 => 128 | 281 => 129 | 282 => 130 | 321 => 131 | 322 => 132 | 316 => 133 | 171 => 135 | 205 => 134 | 243 => 136 | 246 => 137 | 283 => 138 | 284 => 139 | 285 => 140 | 286 => 141 | 129 => 143 | 317 => 142 | 318 => 144 | 319 => 145 | 320 => 146 | 337 => 147 | 338 => 148 | n => n, fun | 9 => 9 | 3 => 3 | 2 => 2 | 75 => 191 | 85 => 192 | 4 => 4 | 167 => 202 | 5 => 5 | 53 => 163 | 175 => 203 | 46 => 166 | 168 => 205 | 37 => 179 | 0 => 0 | 210 => 211 | 21 => 21 | 127 => 213 | 145 => 216 | 143 => 214 | 171 => 218 | 173 => 221 | 212 => 224 | 51 => 198 | 20 => 20 | 213 => 225 | 232 => 229 | 233 => 230 | 80 => 231 | n => n, fun | 15 => 6 | 16 => 7 | 17 => 8 | 18 => 9 | 19 => 10 | n => n⟩
theorem Tryz.laysC174 : Go.Proofs.LaysC.n174 Tryz.prog Tryz.laysC174_ren := {
  mixed := by kernel_rfl
  f129 := Tryz.func143.trans (congrArg some (by kernel_rfl))
  f171 := Tryz.func135.trans (congrArg some (by kernel_rfl))
  f174 := Tryz.func120.trans (congrArg some (by kernel_rfl))
  f205 := Tryz.func134.trans (congrArg some (by kernel_rfl))
  f243 := Tryz.func136.trans (congrArg some (by kernel_rfl))
  f245 := Tryz.func125.trans (congrArg some (by kernel_rfl))
  f246 := Tryz.func137.trans (congrArg some (by kernel_rfl))
  f247 := Tryz.func124.trans (congrArg some (by kernel_rfl))
  f279 := Tryz.func127.trans (congrArg some (by kernel_rfl))
  f280 := Tryz.func128.trans (congrArg some (by kernel_rfl))
  f281 := Tryz.func129.trans (congrArg some (by kernel_rfl))
  f282 := Tryz.func130.trans (congrArg some (by kernel_rfl))
  f283 := Tryz.func138.trans (congrArg some (by kernel_rfl))
  f284 := Tryz.func139.trans (congrArg some (by kernel_rfl))
  f285 := Tryz.func140.trans (congrArg some (by kernel_rfl))
  f286 := Tryz.func141.trans (congrArg some (by kernel_rfl))
  f287 := Tryz.func126.trans (congrArg some (by kernel_rfl))
  f316 := Tryz.func133.trans (congrArg some (by kernel_rfl))
  f317 := Tryz.func142.trans (congrArg some (by kernel_rfl))
  f318 := Tryz.func144.trans (congrArg some (by kernel_rfl))
  f319 := Tryz.func145.trans (congrArg some (by kernel_rfl))
  f320 := Tryz.func146.trans (congrArg some (by kernel_rfl))
  f321 := Tryz.func131.trans (congrArg some (by kernel_rfl))
  f322 := Tryz.func132.trans (congrArg some (by kernel_rfl))
  f337 := Tryz.func147.trans (congrArg some (by kernel_rfl))
  f338 := Tryz.func148.trans (congrArg some (by kernel_rfl))
  t0 := Tryz.underlying0
  a0 := Tryz.isAgg0
  z0 := Tryz.sizeOf0
  v0 := Tryz.zeroValue0
  t2 := Tryz.underlying2
  a2 := Tryz.isAgg2
  z2 := Tryz.sizeOf2
  v2 := Tryz.zeroValue2
  t3 := Tryz.underlying3
  a3 := Tryz.isAgg3
  z3 := Tryz.sizeOf3
  v3 := Tryz.zeroValue3
  t4 := Tryz.underlying4
  a4 := Tryz.isAgg4
  z4 := Tryz.sizeOf4
  v4 := Tryz.zeroValue4
  t5 := Tryz.underlying5
  a5 := Tryz.isAgg5
  z5 := Tryz.sizeOf5
  v5 := Tryz.zeroValue5
  t9 := Tryz.underlying9
  a9 := Tryz.isAgg9
  z9 := Tryz.sizeOf9
  v9 := Tryz.zeroValue9
  t20 := Tryz.underlying20
  a20 := Tryz.isAgg20
  z20 := Tryz.sizeOf20
  v20 := Tryz.zeroValue20
  t21 := Tryz.underlying21
  a21 := Tryz.isAgg21
  z21 := Tryz.sizeOf21
  v21 := Tryz.zeroValue21
  t37 := Tryz.underlying179
  a37 := Tryz.isAgg179
  z37 := Tryz.sizeOf179
  v37 := Tryz.zeroValue179
  t46 := Tryz.underlying166
  a46 := Tryz.isAgg166
  z46 := Tryz.sizeOf166
  v46 := Tryz.zeroValue166
  t51 := Tryz.underlying198
  a51 := Tryz.isAgg198
  z51 := Tryz.sizeOf198
  v51 := Tryz.zeroValue198
  t53 := Tryz.underlying163
  a53 := Tryz.isAgg163
  z53 := Tryz.sizeOf163
  v53 := Tryz.zeroValue163
  t75 := Tryz.underlying191
  a75 := Tryz.isAgg191
  z75 := Tryz.sizeOf191
  v75 := Tryz.zeroValue191
  t85 := Tryz.underlying192
  a85 := Tryz.isAgg192
  z85 := Tryz.sizeOf192
  v85 := Tryz.zeroValue192
  t127 := Tryz.underlying213
  a127 := Tryz.isAgg213
  z127 := Tryz.sizeOf213
  v127 := Tryz.zeroValue213
  t143 := Tryz.underlying214
  a143 := Tryz.isAgg214
  z143 := Tryz.sizeOf214
  v143 := Tryz.zeroValue214
  t145 := Tryz.underlying216
  a145 := Tryz.isAgg216
  z145 := Tryz.sizeOf216
  v145 := Tryz.zeroValue216
  t167 := Tryz.underlying202
  a167 := Tryz.isAgg202
  z167 := Tryz.sizeOf202
  v167 := Tryz.zeroValue202
  t168 := Tryz.underlying205
  a168 := Tryz.isAgg205
  z168 := Tryz.sizeOf205
  v168 := Tryz.zeroValue205
  t171 := Tryz.underlying218
  a171 := Tryz.isAgg218
  z171 := Tryz.sizeOf218
  v171 := Tryz.zeroValue218
  t173 := Tryz.underlying221
  a173 := Tryz.isAgg221
  z173 := Tryz.sizeOf221
  v173 := Tryz.zeroValue221
  t175 := Tryz.underlying203
  a175 := Tryz.isAgg203
  z175 := Tryz.sizeOf203
  v175 := Tryz.zeroValue203
  t210 := Tryz.underlying211
  a210 := Tryz.isAgg211
  z210 := Tryz.sizeOf211
  v210 := Tryz.zeroValue211
  t212 := Tryz.underlying224
  a212 := Tryz.isAgg224
  z212 := Tryz.sizeOf224
  v212 := Tryz.zeroValue224
  t213 := Tryz.underlying225
  a213 := Tryz.isAgg225
  z213 := Tryz.sizeOf225
  t232 := Tryz.underlying229
  a232 := Tryz.isAgg229
  z232 := Tryz.sizeOf229
  v232 := Tryz.zeroValue229
  t233 := Tryz.underlying230
  a233 := Tryz.isAgg230
  z233 := Tryz.sizeOf230
  v233 := Tryz.zeroValue230
  g15 := by kernel_rfl
  g16 := by kernel_rfl
  g17 := by kernel_rfl
  g18 := by kernel_rfl
  g19 := by kernel_rfl
  t80 := Tryz.underlying231
  a80 := Tryz.isAgg231
  z80 := Tryz.sizeOf231
  v80 := Tryz.zeroValue231
  i0 := by kernel_rfl
  i2 := by kernel_rfl
  i3 := by kernel_rfl
  i4 := by kernel_rfl
  i5 := by kernel_rfl
  i9 := by kernel_rfl
  i20 := by kernel_rfl
  i21 := by kernel_rfl
  i37 := by kernel_rfl
  i46 := by kernel_rfl
  i51 := by kernel_rfl
  i53 := by kernel_rfl
  i75 := by kernel_rfl
  i80 := by kernel_rfl
  i85 := by kernel_rfl
  i127 := by kernel_rfl
  i143 := by kernel_rfl
  i145 := by kernel_rfl
  i167 := by kernel_rfl
  i168 := by kernel_rfl
  i171 := by kernel_rfl
  i173 := by kernel_rfl
  i175 := by kernel_rfl
  i210 := by kernel_rfl
  i212 := by kernel_rfl
  i232 := by kernel_rfl
  i233 := by kernel_rfl
  m15 := by kernel_rfl
  m16 := by kernel_rfl
  m17 := by kernel_rfl
  m18 := by kernel_rfl
  m19 := by kernel_rfl
  c0 := by kernel_rfl
  c2 := by kernel_rfl
  c3 := by kernel_rfl
  c4 := by kernel_rfl
  c5 := by kernel_rfl
  c9 := by kernel_rfl
  c20 := by kernel_rfl
  c21 := by kernel_rfl
  c37 := by kernel_rfl
  c46 := by kernel_rfl
  c51 := by kernel_rfl
  c53 := by kernel_rfl
  c75 := by kernel_rfl
  c80 := by kernel_rfl
  c85 := by kernel_rfl
  c127 := by kernel_rfl
  c143 := by kernel_rfl
  c145 := by kernel_rfl
  c167 := by kernel_rfl
  c168 := by kernel_rfl
  c171 := by kernel_rfl
  c173 := by kernel_rfl
  c175 := by kernel_rfl
  c210 := by kernel_rfl
  c212 := by kernel_rfl
  c213 := by kernel_rfl
  c232 := by kernel_rfl
  c233 := by kernel_rfl }
open Go.RowKit in
theorem Tryz.strconv_ParseInt_10_at64_ok (s : ByteArray) (hmax : s.size ≤ 9223372036854775806) (v : Int) (h : Lib.parseIntB 64 s.data.toList = .ok v) (w : World) :
    Calls Tryz.prog 120 #[.string s, .int .i64 10, .int .i64 64] w fun e w' => e = .returned (.tuple #[.int .i64 v, .nilIface]) ∧ (w' = w ∨ ∃ t, w' = Lib.bytesWorld w 5 t) := Any.strconv_ParseInt_10_at64_ok Tryz.laysC174 s hmax v h w
open Go.RowKit in
theorem Tryz.strconv_ParseInt_10_at64_range_var (s : ByteArray) (hlim : s.size ≤ 281474976710656) (h : Lib.parseIntB 64 s.data.toList = .range) (tp : TypeId) (p : Value) (w : World) (hvar : w.var? Tryz.prog "strconv.ErrRange" = some #[.iface tp p]) :
    Calls Tryz.prog 120 #[.string s, .int .i64 10, .int .i64 64] w fun e w' => ∃ N, e = .returned (.tuple #[.int .i64 (Lib.intSat 64 s.data.toList), .iface 205 (.pointer (some ⟨N, 0, none⟩))]) ∧ w.heap.size ≤ N ∧ w'.heap[N]? = some (.cells #[.string ⟨#[80, 97, 114, 115, 101, 73, 110, 116]⟩, .string s, .iface tp p] 211 (0, 0)) ∧ Below w.heap.size w w' := Any.strconv_ParseInt_10_at64_range_var Tryz.laysC174 s hlim h tp p w hvar
def Tryz.lays145_ren : Go.Shelf.Ren := ⟨fun | 145 => 72 | 220 => 97 | 219 => 108 | 217 => 114 | 225 => 115 | 224 => 116 | 267 => 117 | 266 => 121 | 314 => 122 | n => n, fun | 9 => 9 | 4 => 4 | 59 => 157 | 3 => 3 | 5 => 5 | 46 => 166 | 146 => 199 | 51 => 198 | n => n, fun | 1 => 3 | n => n⟩
theorem Tryz.lays145 : Go.Proofs.Lays.n145 Tryz.prog Tryz.lays145_ren := {
  mixed := by kernel_rfl
  f145 := Tryz.func72.trans (congrArg some (by kernel_rfl))
  f217 := Tryz.func114.trans (congrArg some (by kernel_rfl))
  f219 := Tryz.func108.trans (congrArg some (by kernel_rfl))
  f220 := Tryz.func97.trans (congrArg some (by kernel_rfl))
  f224 := Tryz.func116.trans (congrArg some (by kernel_rfl))
  f225 := Tryz.func115.trans (congrArg some (by kernel_rfl))
  f266 := Tryz.func121.trans (congrArg some (by kernel_rfl))
  f267 := Tryz.func117.trans (congrArg some (by kernel_rfl))
  f314 := Tryz.func122.trans (congrArg some (by kernel_rfl))
  t3 := Tryz.underlying3
  a3 := Tryz.isAgg3
  z3 := Tryz.sizeOf3
  v3 := Tryz.zeroValue3
  t4 := Tryz.underlying4
  a4 := Tryz.isAgg4
  z4 := Tryz.sizeOf4
  v4 := Tryz.zeroValue4
  t5 := Tryz.underlying5
  a5 := Tryz.isAgg5
  z5 := Tryz.sizeOf5
  v5 := Tryz.zeroValue5
  t9 := Tryz.underlying9
  a9 := Tryz.isAgg9
  z9 := Tryz.sizeOf9
  v9 := Tryz.zeroValue9
  t46 := Tryz.underlying166
  a46 := Tryz.isAgg166
  z46 := Tryz.sizeOf166
  v46 := Tryz.zeroValue166
  t51 := Tryz.underlying198
  a51 := Tryz.isAgg198
  z51 := Tryz.sizeOf198
  v51 := Tryz.zeroValue198
  t59 := Tryz.underlying157
  a59 := Tryz.isAgg157
  z59 := Tryz.sizeOf157
  v59 := Tryz.zeroValue157
  t146 := Tryz.underlying199
  a146 := Tryz.isAgg199
  z146 := Tryz.sizeOf199
  v146 := Tryz.zeroValue199
  g1 := by kernel_rfl }
open Go.RowKit Go.Lib in
theorem Tryz.strings_Cut (s sep : ByteArray) (m : Int) (w : World) (hs : s.size < 4294967281) (hm : w.cell? ⟨3, 0, none⟩ = some (.int .i64 m)) :
    Calls Tryz.prog 72 #[.string s, .string sep] w fun e w' => e = .returned (.tuple #[.string ⟨(Lib.cut s.data.toList sep.data.toList).1.toArray⟩, .string ⟨(Lib.cut s.data.toList sep.data.toList).2.1.toArray⟩, .bool (Lib.cut s.data.toList sep.data.toList).2.2]) ∧ ∃ n, w' = w.drewN n := Any.strings_Cut Tryz.lays145 s sep m w hs hm
def Tryz.lays146_ren : Go.Shelf.Ren := ⟨fun | 146 => 44 | 221 => 71 | 268 => 94 | 138 => 95 | 143 => 96 | 195 => 105 | 197 => 106 | 218 => 107 | 219 => 108 | 260 => 113 | 217 => 114 | 225 => 115 | 224 => 116 | 267 => 117 | 266 => 121 | 314 => 122 | n => n, fun | 9 => 9 | 31 => 119 | 3 => 3 | 4 => 4 | 0 => 0 | 105 => 181 | 21 => 21 | 5 => 5 | 46 => 166 | 119 => 194 | 139 => 197 | 138 => 196 | 146 => 199 | 51 => 198 | n => n, fun | 1 => 3 | 3 => 4 | 4 => 5 | n => n⟩
theorem Tryz.lays146 : Go.Proofs.Lays.n146 Tryz.prog Tryz.lays146_ren := {
  mixed := by kernel_rfl
  f138 := Tryz.func95.trans (congrArg some (by kernel_rfl))
  f143 := Tryz.func96.trans (congrArg some (by kernel_rfl))
  f146 := Tryz.func44.trans (congrArg some (by kernel_rfl))
  f195 := Tryz.func105.trans (congrArg some (by kernel_rfl))
  f197 := Tryz.func106.trans (congrArg some (by kernel_rfl))
  f217 := Tryz.func114.trans (congrArg some (by kernel_rfl))
  f218 := Tryz.func107.trans (congrArg some (by kernel_rfl))
  f219 := Tryz.func108.trans (congrArg some (by kernel_rfl))
  f221 := Tryz.func71.trans (congrArg some (by kernel_rfl))
  f224 := Tryz.func116.trans (congrArg some (by kernel_rfl))
  f225 := Tryz.func115.trans (congrArg some (by kernel_rfl))
  f260 := Tryz.func113.trans (congrArg some (by kernel_rfl))
  f266 := Tryz.func121.trans (congrArg some (by kernel_rfl))
  f267 := Tryz.func117.trans (congrArg some (by kernel_rfl))
  f268 := Tryz.func94.trans (congrArg some (by kernel_rfl))
  f314 := Tryz.func122.trans (congrArg some (by kernel_rfl))
  t0 := Tryz.underlying0
  a0 := Tryz.isAgg0
  z0 := Tryz.sizeOf0
  v0 := Tryz.zeroValue0
  t3 := Tryz.underlying3
  a3 := Tryz.isAgg3
  z3 := Tryz.sizeOf3
  v3 := Tryz.zeroValue3
  t4 := Tryz.underlying4
  a4 := Tryz.isAgg4
  z4 := Tryz.sizeOf4
  v4 := Tryz.zeroValue4
  t5 := Tryz.underlying5
  a5 := Tryz.isAgg5
  z5 := Tryz.sizeOf5
  v5 := Tryz.zeroValue5
  t9 := Tryz.underlying9
  a9 := Tryz.isAgg9
  z9 := Tryz.sizeOf9
  v9 := Tryz.zeroValue9
  t21 := Tryz.underlying21
  a21 := Tryz.isAgg21
  z21 := Tryz.sizeOf21
  v21 := Tryz.zeroValue21
  t31 := Tryz.underlying119
  a31 := Tryz.isAgg119
  z31 := Tryz.sizeOf119
  v31 := Tryz.zeroValue119
  t46 := Tryz.underlying166
  a46 := Tryz.isAgg166
  z46 := Tryz.sizeOf166
  v46 := Tryz.zeroValue166
  t51 := Tryz.underlying198
  a51 := Tryz.isAgg198
  z51 := Tryz.sizeOf198
  v51 := Tryz.zeroValue198
  t105 := Tryz.underlying181
  a105 := Tryz.isAgg181
  z105 := Tryz.sizeOf181
  v105 := Tryz.zeroValue181
  t119 := Tryz.underlying194
  a119 := Tryz.isAgg194
  z119 := Tryz.sizeOf194
  t138 := Tryz.underlying196
  a138 := Tryz.isAgg196
  z138 := Tryz.sizeOf196
  v138 := Tryz.zeroValue196
  t139 := Tryz.underlying197
  a139 := Tryz.isAgg197
  z139 := Tryz.sizeOf197
  v139 := Tryz.zeroValue197
  t146 := Tryz.underlying199
  a146 := Tryz.isAgg199
  z146 := Tryz.sizeOf199
  v146 := Tryz.zeroValue199
  g1 := by kernel_rfl
  g3 := by kernel_rfl
  g4 := by kernel_rfl }
open Go.RowKit Go.Lib in
theorem Tryz.strings_Split (s sep : ByteArray) (m : Int) (w : World) (hs : s.size < 4294967281) (hm : w.cell? ⟨3, 0, none⟩ = some (.int .i64 m)) (h1 : 1 ≤ sep.size) :
    Calls Tryz.prog 44 #[.string s, .string sep] w fun e w' =>
      e = .returned (.slice (some ⟨w.heap.size, 0, none⟩) (Lib.countB s sep + 1) (Lib.countB s sep + 1)) ∧ w' = w.alloc (.cells ((Lib.splitB sep 0 (Lib.countB s sep) s).map Value.string).toArray 9) := Any.strings_Split Tryz.lays146 (by kernel_rfl) s sep m w hs hm h1
end Go.Proofs

