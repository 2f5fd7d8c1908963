import Derived.Test.YtblcjohhelokkabGreatDoorMdI
import Derived.Laws.ResultCell
namespace Go.Proofs.YtblcjohhelokkabGreatDoor
open Go.RowKit
attribute [local go_sem] Oper.semAt_some run_store_nf run_store_f
/-- What may not stand beside a program. -/
def rfs (no ng : Nat) (fuel : Int) : Int := if 16 < no then 110 else if 4096 < ng then 111 else if fuel < 0 ∨ 10000 < fuel then 112 else 0
set_option maxHeartbeats 800000 in
set_option maxRecDepth 1000000 in
theorem refused_any (w : World) (ao ag : Option Addr) (no co ng cg : Nat) (fuel : Int) : Calls Tryz.prog 14 #[.slice ao no co, .slice ag ng cg, .int .i64 fuel] w fun e w' => e = .returned (.int .i64 (rfs no ng fuel)) ∧ w' = w := by
  unfold rfs
  by_cases h1 : 16 < no
  · rw [if_pos h1]
    have b1 : decide ((16 : Int) < (no : Int)) = true := by simp; omega
    go_enter Tryz.func14, Tryz.ntmps14
    go_wp2
    go_ret
    exact ⟨rfl, rfl⟩
  · rw [if_neg h1]
    have b1 : decide ((16 : Int) < (no : Int)) = false := by simp; omega
    by_cases h2 : 4096 < ng
    · rw [if_pos h2]
      have b2 : decide ((4096 : Int) < (ng : Int)) = true := by simp; omega
      go_enter Tryz.func14, Tryz.ntmps14
      go_wp2
      go_ret
      exact ⟨rfl, rfl⟩
    · rw [if_neg h2]
      have b2 : decide ((4096 : Int) < (ng : Int)) = false := by simp; omega
      by_cases h3 : fuel < 0
      · rw [if_pos (.inl h3)]
        have b3 : decide (fuel < 0) = true := by simp; omega
        go_enter Tryz.func14, Tryz.ntmps14
        go_wp2
        go_ret
        exact ⟨rfl, rfl⟩
      · have b3 : decide (fuel < 0) = false := by simp; omega
        by_cases h4 : 10000 < fuel
        · rw [if_pos (.inr h4)]
          have b4 : decide (10000 < fuel) = true := by simp; omega
          go_enter Tryz.func14, Tryz.ntmps14
          go_wp2
          go_ret
          exact ⟨rfl, rfl⟩
        · rw [if_neg (by omega)]
          have b4 : decide (10000 < fuel) = false := by simp; omega
          go_enter Tryz.func14, Tryz.ntmps14
          go_wp2
          go_ret
          exact ⟨rfl, rfl⟩
theorem rfs_ok {no ng : Nat} {fuel : Int} (h : rfs no ng fuel = 0) : no ≤ 16 ∧ ng ≤ 4096 ∧ 0 ≤ fuel ∧ fuel ≤ 10000 := by
  unfold rfs at h
  split at h
  · cases h
  · split at h
    · cases h
    · split at h
      · cases h
      · omega
/-- The answer of a run that may not be. -/
def zA : Value := .agg #[.int .i64 0, .int .i64 0, .slice none 0 0, .int .i64 0]
/-- What Run answers. -/
def RunP (w w' : World) (l : List Ins) (os : List Int) (gs : List (Bool × Int)) (fuel : Int) (v : Value) (x : Int) : Prop :=
  (¬ (chk l).1 = 0 ∧ x = (chk l).1 ∧ v = zA) ∨ ((chk l).1 = 0 ∧ ¬ rfs os.length gs.length fuel = 0 ∧ x = rfs os.length gs.length fuel ∧ v = zA) ∨ ((chk l).1 = 0 ∧ rfs os.length gs.length fuel = 0 ∧ x = 0 ∧ AN w w' os (gor l os gs fuel.toNat 0 rs0) v)
theorem NUM.keep {w w' : World} {a : Option Addr} {os : List Int} (h : NUM w a os) (k : Keeps (fun _ => False) w w') : NUM w' a os := fun i x hx => by
  obtain ⟨b, off, e, hc⟩ := h i x hx
  exact ⟨b, off, e, k.cell hc (fun e => e)⟩
theorem GVN.keep {w w' : World} {a : Option Addr} {gs : List (Bool × Int)} (h : GVN w a gs) (k : Keeps (fun _ => False) w w') : GVN w' a gs := fun i x hx => by
  obtain ⟨b, off, e, hc, hd⟩ := h i x hx
  exact ⟨b, off, e, k.cell hc (fun e => e), k.cell hd (fun e => e)⟩
set_option maxHeartbeats 1000000 in
set_option maxRecDepth 1000000 in
theorem run_any {w : World} {a ao ag : Option Addr} {cap co cg : Nat} {l : List Ins} {os : List Int} {gs : List (Bool × Int)} (hT : LT w) (hl : ISL w a l) (hlen : l.length ≤ 9223372036854775807) (hO : NUM w ao os) (hG : GVN w ag gs) (fuel : Int) : Calls Tryz.prog 8 #[.slice a l.length cap, .slice ao os.length co, .slice ag gs.length cg, .int .i64 fuel] w fun e w' => ∃ v x, e = .returned (.tuple #[v, .int .i64 x]) ∧ RunP w w' l os gs fuel v x ∧ Keeps (fun _ => False) w w' := by
  obtain ⟨W1, hW1⟩ : ∃ W1, W1 = w.alloc (.cells #[.int .i64 0, .int .i64 0, .slice none 0 0, .int .i64 0] 33) := ⟨_, rfl⟩
  have K1 : Keeps (fun _ => False) w W1 := by rw [hW1]; exact (Keeps.refl _ w).alloc _
  have C1 : CL W1 w.heap.size [.int .i64 0, .int .i64 0, .slice none 0 0, .int .i64 0] := by rw [hW1]; exact CL.made w _ _
  have s1 : W1.heap.size = w.heap.size + 1 := by rw [hW1]; simp
  have HW1 : Hid (_ = _) := hW1
  clear hW1
  have hC := check_any (cap := cap) (hT.keep K1) (hl.keep K1) hlen
  have hok := chk_ok (l := l)
  have hl1 := hl.keep K1
  have hO1 := hO.keep K1
  have hG1 := hG.keep K1
  unfold RunP
  generalize (chk l).2 = ci at *
  generalize (chk l).1 = ce at *
  clear hT hl hO hG
  by_cases h0 : ce = 0
  · subst h0
    obtain ⟨h64, hcan⟩ := hok rfl
    clear hok
    have hR := fun W => refused_any W ao ag os.length co gs.length cg fuel
    have hrf := rfs_ok (no := os.length) (ng := gs.length) (fuel := fuel)
    generalize rfs os.length gs.length fuel = x at *
    by_cases hx : x = 0
    · subst hx
      obtain ⟨h16, _, hf0, hf1⟩ := hrf rfl
      clear hrf
      obtain ⟨f, rfl⟩ : ∃ f : Nat, fuel = (f : Int) := ⟨fuel.toNat, by omega⟩
      rw [Int.toNat_natCast]
      go_enter Tryz.func8, Tryz.ntmps8
      go_wp2_with (first | (go_at_call 12; rw [← HW1.out]; refine hC.mono ?_; clear hC; rintro e w1 ⟨rfl, k1⟩; have C2 := C1.keep (by show 0 < 4; decide) k1 (fun e => e); have hal := alone_any (cap := cap) (co := co) (cg := cg) (hl1.keep k1) h64 hcan (hO1.keep k1) (hG1.keep k1) h16 f (by omega)) | (go_at_call 14; refine (hR _).mono ?_; clear hR; rintro e w2 ⟨rfl, e2⟩; subst w2) | (go_at_call 15; refine hal.mono ?_; clear hal; rintro e w3 ⟨v, rfl, ⟨b, hb, rfl, C3, hb3⟩, k3⟩; have C4 := C2.keep (by show 0 < 4; decide) k3 (fun e => e); have y0 := C4.c 0 _ rfl; have y1 := C4.c 1 _ rfl; have y2 := C4.c 2 _ rfl; have y3 := C4.c 3 _ rfl; have x0 := C4.z 0 (by show 0 < 4; decide); have x1 := C4.z 1 (by show 1 < 4; decide); have x2 := C4.z 2 (by show 2 < 4; decide); have x3 := C4.z 3 (by show 3 < 4; decide)))
      (try simp only [Exit.inBlock, Exit.then])
      have KX := (K1.trans k1).trans k3
      have z1 := k1.size
      refine bodyPost_ret (v := .tuple #[.agg #[.int .i64 (gor l os gs f 0 rs0).1.oc, .int .i64 (gor l os gs f 0 rs0).1.rs, .slice (some ⟨b, 0, none⟩) os.length os.length, .int .i64 ((gor l os gs f 0 rs0).2 : Int)], .int .i64 0]) (by rw [results_cell_tmp rfl]; go_simp) rfl ⟨_, _, rfl, .inr (.inr ⟨trivial, trivial, rfl, ⟨b, by omega, rfl, ?_, ?_⟩⟩), ?_⟩
      · exact (((C3.other (by show w.heap.size ≠ b; omega) _).other (by show w.heap.size ≠ b; omega) _).other (by show w.heap.size ≠ b; omega) _).other (by show w.heap.size ≠ b; omega) _
      · simp; omega
      · exact (((KX.setCell (fun h => absurd h (Nat.lt_irrefl _)) _).setCell (fun h => absurd h (Nat.lt_irrefl _)) _).setCell (fun h => absurd h (Nat.lt_irrefl _)) _).setCell (fun h => absurd h (Nat.lt_irrefl _)) _
    · have hb : (x != 0) = true := by simpa using hx
      go_enter Tryz.func8, Tryz.ntmps8
      go_wp2_with (first | (go_at_call 12; rw [← HW1.out]; refine hC.mono ?_; clear hC; rintro e w1 ⟨rfl, k1⟩; have C4 := C1.keep (by show 0 < 4; decide) k1 (fun e => e); have y0 := C4.c 0 _ rfl; have y1 := C4.c 1 _ rfl; have y2 := C4.c 2 _ rfl; have y3 := C4.c 3 _ rfl; have x0 := C4.z 0 (by show 0 < 4; decide); have x1 := C4.z 1 (by show 1 < 4; decide); have x2 := C4.z 2 (by show 2 < 4; decide); have x3 := C4.z 3 (by show 3 < 4; decide)) | (go_at_call 14; refine (hR _).mono ?_; clear hR; rintro e w2 ⟨rfl, e2⟩; subst w2))
      (try simp only [Exit.inBlock, Exit.then])
      have KX := K1.trans k1
      refine bodyPost_ret (v := .tuple #[zA, .int .i64 x]) (by rw [results_cell_tmp rfl]; unfold zA; go_simp) rfl ⟨_, _, rfl, .inr (.inl ⟨trivial, hx, rfl, rfl⟩), ?_⟩
      exact (((KX.setCell (fun h => absurd h (Nat.lt_irrefl _)) _).setCell (fun h => absurd h (Nat.lt_irrefl _)) _).setCell (fun h => absurd h (Nat.lt_irrefl _)) _).setCell (fun h => absurd h (Nat.lt_irrefl _)) _
  · have hb : (ce != 0) = true := by simpa using h0
    go_enter Tryz.func8, Tryz.ntmps8
    go_wp2_with (go_at_call 12; rw [← HW1.out]; refine hC.mono ?_; clear hC; rintro e w1 ⟨rfl, k1⟩; have C4 := C1.keep (by show 0 < 4; decide) k1 (fun e => e); have y0 := C4.c 0 _ rfl; have y1 := C4.c 1 _ rfl; have y2 := C4.c 2 _ rfl; have y3 := C4.c 3 _ rfl; have x0 := C4.z 0 (by show 0 < 4; decide); have x1 := C4.z 1 (by show 1 < 4; decide); have x2 := C4.z 2 (by show 2 < 4; decide); have x3 := C4.z 3 (by show 3 < 4; decide))
    (try simp only [Exit.inBlock, Exit.then])
    have KX := K1.trans k1
    refine bodyPost_ret (v := .tuple #[zA, .int .i64 ce]) (by rw [results_cell_tmp rfl]; unfold zA; go_simp) rfl ⟨_, _, rfl, .inl ⟨h0, rfl, rfl⟩, ?_⟩
    exact (((KX.setCell (fun h => absurd h (Nat.lt_irrefl _)) _).setCell (fun h => absurd h (Nat.lt_irrefl _)) _).setCell (fun h => absurd h (Nat.lt_irrefl _)) _).setCell (fun h => absurd h (Nat.lt_irrefl _)) _
end Go.Proofs.YtblcjohhelokkabGreatDoor
