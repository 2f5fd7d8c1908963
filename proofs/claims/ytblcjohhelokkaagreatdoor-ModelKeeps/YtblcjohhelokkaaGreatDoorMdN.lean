import Derived.Test.YtblcjohhelokkaaGreatDoorMdM
import Derived.Test.YtblcjohhelokkaaGreatDoorMdL
namespace Go.Proofs.YtblcjohhelokkaaGreatDoor
open Go.RowKit
attribute [local go_sem] Oper.semAt_some run_store_nf run_store_f
theorem run_fine {w : World} {a ao ag : Option Addr} {cap co cg : Nat} {l : List Ins} {os : List Int} {gs : List (Bool × Int)} (hT : LT w) (hl : ISL w a l) (hO : NUM w ao os) (hG : GVN w ag gs) (hc : (chk l).1 = 0) (h16 : os.length ≤ 16) (h40 : gs.length ≤ 4096) (f : Nat) (hf : f ≤ 10000) {F : Rs × Nat} (hF : gor l os gs f 0 rs0 = F) {L : List Int} (hL : lft os F.1 os.length = L) : Calls Tryz.prog 10 #[.slice a l.length cap, .slice ao os.length co, .slice ag gs.length cg, .int .i64 (f : Int)] w fun e w' => ∃ b, e = .returned (.tuple #[.agg #[.int .i64 F.1.oc, .int .i64 F.1.rs, .slice (some ⟨b, 0, none⟩) os.length os.length, .int .i64 (F.2 : Int)], .int .i64 0]) ∧ CL w' b (nvs L) ∧ Keeps (fun _ => False) w w' := by
  have hl64 := (chk_ok hc).1
  refine (run_any (cap := cap) (co := co) (cg := cg) hT hl (by omega) hO hG (f : Int)).mono ?_
  rintro e w' ⟨v, x, rfl, hP, k⟩
  have hr : rfs os.length gs.length (f : Int) = 0 := by
    unfold rfs
    rw [if_neg (by omega), if_neg (by omega), if_neg (by omega)]
  rcases hP with ⟨h0, _⟩ | ⟨_, h1, _⟩ | ⟨_, _, rfl, b, _, rfl, hC, _⟩
  · exact (h0 hc).elim
  · exact (h1 hr).elim
  · rw [Int.toNat_natCast, hF] at hC ⊢
    rw [hL] at hC
    exact ⟨b, rfl, hC, k⟩
theorem run_bad {w : World} {a ao ag : Option Addr} {cap co cg : Nat} {l : List Ins} {os : List Int} {gs : List (Bool × Int)} (hT : LT w) (hl : ISL w a l) (hlen : l.length ≤ 9223372036854775807) (hO : NUM w ao os) (hG : GVN w ag gs) (fuel : Int) (hb : ¬ ((chk l).1 = 0 ∧ rfs os.length gs.length fuel = 0)) : Calls Tryz.prog 10 #[.slice a l.length cap, .slice ao os.length co, .slice ag gs.length cg, .int .i64 fuel] w fun e w' => ∃ x, e = .returned (.tuple #[zA, .int .i64 x]) ∧ ¬ x = 0 ∧ Keeps (fun _ => False) w w' := by
  refine (run_any (cap := cap) (co := co) (cg := cg) hT hl hlen hO hG fuel).mono ?_
  rintro e w' ⟨v, x, rfl, hP, k⟩
  rcases hP with ⟨h0, rfl, rfl⟩ | ⟨_, h1, rfl, rfl⟩ | ⟨h0, h1, _⟩
  · exact ⟨_, rfl, h0, k⟩
  · exact ⟨_, rfl, h1, k⟩
  · exact (hb ⟨h0, h1⟩).elim
set_option maxHeartbeats 1600000 in
set_option maxRecDepth 1000000 in
theorem fuel_any {w : World} {a ao ag : Option Addr} {cap co cg : Nat} {l : List Ins} {os : List Int} {gs : List (Bool × Int)} (hT : PT w) (hNT : NT w) (hl : ISL w a l) (hlen : l.length * 88 ≤ 140737488355328) (hO : NUM w ao os) (hG : GVN w ag gs) (fuel : Int) (_hr : -9223372036854775808 ≤ fuel ∧ fuel ≤ 9223372036854775807) : Calls Tryz.prog 5 #[.slice a l.length cap, .slice ao os.length co, .slice ag gs.length cg, .int .i64 fuel] w fun e w' => e = .returned (.bool true) ∧ Below w.heap.size w w' := by
  have hH := head11 hT hNT
  have hLT := hT.lt
  clear hT hNT
  by_cases hb : (chk l).1 = 0 ∧ rfs os.length gs.length fuel = 0
  · obtain ⟨hc, hr⟩ := hb
    obtain ⟨h16, h40, hf0, hf1⟩ := rfs_ok hr
    obtain ⟨f, rfl⟩ : ∃ f : Nat, fuel = (f : Int) := ⟨fuel.toNat, by omega⟩
    clear hr _hr
    obtain ⟨F, hF⟩ : ∃ F, gor l os gs f 0 rs0 = F := ⟨_, rfl⟩
    have gc := gor_count (l := l) (os := os) (gs := gs) f 0 rs0
    have gr := gor_rs (l := l) (os := os) (gs := gs) f 0 rs0 (.inr rfl)
    have gm := gor_mono (l := l) (os := os) (gs := gs) f 0 rs0
    have gb := gor_below (l := l) (os := os) (gs := gs) f 0 rs0 rfl
    rw [hF] at gc gr gm gb
    have lno := lft_no os F.1 os.length
    have hRF := fun W (k : Keeps (fun _ => False) w W) a' cap' (hI : ISL W a' l) (g : Nat) (hg : g ≤ 10000) (G : Rs × Nat) (hG' : gor l os gs g 0 rs0 = G) (L : List Int) (hL : lft os G.1 os.length = L) => run_fine (cap := cap') (co := co) (cg := cg) (hLT.keep k) hI (hO.keep k) (hG.keep k) hc h16 h40 g hg hG' hL
    have hNS := fun W (k : Keeps (fun _ => False) w W) => hO.keep k
    have hPr := fun W (k : Keeps (fun _ => False) w W) => prog_any (cap := cap) (hl.keep k) hlen
    clear hLT hO hG hl
    obtain ⟨⟨rg, st, nm, rd, pl, oc, rs⟩, c⟩ := F
    simp only at gc gr gm gb lno
    have b1 : decide ((f : Int) < 0) = false := decide_eq_false (by omega)
    have b2 : decide ((10000 : Int) < (f : Int)) = false := decide_eq_false (by omega)
    have b3 : decide ((c : Int) < 0) = false := decide_eq_false (by omega)
    have b4 : decide ((f : Int) < (c : Int)) = false := decide_eq_false (by omega)
    have L16 : (lft os ⟨rg, st, nm, rd, pl, oc, rs⟩ os.length).length = os.length := lft_len _ _ _
    have n3 : ¬ (f : Int) < 0 := by omega
    by_cases h0 : oc = 0
    · subst h0
      have ec : c = f := by have := gc.2.2.1 rfl; omega
      subst ec
      have er : rs = 0 := gr.resolve_left (by decide)
      subst er
      have eo := lno (by decide)
      clear gc gr gm gb lno
      obtain ⟨L, hLx⟩ : ∃ L, os = L := ⟨_, rfl⟩
      subst hLx
      have hLe := eo
      generalize hN : os.length = N at *
      go_enter Tryz.func5, Tryz.ntmps5
      go_wp2_with (first | (go_at_call 9; refine hH.mono ?_; clear hH; rintro e w1 ⟨rfl, k1⟩) | (go_at_call 13; refine (hPr w1 k1).mono ?_; clear hPr; rintro e w2 ⟨v, rfl, hown, k2⟩; obtain ⟨a', cap', rfl, hI⟩ := isl_of_owns hown rfl; clear hown; have K2 := k1.trans k2) | (go_at_call 10; refine (hRF w2 K2 a' cap' hI c (by omega) _ hF os hLe).mono ?_; clear hRF; rintro e w3 ⟨b3, rfl, C3, k3⟩; have K3 := K2.trans k3; have s3 := C3; obtain ⟨W3, hW3⟩ : ∃ W3, W3 = w3.alloc (.cells #[.int .i64 0, .int .i64 0, .slice (some ⟨b3, 0, none⟩) N N, .int .i64 (c : Int)] 36) := ⟨_, rfl⟩; have HW3 : Hid (_ = _) := hW3; clear hW3; have KA : Keeps (fun _ => False) w3 W3 := (by rw [HW3.out]; exact (Keeps.refl _ w3).alloc _); have CA : CL W3 w3.heap.size [.int .i64 0, .int .i64 0, .slice (some ⟨b3, 0, none⟩) N N, .int .i64 (c : Int)] := (by rw [HW3.out]; exact CL.made w3 _ _); have x0 := CA.c 0 _ rfl; have x1 := CA.c 1 _ rfl; have x2 := CA.c 2 _ rfl; have x3 := CA.c 3 _ rfl) | (go_at_call 11; rw [← HW3.out]; refine (num11 _ _).mono ?_; rintro e wn ⟨rfl, en⟩; subst wn; have hsm := sameNums_ok (xs := os) N co ((NUM.ofCL C3).keep KA) (hNS W3 (K3.trans KA)) (by omega); rw [hN] at hsm) | (go_at_call 12; refine hsm.mono ?_; clear hsm; rintro e w4 ⟨rfl, k4⟩))
      go_ret
      exact ⟨rfl, ((K3.trans KA).trans k4).below (Nat.le_refl _) (fun _ _ e => e)⟩
    · have h0b : (oc == 0) = false := by simpa using h0
      have hc1 := gc.2.2.2 rfl h0
      obtain ⟨m, hm⟩ : ∃ m : Nat, c = m + 1 := ⟨c - 1, by omega⟩
      have hF2 := gm h0 c (by omega)
      have hF3 := gm h0 10000 (by omega)
      obtain ⟨g1, g2⟩ := gb h0 m (by omega)
      obtain ⟨G, hGe⟩ : ∃ G, gor l os gs m 0 rs0 = G := ⟨_, rfl⟩
      rw [hGe] at g1 g2
      obtain ⟨⟨rg', st', nm', rd', pl', oc', rs'⟩, c'⟩ := G
      simp only at g1 g2
      subst g1
      have g3 : c' = m := by omega
      clear g2
      subst g3
      have hw : IntKind.i64.wrap ((c : Int) - 1) = (c' : Int) := by rw [IntKind.wrap_i64]; omega
      have b5 : decide ((c : Int) < 1) = false := decide_eq_false (by omega)
      have hm10 : c' ≤ 10000 := by omega
      have hc10 : c ≤ 10000 := by omega
      have b6 : decide (f < c) = false := decide_eq_false (by omega)
      have b7 : ¬ f < c := by omega
      have b8 : ¬ c < 1 := by omega
      have b9 : decide (c < 1) = false := decide_eq_false (by omega)
      obtain ⟨L, hLe⟩ : ∃ L, lft os ⟨rg, st, nm, rd, pl, oc, rs⟩ os.length = L := ⟨_, rfl⟩
      rw [hLe] at L16
      have hR3 := fun W (k : Keeps (fun _ => False) w W) a' cap' (hI : ISL W a' l) => hRF W k a' cap' hI 10000 (Nat.le_refl _) _ hF3 L hLe
      rw [show ((10000 : Nat) : Int) = 10000 from rfl] at hR3
      clear gc gr gm gb lno hm hF3
      generalize hN : os.length = N at *
      go_enter Tryz.func5, Tryz.ntmps5
      go_wp2_with (first | (go_at_call 9; refine hH.mono ?_; clear hH; rintro e w1 ⟨rfl, k1⟩) | (go_at_call 13; refine (hPr w1 k1).mono ?_; clear hPr; rintro e w2 ⟨v, rfl, hown, k2⟩; obtain ⟨a', cap', rfl, hI⟩ := isl_of_owns hown rfl; clear hown; have K2 := k1.trans k2; clear k1 k2) | (go_at_call 10; refine (hRF w2 K2 a' cap' hI f (by omega) _ hF L hLe).mono ?_; clear hF; rintro e w3 ⟨b3, rfl, C3, k3⟩; obtain ⟨W3, hW3⟩ : ∃ W3, W3 = w3.alloc (.cells #[.int .i64 oc, .int .i64 rs, .slice (some ⟨b3, 0, none⟩) N N, .int .i64 (c : Int)] 36) := ⟨_, rfl⟩; have HW3 : Hid (_ = _) := hW3; clear hW3; have KA3 : Keeps (fun _ => False) w3 W3 := (by rw [HW3.out]; exact (Keeps.refl _ w3).alloc _); have CA3 : CL W3 w3.heap.size [.int .i64 oc, .int .i64 rs, .slice (some ⟨b3, 0, none⟩) N N, .int .i64 (c : Int)] := (by rw [HW3.out]; exact CL.made w3 _ _); have x0 := CA3.c 0 _ rfl; have x1 := CA3.c 1 _ rfl; have x2 := CA3.c 2 _ rfl; have x3 := CA3.c 3 _ rfl; have K3 := (K2.trans k3).trans KA3; have hI3 := hI.keep (k3.trans KA3); have N3 := (NUM.ofCL C3).keep KA3; clear K2 k3 KA3 C3 hI) | (go_at_call 10; refine (hRF W3 K3 a' cap' hI3 c hc10 _ hF2 L hLe).mono ?_; clear hF2; rintro e w4 ⟨b4, rfl, C4, k4⟩; obtain ⟨W4, hW4⟩ : ∃ W4, W4 = w4.alloc (.cells #[.int .i64 oc, .int .i64 rs, .slice (some ⟨b4, 0, none⟩) N N, .int .i64 (c : Int)] 36) := ⟨_, rfl⟩; have HW4 : Hid (_ = _) := hW4; clear hW4; have KA4 : Keeps (fun _ => False) w4 W4 := (by rw [HW4.out]; exact (Keeps.refl _ w4).alloc _); have CA4 : CL W4 w4.heap.size [.int .i64 oc, .int .i64 rs, .slice (some ⟨b4, 0, none⟩) N N, .int .i64 (c : Int)] := (by rw [HW4.out]; exact CL.made w4 _ _); have k4 := k4.trans KA4; have K4 := K3.trans k4; have hI4 := hI3.keep k4; have N4 := (NUM.ofCL C4).keep KA4; have A4 := CA3.keep (by show 0 < 4; decide) k4 (fun e => e); clear K3 C4 hI3) | (go_at_call 10; rw [← HW4.out]; refine (hR3 W4 K4 a' cap' hI4).mono ?_; clear hR3; rintro e w5 ⟨b5, rfl, C5, k5⟩; obtain ⟨W5, hW5⟩ : ∃ W5, W5 = w5.alloc (.cells #[.int .i64 oc, .int .i64 rs, .slice (some ⟨b5, 0, none⟩) N N, .int .i64 (c : Int)] 36) := ⟨_, rfl⟩; have HW5 : Hid (_ = _) := hW5; clear hW5; have KA5 : Keeps (fun _ => False) w5 W5 := (by rw [HW5.out]; exact (Keeps.refl _ w5).alloc _); have CA5 : CL W5 w5.heap.size [.int .i64 oc, .int .i64 rs, .slice (some ⟨b5, 0, none⟩) N N, .int .i64 (c : Int)] := (by rw [HW5.out]; exact CL.made w5 _ _); have k5 := k5.trans KA5; have K5 := K4.trans k5; have hI5 := hI4.keep k5; have N5 := (NUM.ofCL C5).keep KA5; have A5 := A4.keep (by show 0 < 4; decide) k5 (fun e => e); have B5 := CA4.keep (by show 0 < 4; decide) k5 (fun e => e); have M3 := N3.keep (k4.trans k5); have M4 := N4.keep k5; have hs1 := same_ok (xs := L) N N oc rs (c : Int) M3 M4 (by omega); rw [L16] at hs1; have y0 := A5.c 0 _ rfl; have y1 := A5.c 1 _ rfl; have y2 := A5.c 2 _ rfl; have y3 := A5.c 3 _ rfl; have z0 := B5.c 0 _ rfl; have z1 := B5.c 1 _ rfl; have z2 := B5.c 2 _ rfl; have z3 := B5.c 3 _ rfl; clear K4 C5 hI4) | (go_at_call 14; refine (show Calls Tryz.prog 14 _ W5 _ from hs1).mono ?_; clear hs1; rintro e w6 ⟨rfl, k6⟩; have A6 := A5.keep (by show 0 < 4; decide) k6 (fun e => e); have C6 := CA5.keep (by show 0 < 4; decide) k6 (fun e => e); have p0 := A6.c 0 _ rfl; have p1 := A6.c 1 _ rfl; have p2 := A6.c 2 _ rfl; have p3 := A6.c 3 _ rfl; have q0 := C6.c 0 _ rfl; have q1 := C6.c 1 _ rfl; have q2 := C6.c 2 _ rfl; have q3 := C6.c 3 _ rfl; have hs2 := same_ok (xs := L) N N oc rs (c : Int) (M3.keep k6) (N5.keep k6) (by omega); rw [L16] at hs2) | (go_at_call 14; refine hs2.mono ?_; clear hs2; rintro e w7 ⟨rfl, k7⟩; have A7 := A6.keep (by show 0 < 4; decide) k7 (fun e => e); have r3 := A7.c 3 _ rfl; have K7 := (K5.trans k6).trans k7; have hI7 := hI5.keep (k6.trans k7)) | (go_at_call 10; refine (hRF w7 K7 a' cap' hI7 c' hm10 _ hGe _ rfl).mono ?_; clear hRF hGe; rintro e w8 ⟨b8, rfl, C8, k8⟩; obtain ⟨W8, hW8⟩ : ∃ W8, W8 = w8.alloc (.cells #[.int .i64 0, .int .i64 rs', .slice (some ⟨b8, 0, none⟩) N N, .int .i64 (c' : Int)] 36) := ⟨_, rfl⟩; have HW8 : Hid (_ = _) := hW8; clear hW8; have KA8 : Keeps (fun _ => False) w8 W8 := (by rw [HW8.out]; exact (Keeps.refl _ w8).alloc _); have CA8 : CL W8 w8.heap.size [.int .i64 0, .int .i64 rs', .slice (some ⟨b8, 0, none⟩) N N, .int .i64 (c' : Int)] := (by rw [HW8.out]; exact CL.made w8 _ _); have K8 := (K7.trans k8).trans KA8; have A8 := A7.keep (by show 0 < 4; decide) (k8.trans KA8) (fun e => e); have u3 := A8.c 3 _ rfl; have v0 := CA8.c 0 _ rfl; have v1 := CA8.c 1 _ rfl; have v2 := CA8.c 2 _ rfl; have v3 := CA8.c 3 _ rfl) | (go_at_call 11; rw [← HW3.out]; clear HW3; refine (num11 _ _).mono ?_; rintro e wn ⟨rfl, en⟩; subst wn) | (go_at_call 11; rw [← HW5.out]; clear HW5; refine (num11 _ _).mono ?_; rintro e wn ⟨rfl, en⟩; subst wn) | (go_at_call 11; rw [← HW8.out]; clear HW8; refine (num11 _ _).mono ?_; rintro e wn ⟨rfl, en⟩; subst wn) | (go_at_call 11; refine (num11 _ _).mono ?_; rintro e wn ⟨rfl, en⟩; subst wn))
      go_ret
      exact ⟨rfl, K8.below (Nat.le_refl _) (fun _ _ e => e)⟩
  · have hRB := fun W (k : Keeps (fun _ => False) w W) a' cap' (hI : ISL W a' l) => run_bad (cap := cap') (co := co) (cg := cg) (hLT.keep k) hI (by omega) (hO.keep k) (hG.keep k) fuel hb
    have hPr := fun W (k : Keeps (fun _ => False) w W) => prog_any (cap := cap) (hl.keep k) hlen
    clear hLT hO hG hl hb _hr
    generalize os.length = N at *
    generalize gs.length = M at *
    go_enter Tryz.func5, Tryz.ntmps5
    go_wp2_with (first | (go_at_call 9; refine hH.mono ?_; clear hH; rintro e w1 ⟨rfl, k1⟩) | (go_at_call 13; refine (hPr w1 k1).mono ?_; clear hPr; rintro e w2 ⟨v, rfl, hown, k2⟩; obtain ⟨a', cap', rfl, hI⟩ := isl_of_owns hown rfl; clear hown; have K2 := k1.trans k2) | (go_at_call 10; refine (hRB w2 K2 a' cap' hI).mono ?_; clear hRB; rintro e w3 ⟨x, rfl, hx, k3⟩; unfold zA; have hxb : (x != 0) = true := (by simpa using hx)) | (go_at_call 11; refine (num11 _ _).mono ?_; rintro e wn ⟨rfl, en⟩; subst wn))
    go_ret
    exact ⟨rfl, ((K2.trans k3).alloc _).below (Nat.le_refl _) (fun _ _ e => e)⟩
end Go.Proofs.YtblcjohhelokkaaGreatDoor
