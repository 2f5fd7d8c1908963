import Derived.Test.YtblcjohhelokkabGreatDoorMdR
import Derived.Test.YtblcjohhelokkabGreatDoorMdN
namespace Go.Proofs.YtblcjohhelokkabGreatDoor
open Go.RowKit
attribute [local go_sem] Oper.semAt_some run_store_nf run_store_f
theorem owns_blk' {W : World} {base n : Nat} {a : Option Addr} {cap : Nat} {l : List Ins} (h : W.ownsRow base 52 11 (.slice a n cap) n (icl l)) : ∀ b off, a = some ⟨b, off, none⟩ → b < W.heap.size := fun b off ea => by
  rcases h.2 with ⟨h1, _⟩ | ⟨g, cap, cur, h1, h2⟩
  · injection h1 with h1 _ _
    rw [h1] at ea; cases ea
  · have hb := owns_lt' h
    injection h1 with h1 _ _
    subst h1
    injection ea with ea
    injection ea with ea _ _
    subst ea
    exact hb _ rfl
theorem NUM.take {w : World} {a : Option Addr} {os : List Int} (h : NUM w a os) (n : Nat) : NUM w a (os.take n) := fun i x hx => by
  rw [List.getElem?_take] at hx
  split at hx
  · exact h i x hx
  · cases hx
theorem GVN.take {w : World} {a : Option Addr} {os : List (Bool × Int)} (h : GVN w a os) (n : Nat) : GVN w a (os.take n) := fun i x hx => by
  rw [List.getElem?_take] at hx
  split at hx
  · exact h i x hx
  · cases hx
set_option maxHeartbeats 1600000 in
set_option maxRecDepth 1000000 in
theorem longest11 {w : World} {a ao ag : Option Addr} {cap co cg : Nat} {l : List Ins} {os : List Int} {gs : List (Bool × Int)} (hT : PT w) (hNT : NT w) (hl : ISL w a l) (hlen : l.length * 88 ≤ 140737488355328) (hO : NUM w ao os) (hoc : os.length ≤ co) (hG : GVN w ag gs) (hgc : gs.length ≤ cg) : Calls Tryz.prog 3 #[.slice a l.length cap, .slice ao os.length co, .slice ag gs.length cg] w fun e w' => e = .returned (.bool true) ∧ Below w.heap.size w w' := by
  have hH := head11 hT hNT
  have hLT := hT.lt
  clear hT hNT
  have hPr := fun W (k : Keeps (fun _ => False) w W) => prog_any (cap := cap) (hl.keep k) hlen
  have hLo := fun W (k : Keeps (fun _ => False) w W) a' cap' (hI : ISL W a' l) hA => longest_any (cap := cap') (hLT.keep k) hI hA (by omega)
  clear hl
  go_enter Tryz.func3, Tryz.ntmps3
  go_wp2_with (first | (go_at_call 4; refine hH.mono ?_; clear hH; rintro e w1 ⟨rfl, k1⟩) | (go_at_call 5; refine (hPr w1 k1).mono ?_; clear hPr; rintro e w2 ⟨v, rfl, hown, k2⟩; obtain ⟨a', cap', rfl, hI⟩ := isl_of_owns hown rfl; have hbk := owns_blk' hown; clear hown; have K2 := k1.trans k2))
  refine (hLo w2 K2 a' cap' hI hbk).mono ?_
  clear hLo
  rintro e w3 ⟨x, y, rfl, hP, k3⟩
  have K3 := K2.trans k3
  have hI3 := hI.keep k3
  clear hbk hI k1 k2 k3
  by_cases hy : y = 0
  · subst hy
    have hP2 : (chk l).1 = 0 ∧ ∃ h : Nat, Ht l.length (nx l) 0 h ∧ x = (h : Int) := by
      rcases hP with ⟨h0, _, h1⟩ | ⟨h0, ⟨h, hh, e, _⟩ | ⟨_, _, e⟩⟩
      · exact (h0 h1.symm).elim
      · exact ⟨h0, h, hh, e⟩
      · cases e
    obtain ⟨hc, h, hH0, rfl⟩ := hP2
    clear hP
    have hh64 := hH0.le
    have hl64 := (chk_ok hc).1
    obtain ⟨f, hf⟩ : ∃ f, f = h + 1 := ⟨_, rfl⟩
    have hf10 : f ≤ 10000 := by omega
    have hw : IntKind.i64.wrap ((h : Int) + 1) = (h : Int) + 1 := by rw [IntKind.wrap_i64]; omega
    by_cases h16 : 16 < os.length
    · have b1 : decide ((16 : Int) < (os.length : Int)) = true := decide_eq_true (by omega)
      have b1n : decide (16 < os.length) = true := decide_eq_true h16
      obtain ⟨bo, oo, rfl, _⟩ := hO 0 _ (List.getElem?_eq_getElem (by omega))
      have co16 : 16 ≤ co := by omega
      have hO2 := hO.take 16
      have l16 : (os.take 16).length = 16 := by rw [List.length_take]; omega
      by_cases h40 : 4096 < gs.length
      · have b2 : decide ((4096 : Int) < (gs.length : Int)) = true := decide_eq_true (by omega)
        have b2n : decide (4096 < gs.length) = true := decide_eq_true h40
        obtain ⟨bg, og, rfl, _⟩ := hG 0 _ (List.getElem?_eq_getElem (by omega))
        have cg40 : 4096 ≤ cg := by omega
        have hG2 := hG.take 4096
        have g40 : (gs.take 4096).length = 4096 := by rw [List.length_take]; omega
        clear hO hG
        have hnz := gor_ht (os := os.take 16) (gs := gs.take 4096) (chk_ok hc).2 hH0 0 rs0 rfl rfl
        rw [← hf] at hnz
        obtain ⟨F, hF⟩ : ∃ F, gor l (os.take 16) (gs.take 4096) f 0 rs0 = F := ⟨_, rfl⟩
        have gc := gor_count (l := l) (os := os.take 16) (gs := gs.take 4096) f 0 rs0
        have gm := gor_mono (l := l) (os := os.take 16) (gs := gs.take 4096) f 0 rs0 hnz 10000
        rw [hF] at gc gm hnz
        obtain ⟨⟨rg, st, nm, rd, pl, oc, rs⟩, c⟩ := F
        simp only at gc gm hnz
        have hF2 := gm (by omega)
        have hocb : (oc != 0) = true := by simpa using hnz
        have hcf : decide ((c : Int) ≤ (h : Int) + 1) = true := decide_eq_true (by omega)
        have hcg : (c : Int) ≤ (h : Int) + 1 := by omega
        have hch : c ≤ h + 1 := by omega
        have hci : decide (c ≤ h + 1) = true := decide_eq_true hch
        obtain ⟨L, hLe⟩ : ∃ L, lft (os.take 16) ⟨rg, st, nm, rd, pl, oc, rs⟩ (os.take 16).length = L := ⟨_, rfl⟩
        have L16 : L.length = 16 := by rw [← hLe, lft_len]; exact l16
        have hR1 := fun W (k : Keeps (fun _ => False) w W) a' cap' (hI : ISL W a' l) => run_fine (cap := cap') (co := co) (cg := cg) (hLT.keep k) hI (hO2.keep k) (hG2.keep k) hc (by have := l16; omega) (by have := g40; omega) f hf10 hF hLe
        have hR2 := fun W (k : Keeps (fun _ => False) w W) a' cap' (hI : ISL W a' l) => run_fine (cap := cap') (co := co) (cg := cg) (hLT.keep k) hI (hO2.keep k) (hG2.keep k) hc (by have := l16; omega) (by have := g40; omega) 10000 (Nat.le_refl _) hF2 hLe
        rw [show ((10000 : Nat) : Int) = 10000 from rfl] at hR2
        rw [show (f : Int) = (h : Int) + 1 by omega] at hR1
        rw [l16] at hR1 hR2
        rw [g40] at hR1 hR2
        clear hF hF2 gc gm hLe hH0
        clear hLT hO2 hG2
        go_wp2_with (first | (go_at_call 8; refine (hR1 w3 K3 a' cap' hI3).mono ?_; clear hR1; rintro e w4 ⟨b4, rfl, C4, k4⟩; obtain ⟨W4, hW4⟩ : ∃ W4, W4 = w4.alloc (.cells #[.int .i64 oc, .int .i64 rs, .slice (some ⟨b4, 0, none⟩) 16 16, .int .i64 (c : Int)] 33) := ⟨_, rfl⟩; have HW4 : Hid (_ = _) := hW4; clear hW4; have KA4 : Keeps (fun _ => False) w4 W4 := (by rw [HW4.out]; exact (Keeps.refl _ w4).alloc _); have CA4 : CL W4 w4.heap.size [.int .i64 oc, .int .i64 rs, .slice (some ⟨b4, 0, none⟩) 16 16, .int .i64 (c : Int)] := (by rw [HW4.out]; exact CL.made w4 _ _); have k4 := k4.trans KA4; have K4 := K3.trans k4; have hI4 := hI3.keep k4; have N4 := (NUM.ofCL C4).keep KA4; clear C4) | (go_at_call 8; rw [← HW4.out]; refine (hR2 W4 K4 a' cap' hI4).mono ?_; clear hR2; rintro e w5 ⟨b5, rfl, C5, k5⟩; obtain ⟨W5, hW5⟩ : ∃ W5, W5 = w5.alloc (.cells #[.int .i64 oc, .int .i64 rs, .slice (some ⟨b5, 0, none⟩) 16 16, .int .i64 (c : Int)] 33) := ⟨_, rfl⟩; have HW5 : Hid (_ = _) := hW5; clear hW5; have KA5 : Keeps (fun _ => False) w5 W5 := (by rw [HW5.out]; exact (Keeps.refl _ w5).alloc _); have CA5 : CL W5 w5.heap.size [.int .i64 oc, .int .i64 rs, .slice (some ⟨b5, 0, none⟩) 16 16, .int .i64 (c : Int)] := (by rw [HW5.out]; exact CL.made w5 _ _); have k5 := k5.trans KA5; have K5 := K4.trans k5; have N5 := (NUM.ofCL C5).keep KA5; have A5 := CA4.keep (by show 0 < 4; decide) k5 (fun e => e); have M4 := N4.keep k5; have hs := same_ok (xs := L) 16 16 oc rs (c : Int) M4 N5 (by omega); rw [L16] at hs; have y0 := A5.c 0 _ rfl; have y1 := A5.c 1 _ rfl; have y2 := A5.c 2 _ rfl; have y3 := A5.c 3 _ rfl; have z0 := CA5.c 0 _ rfl; have z1 := CA5.c 1 _ rfl; have z2 := CA5.c 2 _ rfl; have z3 := CA5.c 3 _ rfl) | (go_at_call 7; rw [← HW5.out]; clear HW5; refine (num11 _ _).mono ?_; rintro e wn ⟨rfl, en⟩; subst wn) | (go_at_call 7; refine (num11 _ _).mono ?_; rintro e wn ⟨rfl, en⟩; subst wn) | (go_at_call 9; refine hs.mono ?_; clear hs; rintro e w6 ⟨rfl, k6⟩))
        go_ret
        exact ⟨rfl, (K5.trans k6).below (Nat.le_refl _) (fun _ _ e => e)⟩
      · have b2 : decide ((4096 : Int) < (gs.length : Int)) = false := decide_eq_false (by omega)
        have b2n : decide (4096 < gs.length) = false := decide_eq_false h40
        have hG2 := hG
        obtain ⟨M, g40⟩ : ∃ M, gs.length = M := ⟨_, rfl⟩
        rw [g40] at b2 b2n h40 hgc
        clear hO hG
        have hnz := gor_ht (os := os.take 16) (gs := gs) (chk_ok hc).2 hH0 0 rs0 rfl rfl
        rw [← hf] at hnz
        obtain ⟨F, hF⟩ : ∃ F, gor l (os.take 16) (gs) f 0 rs0 = F := ⟨_, rfl⟩
        have gc := gor_count (l := l) (os := os.take 16) (gs := gs) f 0 rs0
        have gm := gor_mono (l := l) (os := os.take 16) (gs := gs) f 0 rs0 hnz 10000
        rw [hF] at gc gm hnz
        obtain ⟨⟨rg, st, nm, rd, pl, oc, rs⟩, c⟩ := F
        simp only at gc gm hnz
        have hF2 := gm (by omega)
        have hocb : (oc != 0) = true := by simpa using hnz
        have hcf : decide ((c : Int) ≤ (h : Int) + 1) = true := decide_eq_true (by omega)
        have hcg : (c : Int) ≤ (h : Int) + 1 := by omega
        have hch : c ≤ h + 1 := by omega
        have hci : decide (c ≤ h + 1) = true := decide_eq_true hch
        obtain ⟨L, hLe⟩ : ∃ L, lft (os.take 16) ⟨rg, st, nm, rd, pl, oc, rs⟩ (os.take 16).length = L := ⟨_, rfl⟩
        have L16 : L.length = 16 := by rw [← hLe, lft_len]; exact l16
        have hR1 := fun W (k : Keeps (fun _ => False) w W) a' cap' (hI : ISL W a' l) => run_fine (cap := cap') (co := co) (cg := cg) (hLT.keep k) hI (hO2.keep k) (hG2.keep k) hc (by have := l16; omega) (by have := g40; omega) f hf10 hF hLe
        have hR2 := fun W (k : Keeps (fun _ => False) w W) a' cap' (hI : ISL W a' l) => run_fine (cap := cap') (co := co) (cg := cg) (hLT.keep k) hI (hO2.keep k) (hG2.keep k) hc (by have := l16; omega) (by have := g40; omega) 10000 (Nat.le_refl _) hF2 hLe
        rw [show ((10000 : Nat) : Int) = 10000 from rfl] at hR2
        rw [show (f : Int) = (h : Int) + 1 by omega] at hR1
        rw [l16] at hR1 hR2
        rw [g40] at hR1 hR2
        clear hF hF2 gc gm hLe hH0
        clear hLT hO2 hG2
        rw [g40]
        clear g40
        go_wp2_with (first | (go_at_call 8; refine (hR1 w3 K3 a' cap' hI3).mono ?_; clear hR1; rintro e w4 ⟨b4, rfl, C4, k4⟩; obtain ⟨W4, hW4⟩ : ∃ W4, W4 = w4.alloc (.cells #[.int .i64 oc, .int .i64 rs, .slice (some ⟨b4, 0, none⟩) 16 16, .int .i64 (c : Int)] 33) := ⟨_, rfl⟩; have HW4 : Hid (_ = _) := hW4; clear hW4; have KA4 : Keeps (fun _ => False) w4 W4 := (by rw [HW4.out]; exact (Keeps.refl _ w4).alloc _); have CA4 : CL W4 w4.heap.size [.int .i64 oc, .int .i64 rs, .slice (some ⟨b4, 0, none⟩) 16 16, .int .i64 (c : Int)] := (by rw [HW4.out]; exact CL.made w4 _ _); have k4 := k4.trans KA4; have K4 := K3.trans k4; have hI4 := hI3.keep k4; have N4 := (NUM.ofCL C4).keep KA4; clear C4) | (go_at_call 8; rw [← HW4.out]; refine (hR2 W4 K4 a' cap' hI4).mono ?_; clear hR2; rintro e w5 ⟨b5, rfl, C5, k5⟩; obtain ⟨W5, hW5⟩ : ∃ W5, W5 = w5.alloc (.cells #[.int .i64 oc, .int .i64 rs, .slice (some ⟨b5, 0, none⟩) 16 16, .int .i64 (c : Int)] 33) := ⟨_, rfl⟩; have HW5 : Hid (_ = _) := hW5; clear hW5; have KA5 : Keeps (fun _ => False) w5 W5 := (by rw [HW5.out]; exact (Keeps.refl _ w5).alloc _); have CA5 : CL W5 w5.heap.size [.int .i64 oc, .int .i64 rs, .slice (some ⟨b5, 0, none⟩) 16 16, .int .i64 (c : Int)] := (by rw [HW5.out]; exact CL.made w5 _ _); have k5 := k5.trans KA5; have K5 := K4.trans k5; have N5 := (NUM.ofCL C5).keep KA5; have A5 := CA4.keep (by show 0 < 4; decide) k5 (fun e => e); have M4 := N4.keep k5; have hs := same_ok (xs := L) 16 16 oc rs (c : Int) M4 N5 (by omega); rw [L16] at hs; have y0 := A5.c 0 _ rfl; have y1 := A5.c 1 _ rfl; have y2 := A5.c 2 _ rfl; have y3 := A5.c 3 _ rfl; have z0 := CA5.c 0 _ rfl; have z1 := CA5.c 1 _ rfl; have z2 := CA5.c 2 _ rfl; have z3 := CA5.c 3 _ rfl) | (go_at_call 7; rw [← HW5.out]; clear HW5; refine (num11 _ _).mono ?_; rintro e wn ⟨rfl, en⟩; subst wn) | (go_at_call 7; refine (num11 _ _).mono ?_; rintro e wn ⟨rfl, en⟩; subst wn) | (go_at_call 9; refine hs.mono ?_; clear hs; rintro e w6 ⟨rfl, k6⟩))
        go_ret
        exact ⟨rfl, (K5.trans k6).below (Nat.le_refl _) (fun _ _ e => e)⟩
    · have b1 : decide ((16 : Int) < (os.length : Int)) = false := decide_eq_false (by omega)
      have b1n : decide (16 < os.length) = false := decide_eq_false h16
      have hO2 := hO
      obtain ⟨N, l16⟩ : ∃ N, os.length = N := ⟨_, rfl⟩
      rw [l16] at b1 b1n h16 hoc
      by_cases h40 : 4096 < gs.length
      · have b2 : decide ((4096 : Int) < (gs.length : Int)) = true := decide_eq_true (by omega)
        have b2n : decide (4096 < gs.length) = true := decide_eq_true h40
        obtain ⟨bg, og, rfl, _⟩ := hG 0 _ (List.getElem?_eq_getElem (by omega))
        have cg40 : 4096 ≤ cg := by omega
        have hG2 := hG.take 4096
        have g40 : (gs.take 4096).length = 4096 := by rw [List.length_take]; omega
        clear hO hG
        have hnz := gor_ht (os := os) (gs := gs.take 4096) (chk_ok hc).2 hH0 0 rs0 rfl rfl
        rw [← hf] at hnz
        obtain ⟨F, hF⟩ : ∃ F, gor l (os) (gs.take 4096) f 0 rs0 = F := ⟨_, rfl⟩
        have gc := gor_count (l := l) (os := os) (gs := gs.take 4096) f 0 rs0
        have gm := gor_mono (l := l) (os := os) (gs := gs.take 4096) f 0 rs0 hnz 10000
        rw [hF] at gc gm hnz
        obtain ⟨⟨rg, st, nm, rd, pl, oc, rs⟩, c⟩ := F
        simp only at gc gm hnz
        have hF2 := gm (by omega)
        have hocb : (oc != 0) = true := by simpa using hnz
        have hcf : decide ((c : Int) ≤ (h : Int) + 1) = true := decide_eq_true (by omega)
        have hcg : (c : Int) ≤ (h : Int) + 1 := by omega
        have hch : c ≤ h + 1 := by omega
        have hci : decide (c ≤ h + 1) = true := decide_eq_true hch
        obtain ⟨L, hLe⟩ : ∃ L, lft (os) ⟨rg, st, nm, rd, pl, oc, rs⟩ (os).length = L := ⟨_, rfl⟩
        have L16 : L.length = N := by rw [← hLe, lft_len]; exact l16
        have hR1 := fun W (k : Keeps (fun _ => False) w W) a' cap' (hI : ISL W a' l) => run_fine (cap := cap') (co := co) (cg := cg) (hLT.keep k) hI (hO2.keep k) (hG2.keep k) hc (by have := l16; omega) (by have := g40; omega) f hf10 hF hLe
        have hR2 := fun W (k : Keeps (fun _ => False) w W) a' cap' (hI : ISL W a' l) => run_fine (cap := cap') (co := co) (cg := cg) (hLT.keep k) hI (hO2.keep k) (hG2.keep k) hc (by have := l16; omega) (by have := g40; omega) 10000 (Nat.le_refl _) hF2 hLe
        rw [show ((10000 : Nat) : Int) = 10000 from rfl] at hR2
        rw [show (f : Int) = (h : Int) + 1 by omega] at hR1
        rw [l16] at hR1 hR2
        rw [g40] at hR1 hR2
        clear hF hF2 gc gm hLe hH0
        clear hLT hO2 hG2
        rw [l16]
        clear l16
        go_wp2_with (first | (go_at_call 8; refine (hR1 w3 K3 a' cap' hI3).mono ?_; clear hR1; rintro e w4 ⟨b4, rfl, C4, k4⟩; obtain ⟨W4, hW4⟩ : ∃ W4, W4 = w4.alloc (.cells #[.int .i64 oc, .int .i64 rs, .slice (some ⟨b4, 0, none⟩) N N, .int .i64 (c : Int)] 33) := ⟨_, rfl⟩; have HW4 : Hid (_ = _) := hW4; clear hW4; have KA4 : Keeps (fun _ => False) w4 W4 := (by rw [HW4.out]; exact (Keeps.refl _ w4).alloc _); have CA4 : CL W4 w4.heap.size [.int .i64 oc, .int .i64 rs, .slice (some ⟨b4, 0, none⟩) N N, .int .i64 (c : Int)] := (by rw [HW4.out]; exact CL.made w4 _ _); have k4 := k4.trans KA4; have K4 := K3.trans k4; have hI4 := hI3.keep k4; have N4 := (NUM.ofCL C4).keep KA4; clear C4) | (go_at_call 8; rw [← HW4.out]; refine (hR2 W4 K4 a' cap' hI4).mono ?_; clear hR2; rintro e w5 ⟨b5, rfl, C5, k5⟩; obtain ⟨W5, hW5⟩ : ∃ W5, W5 = w5.alloc (.cells #[.int .i64 oc, .int .i64 rs, .slice (some ⟨b5, 0, none⟩) N N, .int .i64 (c : Int)] 33) := ⟨_, rfl⟩; have HW5 : Hid (_ = _) := hW5; clear hW5; have KA5 : Keeps (fun _ => False) w5 W5 := (by rw [HW5.out]; exact (Keeps.refl _ w5).alloc _); have CA5 : CL W5 w5.heap.size [.int .i64 oc, .int .i64 rs, .slice (some ⟨b5, 0, none⟩) N N, .int .i64 (c : Int)] := (by rw [HW5.out]; exact CL.made w5 _ _); have k5 := k5.trans KA5; have K5 := K4.trans k5; have N5 := (NUM.ofCL C5).keep KA5; have A5 := CA4.keep (by show 0 < 4; decide) k5 (fun e => e); have M4 := N4.keep k5; have hs := same_ok (xs := L) N N oc rs (c : Int) M4 N5 (by omega); rw [L16] at hs; have y0 := A5.c 0 _ rfl; have y1 := A5.c 1 _ rfl; have y2 := A5.c 2 _ rfl; have y3 := A5.c 3 _ rfl; have z0 := CA5.c 0 _ rfl; have z1 := CA5.c 1 _ rfl; have z2 := CA5.c 2 _ rfl; have z3 := CA5.c 3 _ rfl) | (go_at_call 7; rw [← HW5.out]; clear HW5; refine (num11 _ _).mono ?_; rintro e wn ⟨rfl, en⟩; subst wn) | (go_at_call 7; refine (num11 _ _).mono ?_; rintro e wn ⟨rfl, en⟩; subst wn) | (go_at_call 9; refine hs.mono ?_; clear hs; rintro e w6 ⟨rfl, k6⟩))
        go_ret
        exact ⟨rfl, (K5.trans k6).below (Nat.le_refl _) (fun _ _ e => e)⟩
      · have b2 : decide ((4096 : Int) < (gs.length : Int)) = false := decide_eq_false (by omega)
        have b2n : decide (4096 < gs.length) = false := decide_eq_false h40
        have hG2 := hG
        obtain ⟨M, g40⟩ : ∃ M, gs.length = M := ⟨_, rfl⟩
        rw [g40] at b2 b2n h40 hgc
        clear hO hG
        have hnz := gor_ht (os := os) (gs := gs) (chk_ok hc).2 hH0 0 rs0 rfl rfl
        rw [← hf] at hnz
        obtain ⟨F, hF⟩ : ∃ F, gor l (os) (gs) f 0 rs0 = F := ⟨_, rfl⟩
        have gc := gor_count (l := l) (os := os) (gs := gs) f 0 rs0
        have gm := gor_mono (l := l) (os := os) (gs := gs) f 0 rs0 hnz 10000
        rw [hF] at gc gm hnz
        obtain ⟨⟨rg, st, nm, rd, pl, oc, rs⟩, c⟩ := F
        simp only at gc gm hnz
        have hF2 := gm (by omega)
        have hocb : (oc != 0) = true := by simpa using hnz
        have hcf : decide ((c : Int) ≤ (h : Int) + 1) = true := decide_eq_true (by omega)
        have hcg : (c : Int) ≤ (h : Int) + 1 := by omega
        have hch : c ≤ h + 1 := by omega
        have hci : decide (c ≤ h + 1) = true := decide_eq_true hch
        obtain ⟨L, hLe⟩ : ∃ L, lft (os) ⟨rg, st, nm, rd, pl, oc, rs⟩ (os).length = L := ⟨_, rfl⟩
        have L16 : L.length = N := by rw [← hLe, lft_len]; exact l16
        have hR1 := fun W (k : Keeps (fun _ => False) w W) a' cap' (hI : ISL W a' l) => run_fine (cap := cap') (co := co) (cg := cg) (hLT.keep k) hI (hO2.keep k) (hG2.keep k) hc (by have := l16; omega) (by have := g40; omega) f hf10 hF hLe
        have hR2 := fun W (k : Keeps (fun _ => False) w W) a' cap' (hI : ISL W a' l) => run_fine (cap := cap') (co := co) (cg := cg) (hLT.keep k) hI (hO2.keep k) (hG2.keep k) hc (by have := l16; omega) (by have := g40; omega) 10000 (Nat.le_refl _) hF2 hLe
        rw [show ((10000 : Nat) : Int) = 10000 from rfl] at hR2
        rw [show (f : Int) = (h : Int) + 1 by omega] at hR1
        rw [l16] at hR1 hR2
        rw [g40] at hR1 hR2
        clear hF hF2 gc gm hLe hH0
        clear hLT hO2 hG2
        rw [l16, g40]
        clear l16 g40
        go_wp2_with (first | (go_at_call 8; refine (hR1 w3 K3 a' cap' hI3).mono ?_; clear hR1; rintro e w4 ⟨b4, rfl, C4, k4⟩; obtain ⟨W4, hW4⟩ : ∃ W4, W4 = w4.alloc (.cells #[.int .i64 oc, .int .i64 rs, .slice (some ⟨b4, 0, none⟩) N N, .int .i64 (c : Int)] 33) := ⟨_, rfl⟩; have HW4 : Hid (_ = _) := hW4; clear hW4; have KA4 : Keeps (fun _ => False) w4 W4 := (by rw [HW4.out]; exact (Keeps.refl _ w4).alloc _); have CA4 : CL W4 w4.heap.size [.int .i64 oc, .int .i64 rs, .slice (some ⟨b4, 0, none⟩) N N, .int .i64 (c : Int)] := (by rw [HW4.out]; exact CL.made w4 _ _); have k4 := k4.trans KA4; have K4 := K3.trans k4; have hI4 := hI3.keep k4; have N4 := (NUM.ofCL C4).keep KA4; clear C4) | (go_at_call 8; rw [← HW4.out]; refine (hR2 W4 K4 a' cap' hI4).mono ?_; clear hR2; rintro e w5 ⟨b5, rfl, C5, k5⟩; obtain ⟨W5, hW5⟩ : ∃ W5, W5 = w5.alloc (.cells #[.int .i64 oc, .int .i64 rs, .slice (some ⟨b5, 0, none⟩) N N, .int .i64 (c : Int)] 33) := ⟨_, rfl⟩; have HW5 : Hid (_ = _) := hW5; clear hW5; have KA5 : Keeps (fun _ => False) w5 W5 := (by rw [HW5.out]; exact (Keeps.refl _ w5).alloc _); have CA5 : CL W5 w5.heap.size [.int .i64 oc, .int .i64 rs, .slice (some ⟨b5, 0, none⟩) N N, .int .i64 (c : Int)] := (by rw [HW5.out]; exact CL.made w5 _ _); have k5 := k5.trans KA5; have K5 := K4.trans k5; have N5 := (NUM.ofCL C5).keep KA5; have A5 := CA4.keep (by show 0 < 4; decide) k5 (fun e => e); have M4 := N4.keep k5; have hs := same_ok (xs := L) N N oc rs (c : Int) M4 N5 (by omega); rw [L16] at hs; have y0 := A5.c 0 _ rfl; have y1 := A5.c 1 _ rfl; have y2 := A5.c 2 _ rfl; have y3 := A5.c 3 _ rfl; have z0 := CA5.c 0 _ rfl; have z1 := CA5.c 1 _ rfl; have z2 := CA5.c 2 _ rfl; have z3 := CA5.c 3 _ rfl) | (go_at_call 7; rw [← HW5.out]; clear HW5; refine (num11 _ _).mono ?_; rintro e wn ⟨rfl, en⟩; subst wn) | (go_at_call 7; refine (num11 _ _).mono ?_; rintro e wn ⟨rfl, en⟩; subst wn) | (go_at_call 9; refine hs.mono ?_; clear hs; rintro e w6 ⟨rfl, k6⟩))
        go_ret
        exact ⟨rfl, (K5.trans k6).below (Nat.le_refl _) (fun _ _ e => e)⟩
  · have hyb : (y != 0) = true := by simpa using hy
    clear hLT hO hG hP
    generalize os.length = N at *
    generalize gs.length = M at *
    go_wp2_with (go_at_call 7; refine (num11 _ _).mono ?_; rintro e wn ⟨rfl, en⟩; subst wn)
    go_ret
    exact ⟨rfl, K3.below (Nat.le_refl _) (fun _ _ e => e)⟩
end Go.Proofs.YtblcjohhelokkabGreatDoor
