import Derived.Test.YtblcjohhelokkaaGreatDoorMdP
import Derived.Test.YtblcjohhelokkaaGreatDoorMdN
namespace Go.Proofs.YtblcjohhelokkaaGreatDoor
open Go.RowKit
attribute [local go_sem] Oper.semAt_some run_store_nf run_store_f
set_option maxHeartbeats 1600000 in
set_option maxRecDepth 1000000 in
theorem keeps_any {w : World} {a ao ag : Option Addr} {cap co cg : Nat} {l : List Ins} {os : List Int} {gs : List (Bool × Int)} (hT : PT w) (hNT : NT w) (hl : ISL w a l) (hlen : l.length * 88 ≤ 140737488355328) (hO : NUM w ao os) (hG : GVN w ag gs) (fuel : Int) (_hr : -9223372036854775808 ≤ fuel ∧ fuel ≤ 9223372036854775807) : Calls Tryz.prog 7 #[.slice a l.length cap, .slice ao os.length co, .slice ag gs.length cg, .int .i64 fuel] w fun e w' => e = .returned (.bool true) ∧ Below w.heap.size w w' := by
  have hH := head11 hT hNT
  have hLT := hT.lt
  clear hT hNT _hr
  have hPr := fun W (k : Keeps (fun _ => False) w W) => prog_any (cap := cap) (hl.keep k) hlen
  generalize hNl : l.length = M at *
  go_enter Tryz.func7, Tryz.ntmps7
  go_wp2_with (go_at_call 9; refine hH.mono ?_; clear hH; rintro e w1 ⟨rfl, k1⟩)
  go_loopw [9, 10, 11] (fun pv dv iv Wr => ∃ k : Nat, k ≤ M ∧ pv = .bool (ac l 3 k) ∧ dv = .bool (ac l 10 k) ∧ iv = .int .i64 (k : Int) ∧ Wr = w1) (fun _ _ iv _ => M - (intOf iv).toNat)
  case atStart => exact ⟨0, Nat.zero_le _, rfl, rfl, rfl, rfl⟩
  case round =>
    obtain ⟨k, hk, rfl, rfl, rfl, ew⟩ := hrel
    subst wr
    by_cases hlt : k < M
    · have hltI : decide ((k : Int) < (M : Int)) = true := by simp; omega
      have hltJ : (k : Int) < (M : Int) := by omega
      have hk0 : (0 : Int) ≤ (k : Int) := by omega
      have hw1 : IntKind.i64.wrap ((k : Int) + 1) = (k : Int) + 1 := by rw [IntKind.wrap_i64]; omega
      obtain ⟨b, off, rfl, hc⟩ := hl k (by omega)
      have c0 := k1.cell (hc 0 _ rfl) (fun e => e)
      have a3 : ac l 3 (k + 1) = (ac l 3 k || ((l.getD k ins0).code == 3)) := rfl
      have a10 : ac l 10 (k + 1) = (ac l 10 k || ((l.getD k ins0).code == 10)) := rfl
      rw [Nat.add_zero] at c0
      generalize (l.getD k ins0).code = cd at *
      cases h3 : ac l 3 k <;> cases h10 : ac l 10 k <;> rw [h3] at a3 <;> rw [h10] at a10
      all_goals
        clear hPr hc hl hO hG hLT
        go_wp2
        go_roundw
        case rel => exact ⟨k + 1, by omega, by rw [a3]; rfl, by rw [a10]; rfl, by go_num, by first | rfl | trivial⟩
        case measure => simp [intOf]; omega
    · obtain rfl : k = M := by omega
      have hltI : decide ((k : Int) < (k : Int)) = false := by simp
      subst hNl
      by_cases hb : (chk l).1 = 0 ∧ rfs os.length gs.length fuel = 0
      · obtain ⟨hc, hr⟩ := hb
        obtain ⟨h16, h40, hf0, hf1⟩ := rfs_ok hr
        obtain ⟨f, rfl⟩ : ∃ f : Nat, fuel = (f : Int) := ⟨fuel.toNat, by omega⟩
        clear hr
        obtain ⟨F, hF⟩ : ∃ F, gor l os gs f 0 rs0 = F := ⟨_, rfl⟩
        have gd := gor_done (l := l) (os := os) (gs := gs) (chk_ok hc).2 f 0 rs0 (.inl rfl)
        have gp := fun h => gor_noput (l := l) (os := os) (gs := gs) h f os.length
        rw [hF] at gd gp
        have lno := lft_no os F.1 os.length
        have hRF := fun W (k : Keeps (fun _ => False) w W) a' cap' (hI : ISL W a' l) => run_fine (cap := cap') (co := co) (cg := cg) (hLT.keep k) hI (hO.keep k) (hG.keep k) hc h16 h40 f (by omega) hF rfl
        have hNS := fun W (k : Keeps (fun _ => False) w W) => hO.keep k
        clear hLT hO hG hl
        obtain ⟨⟨rg, st, nm, rd, pl, oc, rs⟩, c⟩ := F
        simp only at gd gp lno
        generalize ac l 3 l.length = p at *
        generalize ac l 10 l.length = d at *
        generalize hN : os.length = N at *
        have hNN : ((N : Int) != (N : Int)) = false := by simp
        by_cases h1 : oc = 1
        · subst h1
          clear lno
          by_cases hr0 : rs = 0
          · subst hr0
            clear gd
            cases p with
            | true =>
              clear gp
              cases d
              all_goals
                go_wp2_with (first | (go_at_call 13; refine (hPr w1 k1).mono ?_; clear hPr; rintro e w2 ⟨v, rfl, hown, k2⟩; obtain ⟨a', cap', rfl, hI⟩ := isl_of_owns hown rfl; clear hown; have K2 := k1.trans k2) | (go_at_call 10; refine (hRF w2 K2 a' cap' hI).mono ?_; clear hRF; rintro e w3 ⟨b3, rfl, C3, k3⟩; have K3 := K2.trans k3; obtain ⟨W3, hW3⟩ : ∃ W3, W3 = w3.alloc (.cells #[.int .i64 1, .int .i64 0, .slice (some ⟨b3, 0, none⟩) N N, .int .i64 (c : Int)] 36) := ⟨_, rfl⟩; have HW3 : Hid (_ = _) := hW3; clear hW3; have KA : Keeps (fun _ => False) w3 W3 := (by rw [HW3.out]; exact (Keeps.refl _ w3).alloc _); have CA : CL W3 w3.heap.size [.int .i64 1, .int .i64 0, .slice (some ⟨b3, 0, none⟩) N N, .int .i64 (c : Int)] := (by rw [HW3.out]; exact CL.made w3 _ _); have x0 := CA.c 0 _ rfl; have x1 := CA.c 1 _ rfl; have x2 := CA.c 2 _ rfl; have x3 := CA.c 3 _ rfl) | (go_at_call 11; rw [← HW3.out]; refine (num11 _ _).mono ?_; rintro e wn ⟨rfl, en⟩; subst wn))
                go_ret
                exact ⟨rfl, (K3.trans KA).below (Nat.le_refl _) (fun _ _ e => e)⟩
            | false =>
              have hLe := gp rfl
              clear gp
              cases d
              all_goals
                go_wp2_with (first | (go_at_call 13; refine (hPr w1 k1).mono ?_; clear hPr; rintro e w2 ⟨v, rfl, hown, k2⟩; obtain ⟨a', cap', rfl, hI⟩ := isl_of_owns hown rfl; clear hown; have K2 := k1.trans k2) | (go_at_call 10; refine (hRF w2 K2 a' cap' hI).mono ?_; clear hRF; rintro e w3 ⟨b3, rfl, C3, k3⟩; have K3 := K2.trans k3; obtain ⟨W3, hW3⟩ : ∃ W3, W3 = w3.alloc (.cells #[.int .i64 1, .int .i64 0, .slice (some ⟨b3, 0, none⟩) N N, .int .i64 (c : Int)] 36) := ⟨_, rfl⟩; have HW3 : Hid (_ = _) := hW3; clear hW3; have KA : Keeps (fun _ => False) w3 W3 := (by rw [HW3.out]; exact (Keeps.refl _ w3).alloc _); have CA : CL W3 w3.heap.size [.int .i64 1, .int .i64 0, .slice (some ⟨b3, 0, none⟩) N N, .int .i64 (c : Int)] := (by rw [HW3.out]; exact CL.made w3 _ _); have x0 := CA.c 0 _ rfl; have x1 := CA.c 1 _ rfl; have x2 := CA.c 2 _ rfl; have x3 := CA.c 3 _ rfl) | (go_at_call 11; rw [← HW3.out]; refine (num11 _ _).mono ?_; rintro e wn ⟨rfl, en⟩; subst wn; have hsm := sameNums_ok (xs := os) N co ((NUM.ofCL (by have := C3; rw [hLe] at this; exact this)).keep KA) (hNS W3 (K3.trans KA)) (by omega); rw [hN] at hsm) | (go_at_call 12; refine hsm.mono ?_; clear hsm; rintro e w4 ⟨rfl, k4⟩))
                go_ret
                exact ⟨rfl, ((K3.trans KA).trans k4).below (Nat.le_refl _) (fun _ _ e => e)⟩
          · have hrb : (rs != 0) = true := by simpa using hr0
            obtain ⟨rfl, _⟩ := gd.resolve_left hr0
            clear gd
            cases p with
            | true =>
              clear gp
              go_wp2_with (first | (go_at_call 13; refine (hPr w1 k1).mono ?_; clear hPr; rintro e w2 ⟨v, rfl, hown, k2⟩; obtain ⟨a', cap', rfl, hI⟩ := isl_of_owns hown rfl; clear hown; have K2 := k1.trans k2) | (go_at_call 10; refine (hRF w2 K2 a' cap' hI).mono ?_; clear hRF; rintro e w3 ⟨b3, rfl, C3, k3⟩; have K3 := K2.trans k3; obtain ⟨W3, hW3⟩ : ∃ W3, W3 = w3.alloc (.cells #[.int .i64 1, .int .i64 rs, .slice (some ⟨b3, 0, none⟩) N N, .int .i64 (c : Int)] 36) := ⟨_, rfl⟩; have HW3 : Hid (_ = _) := hW3; clear hW3; have KA : Keeps (fun _ => False) w3 W3 := (by rw [HW3.out]; exact (Keeps.refl _ w3).alloc _); have CA : CL W3 w3.heap.size [.int .i64 1, .int .i64 rs, .slice (some ⟨b3, 0, none⟩) N N, .int .i64 (c : Int)] := (by rw [HW3.out]; exact CL.made w3 _ _); have x0 := CA.c 0 _ rfl; have x1 := CA.c 1 _ rfl; have x2 := CA.c 2 _ rfl; have x3 := CA.c 3 _ rfl) | (go_at_call 11; rw [← HW3.out]; refine (num11 _ _).mono ?_; rintro e wn ⟨rfl, en⟩; subst wn))
              go_ret
              exact ⟨rfl, (K3.trans KA).below (Nat.le_refl _) (fun _ _ e => e)⟩
            | false =>
              have hLe := gp rfl
              clear gp
              go_wp2_with (first | (go_at_call 13; refine (hPr w1 k1).mono ?_; clear hPr; rintro e w2 ⟨v, rfl, hown, k2⟩; obtain ⟨a', cap', rfl, hI⟩ := isl_of_owns hown rfl; clear hown; have K2 := k1.trans k2) | (go_at_call 10; refine (hRF w2 K2 a' cap' hI).mono ?_; clear hRF; rintro e w3 ⟨b3, rfl, C3, k3⟩; have K3 := K2.trans k3; obtain ⟨W3, hW3⟩ : ∃ W3, W3 = w3.alloc (.cells #[.int .i64 1, .int .i64 rs, .slice (some ⟨b3, 0, none⟩) N N, .int .i64 (c : Int)] 36) := ⟨_, rfl⟩; have HW3 : Hid (_ = _) := hW3; clear hW3; have KA : Keeps (fun _ => False) w3 W3 := (by rw [HW3.out]; exact (Keeps.refl _ w3).alloc _); have CA : CL W3 w3.heap.size [.int .i64 1, .int .i64 rs, .slice (some ⟨b3, 0, none⟩) N N, .int .i64 (c : Int)] := (by rw [HW3.out]; exact CL.made w3 _ _); have x0 := CA.c 0 _ rfl; have x1 := CA.c 1 _ rfl; have x2 := CA.c 2 _ rfl; have x3 := CA.c 3 _ rfl) | (go_at_call 11; rw [← HW3.out]; refine (num11 _ _).mono ?_; rintro e wn ⟨rfl, en⟩; subst wn; have hsm := sameNums_ok (xs := os) N co ((NUM.ofCL (by have := C3; rw [hLe] at this; exact this)).keep KA) (hNS W3 (K3.trans KA)) (by omega); rw [hN] at hsm) | (go_at_call 12; refine hsm.mono ?_; clear hsm; rintro e w4 ⟨rfl, k4⟩))
              go_ret
              exact ⟨rfl, ((K3.trans KA).trans k4).below (Nat.le_refl _) (fun _ _ e => e)⟩
        · have h1b : (oc != 1) = true := by simpa using h1
          obtain rfl : rs = 0 := gd.resolve_right (fun e => h1 e.2)
          have hLe := lno h1
          clear gd gp lno
          cases p <;> cases d
          all_goals
            go_wp2_with (first | (go_at_call 13; refine (hPr w1 k1).mono ?_; clear hPr; rintro e w2 ⟨v, rfl, hown, k2⟩; obtain ⟨a', cap', rfl, hI⟩ := isl_of_owns hown rfl; clear hown; have K2 := k1.trans k2) | (go_at_call 10; refine (hRF w2 K2 a' cap' hI).mono ?_; clear hRF; rintro e w3 ⟨b3, rfl, C3, k3⟩; have K3 := K2.trans k3; obtain ⟨W3, hW3⟩ : ∃ W3, W3 = w3.alloc (.cells #[.int .i64 oc, .int .i64 0, .slice (some ⟨b3, 0, none⟩) N N, .int .i64 (c : Int)] 36) := ⟨_, rfl⟩; have HW3 : Hid (_ = _) := hW3; clear hW3; have KA : Keeps (fun _ => False) w3 W3 := (by rw [HW3.out]; exact (Keeps.refl _ w3).alloc _); have CA : CL W3 w3.heap.size [.int .i64 oc, .int .i64 0, .slice (some ⟨b3, 0, none⟩) N N, .int .i64 (c : Int)] := (by rw [HW3.out]; exact CL.made w3 _ _); have x0 := CA.c 0 _ rfl; have x1 := CA.c 1 _ rfl; have x2 := CA.c 2 _ rfl; have x3 := CA.c 3 _ rfl) | (go_at_call 11; rw [← HW3.out]; refine (num11 _ _).mono ?_; rintro e wn ⟨rfl, en⟩; subst wn; have hsm := sameNums_ok (xs := os) N co ((NUM.ofCL (by have := C3; rw [hLe] at this; exact this)).keep KA) (hNS W3 (K3.trans KA)) (by omega); rw [hN] at hsm) | (go_at_call 12; refine hsm.mono ?_; clear hsm; rintro e w4 ⟨rfl, k4⟩))
            go_ret
            exact ⟨rfl, ((K3.trans KA).trans k4).below (Nat.le_refl _) (fun _ _ e => e)⟩
      · have hRB := fun W (k : Keeps (fun _ => False) w W) a' cap' (hI : ISL W a' l) => run_bad (cap := cap') (co := co) (cg := cg) (hLT.keep k) hI (by omega) (hO.keep k) (hG.keep k) fuel hb
        clear hLT hO hG hl hb
        generalize os.length = N at *
        generalize gs.length = M2 at *
        go_wp2_with (first | (go_at_call 13; refine (hPr w1 k1).mono ?_; clear hPr; rintro e w2 ⟨v, rfl, hown, k2⟩; obtain ⟨a', cap', rfl, hI⟩ := isl_of_owns hown rfl; clear hown; have K2 := k1.trans k2) | (go_at_call 10; refine (hRB w2 K2 a' cap' hI).mono ?_; clear hRB; rintro e w3 ⟨x, rfl, hx, k3⟩; unfold zA; have hxb : (x != 0) = true := (by simpa using hx)) | (go_at_call 11; refine (num11 _ _).mono ?_; rintro e wn ⟨rfl, en⟩; subst wn))
        go_ret
        exact ⟨rfl, ((K2.trans k3).alloc _).below (Nat.le_refl _) (fun _ _ e => e)⟩
end Go.Proofs.YtblcjohhelokkaaGreatDoor
