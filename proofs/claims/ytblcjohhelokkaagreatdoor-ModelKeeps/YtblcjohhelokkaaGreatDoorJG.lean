import Derived.Test.YtblcjohhelokkaaGreatDoorJD
import Derived.Test.YtblcjohhelokkaaGreatDoorPhI
import Derived.Test.YtblcjohhelokkaaGreatDoorLgM
namespace Go.Proofs.YtblcjohhelokkaaGreatDoor
open Go.RowKit Go.Deep Go.ChangeShapes Go.WideShapes Go.ChangeAt
attribute [local go_sem] Oper.semAt_some run_store_nf run_store_f
def txt2 : ByteArray := ⟨#[103, 101, 116, 32, 114, 49, 32, 64, 48, 10, 97, 100, 100, 32, 114, 49, 32, 114, 49, 32, 49, 10, 112, 117, 116, 32, 64, 48, 32, 114, 49, 10, 100, 111, 110, 101, 32, 114, 49]⟩
def prg2 : List Ins := [⟨1, 1, false, 0, false, 0, false, 0, 0, 0, 0⟩, ⟨6, 1, false, 0, true, 1, false, 1, 1, 0, 0⟩, ⟨3, 0, false, 0, true, 1, false, 0, 0, 0, 0⟩, ⟨10, 0, false, 0, true, 1, false, 0, 0, 0, 0⟩]
theorem rd2 : rd (lns txt2) 0 [] = some prg2 := by kernel_rfl
theorem ln2 : ∀ x ∈ lns txt2, x.size ≤ 4096 := by
  have h : lns txt2 = [⟨#[103, 101, 116, 32, 114, 49, 32, 64, 48]⟩, ⟨#[97, 100, 100, 32, 114, 49, 32, 114, 49, 32, 49]⟩, ⟨#[112, 117, 116, 32, 64, 48, 32, 114, 49]⟩, ⟨#[100, 111, 110, 101, 32, 114, 49]⟩] := by kernel_rfl
  rw [h]
  intro x hx
  rcases (by simpa using hx : x = _ ∨ x = _ ∨ x = _ ∨ x = _) with rfl | rfl | rfl | rfl <;> decide
theorem chk2 : (chk prg2).1 = 0 := by kernel_rfl
theorem rfs2 : rfs 2 0 100 = 0 := by kernel_rfl
theorem gor2 : (gor prg2 [5, 7] [] 100 0 rs0).1.oc = 1 ∧ (gor prg2 [5, 7] [] 100 0 rs0).1.rs = 6 ∧ (gor prg2 [5, 7] [] 100 0 rs0).2 = 4 ∧ lft [5, 7] (gor prg2 [5, 7] [] 100 0 rs0).1 2 = [6, 7] := by
  refine ⟨?_, ?_, ?_, ?_⟩ <;> kernel_rfl
theorem run2 {w : World} {a ao : Option Addr} {cap co : Nat} (hT : LT w) (hl : ISL w a prg2) (hO : NUM w ao [5, 7]) : Calls Tryz.prog 10 #[.slice a 4 cap, .slice ao 2 co, .slice none 0 0, .int .i64 100] w fun e w' => ∃ b, e = .returned (.tuple #[.agg #[.int .i64 1, .int .i64 6, .slice (some ⟨b, 0, none⟩) 2 2, .int .i64 4], .int .i64 0]) ∧ CL w' b (nvs [6, 7]) ∧ Keeps (fun _ => False) w w' := by
  have h := run_any (cap := cap) (co := co) (ag := none) (cg := 0) (gs := []) hT hl (by decide) hO (fun i x hx => by simp at hx) 100
  refine Calls.mono h ?_
  rintro e w' ⟨v, x, rfl, hP, k⟩
  rcases hP with ⟨h0, _⟩ | ⟨_, h1, _⟩ | ⟨_, _, rfl, b, _, rfl, hC, _⟩
  · exact (h0 chk2).elim
  · exact (h1 rfs2).elim
  · obtain ⟨e1, e2, e3, e4⟩ := gor2
    have t100 : Int.toNat 100 = 100 := rfl
    rw [t100] at hC ⊢
    have l2 : ([5, 7] : List Int).length = 2 := rfl
    rw [l2] at hC ⊢
    rw [e4] at hC
    rw [e1, e2, e3]
    exact ⟨b, rfl, hC, k⟩
theorem two_num (w : World) (o : Obj) (x y : Int) : NUM ((w.alloc o).alloc (.cells #[.int .i64 x, .int .i64 y] 2)) (some ⟨w.heap.size + 1, 0, none⟩) [x, y] := NUM.ofCL (by
  have := CL.made (w.alloc o) [.int .i64 x, .int .i64 y] 2
  rw [show (w.alloc o).heap.size = w.heap.size + 1 by simp] at this
  exact this)
set_option maxHeartbeats 800000 in
set_option maxRecDepth 1000000 in
theorem head11 {w : World} (hT : PT w) (hNT : NT w) : Calls Tryz.prog 9 #[] w fun e w' => e = .returned (.bool true) ∧ Keeps (fun _ => False) w w' := by
  have hP := parse_ok txt2 (by decide) hT hNT rd2 ln2
  have hLT := hT.lt
  clear hT hNT
  go_enter Tryz.func9, Tryz.ntmps9
  go_wp2_with fail
  refine (show Calls Tryz.prog 17 #[.string txt2] w _ from hP).mono ?_
  clear hP
  rintro e w1 ⟨v, rfl, hown, k1⟩
  obtain ⟨a, cap, rfl, hI⟩ := isl_of_owns hown rfl
  clear hown
  have l4 : prg2.length = 4 := rfl
  rw [l4]
  clear l4
  obtain ⟨W2, hW2⟩ : ∃ W2, W2 = (w1.alloc (.cells #[.int .i64 0, .int .i64 0, .int .i64 0] 64)).alloc (.cells #[.int .i64 5, .int .i64 7] 2) := ⟨_, rfl⟩
  have k2 : Keeps (fun _ => False) w1 W2 := by rw [hW2]; exact ((Keeps.refl _ w1).alloc _).alloc _
  have s2 : W2.heap.size = w1.heap.size + 2 := by rw [hW2]; simp
  have hN : NUM W2 (some ⟨w1.heap.size + 1, 0, none⟩) [5, 7] := by rw [hW2]; exact two_num w1 _ 5 7
  have hR := run2 (cap := cap) (co := 2) (hLT.keep (k1.trans k2)) (hI.keep k2) hN
  have HW2 : Hid (_ = _) := hW2
  clear hW2 hI hN hLT
  have K2 := k1.trans k2
  clear k1 k2
  go_wp2_with (first | (go_at_call 11; refine (num11 _ _).mono ?_; rintro e wn ⟨rfl, en⟩; subst wn) | (go_at_call 10; rw [← HW2.out]; clear HW2; refine hR.mono ?_; clear hR; rintro e w3 ⟨b, rfl, C3, k3⟩; obtain ⟨W4, hW4⟩ : ∃ W4, W4 = (w3.alloc (.cells #[.int .i64 1, .int .i64 6, .slice (some ⟨b, 0, none⟩) 2 2, .int .i64 4] 36)).alloc (.cells #[.int .i64 6, .int .i64 7] 2) := ⟨_, rfl⟩; have HW4 : Hid (_ = _) := hW4; clear hW4) | (go_at_call 14; rw [← HW4.out]; have K4 : Keeps (fun _ => False) w3 W4 := (by rw [HW4.out]; exact ((Keeps.refl _ w3).alloc _).alloc _); have hB : NUM W4 (some ⟨w3.heap.size + 1, 0, none⟩) [6, 7] := (by rw [HW4.out]; exact two_num w3 _ 6 7); refine (same_ok (xs := [6, 7]) 2 2 1 6 4 ((NUM.ofCL C3).keep K4) hB (by decide)).mono ?_; rintro e w5 ⟨rfl, k5⟩))
  go_ret
  exact ⟨rfl, ((K2.trans k3).trans K4).trans k5⟩
set_option maxHeartbeats 400000 in
set_option maxRecDepth 1000000 in
theorem names11 {w : World} (hT : PT w) (hNT : NT w) : Calls Tryz.prog 3 #[] w fun e w' => e = .returned (.bool true) ∧ Below w.heap.size w w' := by
  have hH := head11 hT hNT
  clear hT hNT
  go_enter Tryz.func3, Tryz.ntmps3
  go_wp2_with (go_at_call 9; refine hH.mono ?_; clear hH; rintro e w1 ⟨rfl, k1⟩)
  go_ret
  exact ⟨rfl, k1.below (Nat.le_refl _) (fun _ _ e => e)⟩
end Go.Proofs.YtblcjohhelokkaaGreatDoor
namespace Go.Proofs.YtblcjohhelokkaaGreatDoor
open Go.RowKit
section
variable {l : List Ins} {os : List Int} {gs : List (Bool × Int)}
theorem gor_end (f c : Nat) {s : Rs} (h : ¬ s.oc = 0) : gor l os gs f c s = (s, c) := by
  cases f with
  | zero => rfl
  | succ f => exact if_neg h
theorem gor_step (f c : Nat) {s : Rs} (h : s.oc = 0) : gor l os gs (f + 1) c s = gor l os gs f (c + 1) (mstp os gs (atI l s.pl.toNat) s) := if_pos h
theorem gor_count : ∀ (f c : Nat) (s : Rs), c ≤ (gor l os gs f c s).2 ∧ (gor l os gs f c s).2 ≤ c + f ∧ ((gor l os gs f c s).1.oc = 0 → (gor l os gs f c s).2 = c + f) ∧ (s.oc = 0 → ¬ (gor l os gs f c s).1.oc = 0 → c + 1 ≤ (gor l os gs f c s).2)
  | 0, c, s => ⟨Nat.le_refl _, Nat.le_refl _, fun _ => rfl, fun h h2 => (h2 h).elim⟩
  | f + 1, c, s => by
    by_cases h : s.oc = 0
    · rw [gor_step f c h]
      have := gor_count f (c + 1) (mstp os gs (atI l s.pl.toNat) s)
      exact ⟨by omega, by omega, fun h => by have := this.2.2.1 h; omega, fun _ _ => this.1⟩
    · rw [gor_end (f + 1) c h]
      exact ⟨Nat.le_refl _, Nat.le_add_right _ _, fun h2 => (h h2).elim, fun h2 => (h h2).elim⟩
theorem gor_mono : ∀ (f c : Nat) (s : Rs), ¬ (gor l os gs f c s).1.oc = 0 → ∀ f', (gor l os gs f c s).2 ≤ c + f' → gor l os gs f' c s = gor l os gs f c s
  | 0, c, s, h, f', _ => gor_end f' c h
  | f + 1, c, s, h, f', hf => by
    by_cases h0 : s.oc = 0
    · rw [gor_step f c h0] at h hf ⊢
      have hc := (gor_count (l := l) (os := os) (gs := gs) f (c + 1) (mstp os gs (atI l s.pl.toNat) s)).1
      obtain ⟨f'', rfl⟩ : ∃ f'', f' = f'' + 1 := ⟨f' - 1, by omega⟩
      rw [gor_step f'' c h0]
      exact gor_mono f (c + 1) _ h f'' (by omega)
    · rw [gor_end (f + 1) c h0, gor_end f' c h0]
theorem gor_below : ∀ (f c : Nat) (s : Rs), s.oc = 0 → ¬ (gor l os gs f c s).1.oc = 0 → ∀ n, c + n + 1 = (gor l os gs f c s).2 → (gor l os gs n c s).1.oc = 0 ∧ (gor l os gs n c s).2 = c + n
  | 0, _, _, h0, h, _, _ => (h h0).elim
  | f + 1, c, s, h0, h, n, hn => by
    cases n with
    | zero => exact ⟨h0, rfl⟩
    | succ n =>
      rw [gor_step f c h0] at h hn
      rw [gor_step n c h0]
      by_cases h1 : (mstp os gs (atI l s.pl.toNat) s).oc = 0
      · have := gor_below f (c + 1) _ h1 h n (by omega)
        exact ⟨this.1, by omega⟩
      · rw [gor_end f (c + 1) h1] at hn
        have hn : c + (n + 1) + 1 = c + 1 := hn
        omega
/-- A result comes of a commit alone. -/
theorem mstp_rs (q : Ins) (s : Rs) (h : s.rs = 0) : (mstp os gs q s).oc = 1 ∨ (mstp os gs q s).rs = 0 := by
  have hr : ∀ x, (s.inc.rdo os gs x).rs = s.rs := fun x => by unfold Rs.rdo; split <;> rfl
  have hw : ∀ x, (s.inc.wro os x).rs = s.rs := fun x => by unfold Rs.wro; split <;> rfl
  unfold mstp
  split
  · split
    · right
      unfold mstpO
      split
      · exact (hr _).trans h
      · split
        · exact (hw _).trans h
        · split
          · exact (hw _).trans h
          · split <;> exact h
    · exact .inr h
  · split
    · exact .inr h
    · split
      · exact .inr h
      · split
        · split <;> exact .inr h
        · split
          · exact .inr h
          · split
            · exact .inr h
            · exact .inl rfl
theorem gor_rs : ∀ (f c : Nat) (s : Rs), (s.oc = 1 ∨ s.rs = 0) → ((gor l os gs f c s).1.oc = 1 ∨ (gor l os gs f c s).1.rs = 0)
  | 0, _, _, h => h
  | f + 1, c, s, h => by
    by_cases h0 : s.oc = 0
    · rw [gor_step f c h0]
      exact gor_rs f (c + 1) _ (mstp_rs _ s (h.resolve_left (by omega)))
    · rw [gor_end (f + 1) c h0]; exact h
end
end Go.Proofs.YtblcjohhelokkaaGreatDoor
namespace Go.Proofs.YtblcjohhelokkaaGreatDoor
open Go.RowKit
attribute [local go_sem] Oper.semAt_some run_store_nf run_store_f
theorem run_fine {w : World} {a ao ag : Option Addr} {cap co cg : Nat} {l : List Ins} {os : List Int} {gs : List (Bool × Int)} (hT : LT w) (hl : ISL w a l) (hO : NUM w ao os) (hG : GVN w ag gs) (hc : (chk l).1 = 0) (h16 : os.length ≤ 16) (h40 : gs.length ≤ 4096) (f : Nat) (hf : f ≤ 10000) {F : Rs × Nat} (hF : gor l os gs f 0 rs0 = F) {L : List Int} (hL : lft os F.1 os.length = L) : Calls Tryz.prog 10 #[.slice a l.length cap, .slice ao os.length co, .slice ag gs.length cg, .int .i64 (f : Int)] w fun e w' => ∃ b, e = .returned (.tuple #[.agg #[.int .i64 F.1.oc, .int .i64 F.1.rs, .slice (some ⟨b, 0, none⟩) os.length os.length, .int .i64 (F.2 : Int)], .int .i64 0]) ∧ CL w' b (nvs L) ∧ Keeps (fun _ => False) w w' := by
  have hl64 := (chk_ok hc).1
  refine (run_any (cap := cap) (co := co) (cg := cg) hT hl (by omega) hO hG (f : Int)).mono ?_
  rintro e w' ⟨v, x, rfl, hP, k⟩
  have hr : rfs os.length gs.length (f : Int) = 0 := by
    unfold rfs
    rw [if_neg (by omega), if_neg (by omega), if_neg (by omega)]
  rcases hP with ⟨h0, _⟩ | ⟨_, h1, _⟩ | ⟨_, _, rfl, b, _, rfl, hC, _⟩
  · exact (h0 hc).elim
  · exact (h1 hr).elim
  · rw [Int.toNat_natCast, hF] at hC ⊢
    rw [hL] at hC
    exact ⟨b, rfl, hC, k⟩
theorem run_bad {w : World} {a ao ag : Option Addr} {cap co cg : Nat} {l : List Ins} {os : List Int} {gs : List (Bool × Int)} (hT : LT w) (hl : ISL w a l) (hlen : l.length ≤ 9223372036854775807) (hO : NUM w ao os) (hG : GVN w ag gs) (fuel : Int) (hb : ¬ ((chk l).1 = 0 ∧ rfs os.length gs.length fuel = 0)) : Calls Tryz.prog 10 #[.slice a l.length cap, .slice ao os.length co, .slice ag gs.length cg, .int .i64 fuel] w fun e w' => ∃ x, e = .returned (.tuple #[zA, .int .i64 x]) ∧ ¬ x = 0 ∧ Keeps (fun _ => False) w w' := by
  refine (run_any (cap := cap) (co := co) (cg := cg) hT hl hlen hO hG fuel).mono ?_
  rintro e w' ⟨v, x, rfl, hP, k⟩
  rcases hP with ⟨h0, rfl, rfl⟩ | ⟨_, h1, rfl, rfl⟩ | ⟨h0, h1, _⟩
  · exact ⟨_, rfl, h0, k⟩
  · exact ⟨_, rfl, h1, k⟩
  · exact (hb ⟨h0, h1⟩).elim
set_option maxHeartbeats 1600000 in
set_option maxRecDepth 1000000 in
theorem fuel_any {w : World} {a ao ag : Option Addr} {cap co cg : Nat} {l : List Ins} {os : List Int} {gs : List (Bool × Int)} (hT : PT w) (hNT : NT w) (hl : ISL w a l) (hlen : l.length * 88 ≤ 140737488355328) (hO : NUM w ao os) (hG : GVN w ag gs) (fuel : Int) (_hr : -9223372036854775808 ≤ fuel ∧ fuel ≤ 9223372036854775807) : Calls Tryz.prog 5 #[.slice a l.length cap, .slice ao os.length co, .slice ag gs.length cg, .int .i64 fuel] w fun e w' => e = .returned (.bool true) ∧ Below w.heap.size w w' := by
  have hH := head11 hT hNT
  have hLT := hT.lt
  clear hT hNT
  by_cases hb : (chk l).1 = 0 ∧ rfs os.length gs.length fuel = 0
  · obtain ⟨hc, hr⟩ := hb
    obtain ⟨h16, h40, hf0, hf1⟩ := rfs_ok hr
    obtain ⟨f, rfl⟩ : ∃ f : Nat, fuel = (f : Int) := ⟨fuel.toNat, by omega⟩
    clear hr _hr
    obtain ⟨F, hF⟩ : ∃ F, gor l os gs f 0 rs0 = F := ⟨_, rfl⟩
    have gc := gor_count (l := l) (os := os) (gs := gs) f 0 rs0
    have gr := gor_rs (l := l) (os := os) (gs := gs) f 0 rs0 (.inr rfl)
    have gm := gor_mono (l := l) (os := os) (gs := gs) f 0 rs0
    have gb := gor_below (l := l) (os := os) (gs := gs) f 0 rs0 rfl
    rw [hF] at gc gr gm gb
    have lno := lft_no os F.1 os.length
    have hRF := fun W (k : Keeps (fun _ => False) w W) a' cap' (hI : ISL W a' l) (g : Nat) (hg : g ≤ 10000) (G : Rs × Nat) (hG' : gor l os gs g 0 rs0 = G) (L : List Int) (hL : lft os G.1 os.length = L) => run_fine (cap := cap') (co := co) (cg := cg) (hLT.keep k) hI (hO.keep k) (hG.keep k) hc h16 h40 g hg hG' hL
    have hNS := fun W (k : Keeps (fun _ => False) w W) => hO.keep k
    have hPr := fun W (k : Keeps (fun _ => False) w W) => prog_any (cap := cap) (hl.keep k) hlen
    clear hLT hO hG hl
    obtain ⟨⟨rg, st, nm, rd, pl, oc, rs⟩, c⟩ := F
    simp only at gc gr gm gb lno
    have b1 : decide ((f : Int) < 0) = false := decide_eq_false (by omega)
    have b2 : decide ((10000 : Int) < (f : Int)) = false := decide_eq_false (by omega)
    have b3 : decide ((c : Int) < 0) = false := decide_eq_false (by omega)
    have b4 : decide ((f : Int) < (c : Int)) = false := decide_eq_false (by omega)
    have L16 : (lft os ⟨rg, st, nm, rd, pl, oc, rs⟩ os.length).length = os.length := lft_len _ _ _
    have n3 : ¬ (f : Int) < 0 := by omega
    by_cases h0 : oc = 0
    · subst h0
      have ec : c = f := by have := gc.2.2.1 rfl; omega
      subst ec
      have er : rs = 0 := gr.resolve_left (by decide)
      subst er
      have eo := lno (by decide)
      clear gc gr gm gb lno
      obtain ⟨L, hLx⟩ : ∃ L, os = L := ⟨_, rfl⟩
      subst hLx
      have hLe := eo
      generalize hN : os.length = N at *
      go_enter Tryz.func5, Tryz.ntmps5
      go_wp2_with (first | (go_at_call 9; refine hH.mono ?_; clear hH; rintro e w1 ⟨rfl, k1⟩) | (go_at_call 13; refine (hPr w1 k1).mono ?_; clear hPr; rintro e w2 ⟨v, rfl, hown, k2⟩; obtain ⟨a', cap', rfl, hI⟩ := isl_of_owns hown rfl; clear hown; have K2 := k1.trans k2) | (go_at_call 10; refine (hRF w2 K2 a' cap' hI c (by omega) _ hF os hLe).mono ?_; clear hRF; rintro e w3 ⟨b3, rfl, C3, k3⟩; have K3 := K2.trans k3; have s3 := C3; obtain ⟨W3, hW3⟩ : ∃ W3, W3 = w3.alloc (.cells #[.int .i64 0, .int .i64 0, .slice (some ⟨b3, 0, none⟩) N N, .int .i64 (c : Int)] 36) := ⟨_, rfl⟩; have HW3 : Hid (_ = _) := hW3; clear hW3; have KA : Keeps (fun _ => False) w3 W3 := (by rw [HW3.out]; exact (Keeps.refl _ w3).alloc _); have CA : CL W3 w3.heap.size [.int .i64 0, .int .i64 0, .slice (some ⟨b3, 0, none⟩) N N, .int .i64 (c : Int)] := (by rw [HW3.out]; exact CL.made w3 _ _); have x0 := CA.c 0 _ rfl; have x1 := CA.c 1 _ rfl; have x2 := CA.c 2 _ rfl; have x3 := CA.c 3 _ rfl) | (go_at_call 11; rw [← HW3.out]; refine (num11 _ _).mono ?_; rintro e wn ⟨rfl, en⟩; subst wn; have hsm := sameNums_ok (xs := os) N co ((NUM.ofCL C3).keep KA) (hNS W3 (K3.trans KA)) (by omega); rw [hN] at hsm) | (go_at_call 12; refine hsm.mono ?_; clear hsm; rintro e w4 ⟨rfl, k4⟩))
      go_ret
      exact ⟨rfl, ((K3.trans KA).trans k4).below (Nat.le_refl _) (fun _ _ e => e)⟩
    · have h0b : (oc == 0) = false := by simpa using h0
      have hc1 := gc.2.2.2 rfl h0
      obtain ⟨m, hm⟩ : ∃ m : Nat, c = m + 1 := ⟨c - 1, by omega⟩
      have hF2 := gm h0 c (by omega)
      have hF3 := gm h0 10000 (by omega)
      obtain ⟨g1, g2⟩ := gb h0 m (by omega)
      obtain ⟨G, hGe⟩ : ∃ G, gor l os gs m 0 rs0 = G := ⟨_, rfl⟩
      rw [hGe] at g1 g2
      obtain ⟨⟨rg', st', nm', rd', pl', oc', rs'⟩, c'⟩ := G
      simp only at g1 g2
      subst g1
      have g3 : c' = m := by omega
      clear g2
      subst g3
      have hw : IntKind.i64.wrap ((c : Int) - 1) = (c' : Int) := by rw [IntKind.wrap_i64]; omega
      have b5 : decide ((c : Int) < 1) = false := decide_eq_false (by omega)
      have hm10 : c' ≤ 10000 := by omega
      have hc10 : c ≤ 10000 := by omega
      have b6 : decide (f < c) = false := decide_eq_false (by omega)
      have b7 : ¬ f < c := by omega
      have b8 : ¬ c < 1 := by omega
      have b9 : decide (c < 1) = false := decide_eq_false (by omega)
      obtain ⟨L, hLe⟩ : ∃ L, lft os ⟨rg, st, nm, rd, pl, oc, rs⟩ os.length = L := ⟨_, rfl⟩
      rw [hLe] at L16
      have hR3 := fun W (k : Keeps (fun _ => False) w W) a' cap' (hI : ISL W a' l) => hRF W k a' cap' hI 10000 (Nat.le_refl _) _ hF3 L hLe
      rw [show ((10000 : Nat) : Int) = 10000 from rfl] at hR3
      clear gc gr gm gb lno hm hF3
      generalize hN : os.length = N at *
      go_enter Tryz.func5, Tryz.ntmps5
      go_wp2_with (first | (go_at_call 9; refine hH.mono ?_; clear hH; rintro e w1 ⟨rfl, k1⟩) | (go_at_call 13; refine (hPr w1 k1).mono ?_; clear hPr; rintro e w2 ⟨v, rfl, hown, k2⟩; obtain ⟨a', cap', rfl, hI⟩ := isl_of_owns hown rfl; clear hown; have K2 := k1.trans k2; clear k1 k2) | (go_at_call 10; refine (hRF w2 K2 a' cap' hI f (by omega) _ hF L hLe).mono ?_; clear hF; rintro e w3 ⟨b3, rfl, C3, k3⟩; obtain ⟨W3, hW3⟩ : ∃ W3, W3 = w3.alloc (.cells #[.int .i64 oc, .int .i64 rs, .slice (some ⟨b3, 0, none⟩) N N, .int .i64 (c : Int)] 36) := ⟨_, rfl⟩; have HW3 : Hid (_ = _) := hW3; clear hW3; have KA3 : Keeps (fun _ => False) w3 W3 := (by rw [HW3.out]; exact (Keeps.refl _ w3).alloc _); have CA3 : CL W3 w3.heap.size [.int .i64 oc, .int .i64 rs, .slice (some ⟨b3, 0, none⟩) N N, .int .i64 (c : Int)] := (by rw [HW3.out]; exact CL.made w3 _ _); have x0 := CA3.c 0 _ rfl; have x1 := CA3.c 1 _ rfl; have x2 := CA3.c 2 _ rfl; have x3 := CA3.c 3 _ rfl; have K3 := (K2.trans k3).trans KA3; have hI3 := hI.keep (k3.trans KA3); have N3 := (NUM.ofCL C3).keep KA3; clear K2 k3 KA3 C3 hI) | (go_at_call 10; refine (hRF W3 K3 a' cap' hI3 c hc10 _ hF2 L hLe).mono ?_; clear hF2; rintro e w4 ⟨b4, rfl, C4, k4⟩; obtain ⟨W4, hW4⟩ : ∃ W4, W4 = w4.alloc (.cells #[.int .i64 oc, .int .i64 rs, .slice (some ⟨b4, 0, none⟩) N N, .int .i64 (c : Int)] 36) := ⟨_, rfl⟩; have HW4 : Hid (_ = _) := hW4; clear hW4; have KA4 : Keeps (fun _ => False) w4 W4 := (by rw [HW4.out]; exact (Keeps.refl _ w4).alloc _); have CA4 : CL W4 w4.heap.size [.int .i64 oc, .int .i64 rs, .slice (some ⟨b4, 0, none⟩) N N, .int .i64 (c : Int)] := (by rw [HW4.out]; exact CL.made w4 _ _); have k4 := k4.trans KA4; have K4 := K3.trans k4; have hI4 := hI3.keep k4; have N4 := (NUM.ofCL C4).keep KA4; have A4 := CA3.keep (by show 0 < 4; decide) k4 (fun e => e); clear K3 C4 hI3) | (go_at_call 10; rw [← HW4.out]; refine (hR3 W4 K4 a' cap' hI4).mono ?_; clear hR3; rintro e w5 ⟨b5, rfl, C5, k5⟩; obtain ⟨W5, hW5⟩ : ∃ W5, W5 = w5.alloc (.cells #[.int .i64 oc, .int .i64 rs, .slice (some ⟨b5, 0, none⟩) N N, .int .i64 (c : Int)] 36) := ⟨_, rfl⟩; have HW5 : Hid (_ = _) := hW5; clear hW5; have KA5 : Keeps (fun _ => False) w5 W5 := (by rw [HW5.out]; exact (Keeps.refl _ w5).alloc _); have CA5 : CL W5 w5.heap.size [.int .i64 oc, .int .i64 rs, .slice (some ⟨b5, 0, none⟩) N N, .int .i64 (c : Int)] := (by rw [HW5.out]; exact CL.made w5 _ _); have k5 := k5.trans KA5; have K5 := K4.trans k5; have hI5 := hI4.keep k5; have N5 := (NUM.ofCL C5).keep KA5; have A5 := A4.keep (by show 0 < 4; decide) k5 (fun e => e); have B5 := CA4.keep (by show 0 < 4; decide) k5 (fun e => e); have M3 := N3.keep (k4.trans k5); have M4 := N4.keep k5; have hs1 := same_ok (xs := L) N N oc rs (c : Int) M3 M4 (by omega); rw [L16] at hs1; have y0 := A5.c 0 _ rfl; have y1 := A5.c 1 _ rfl; have y2 := A5.c 2 _ rfl; have y3 := A5.c 3 _ rfl; have z0 := B5.c 0 _ rfl; have z1 := B5.c 1 _ rfl; have z2 := B5.c 2 _ rfl; have z3 := B5.c 3 _ rfl; clear K4 C5 hI4) | (go_at_call 14; refine (show Calls Tryz.prog 14 _ W5 _ from hs1).mono ?_; clear hs1; rintro e w6 ⟨rfl, k6⟩; have A6 := A5.keep (by show 0 < 4; decide) k6 (fun e => e); have C6 := CA5.keep (by show 0 < 4; decide) k6 (fun e => e); have p0 := A6.c 0 _ rfl; have p1 := A6.c 1 _ rfl; have p2 := A6.c 2 _ rfl; have p3 := A6.c 3 _ rfl; have q0 := C6.c 0 _ rfl; have q1 := C6.c 1 _ rfl; have q2 := C6.c 2 _ rfl; have q3 := C6.c 3 _ rfl; have hs2 := same_ok (xs := L) N N oc rs (c : Int) (M3.keep k6) (N5.keep k6) (by omega); rw [L16] at hs2) | (go_at_call 14; refine hs2.mono ?_; clear hs2; rintro e w7 ⟨rfl, k7⟩; have A7 := A6.keep (by show 0 < 4; decide) k7 (fun e => e); have r3 := A7.c 3 _ rfl; have K7 := (K5.trans k6).trans k7; have hI7 := hI5.keep (k6.trans k7)) | (go_at_call 10; refine (hRF w7 K7 a' cap' hI7 c' hm10 _ hGe _ rfl).mono ?_; clear hRF hGe; rintro e w8 ⟨b8, rfl, C8, k8⟩; obtain ⟨W8, hW8⟩ : ∃ W8, W8 = w8.alloc (.cells #[.int .i64 0, .int .i64 rs', .slice (some ⟨b8, 0, none⟩) N N, .int .i64 (c' : Int)] 36) := ⟨_, rfl⟩; have HW8 : Hid (_ = _) := hW8; clear hW8; have KA8 : Keeps (fun _ => False) w8 W8 := (by rw [HW8.out]; exact (Keeps.refl _ w8).alloc _); have CA8 : CL W8 w8.heap.size [.int .i64 0, .int .i64 rs', .slice (some ⟨b8, 0, none⟩) N N, .int .i64 (c' : Int)] := (by rw [HW8.out]; exact CL.made w8 _ _); have K8 := (K7.trans k8).trans KA8; have A8 := A7.keep (by show 0 < 4; decide) (k8.trans KA8) (fun e => e); have u3 := A8.c 3 _ rfl; have v0 := CA8.c 0 _ rfl; have v1 := CA8.c 1 _ rfl; have v2 := CA8.c 2 _ rfl; have v3 := CA8.c 3 _ rfl) | (go_at_call 11; rw [← HW3.out]; clear HW3; refine (num11 _ _).mono ?_; rintro e wn ⟨rfl, en⟩; subst wn) | (go_at_call 11; rw [← HW5.out]; clear HW5; refine (num11 _ _).mono ?_; rintro e wn ⟨rfl, en⟩; subst wn) | (go_at_call 11; rw [← HW8.out]; clear HW8; refine (num11 _ _).mono ?_; rintro e wn ⟨rfl, en⟩; subst wn) | (go_at_call 11; refine (num11 _ _).mono ?_; rintro e wn ⟨rfl, en⟩; subst wn))
      go_ret
      exact ⟨rfl, K8.below (Nat.le_refl _) (fun _ _ e => e)⟩
  · have hRB := fun W (k : Keeps (fun _ => False) w W) a' cap' (hI : ISL W a' l) => run_bad (cap := cap') (co := co) (cg := cg) (hLT.keep k) hI (by omega) (hO.keep k) (hG.keep k) fuel hb
    have hPr := fun W (k : Keeps (fun _ => False) w W) => prog_any (cap := cap) (hl.keep k) hlen
    clear hLT hO hG hl hb _hr
    generalize os.length = N at *
    generalize gs.length = M at *
    go_enter Tryz.func5, Tryz.ntmps5
    go_wp2_with (first | (go_at_call 9; refine hH.mono ?_; clear hH; rintro e w1 ⟨rfl, k1⟩) | (go_at_call 13; refine (hPr w1 k1).mono ?_; clear hPr; rintro e w2 ⟨v, rfl, hown, k2⟩; obtain ⟨a', cap', rfl, hI⟩ := isl_of_owns hown rfl; clear hown; have K2 := k1.trans k2) | (go_at_call 10; refine (hRB w2 K2 a' cap' hI).mono ?_; clear hRB; rintro e w3 ⟨x, rfl, hx, k3⟩; unfold zA; have hxb : (x != 0) = true := (by simpa using hx)) | (go_at_call 11; refine (num11 _ _).mono ?_; rintro e wn ⟨rfl, en⟩; subst wn))
    go_ret
    exact ⟨rfl, ((K2.trans k3).alloc _).below (Nat.le_refl _) (fun _ _ e => e)⟩
end Go.Proofs.YtblcjohhelokkaaGreatDoor
namespace Go.Proofs.YtblcjohhelokkaaGreatDoor
open Go.RowKit Go.Deep Go.ChangeShapes Go.WideShapes Go.ChangeAt
/-- Numbers that were handed in. -/
theorem open_nums {H : Type} {enc : TypeId × Value → H} {P : Program} {W : World} {spare : Nat → Bool} {held : Bool} {t e : TypeId} {fuel : Nat} {a : Option Addr} {len cap : Nat} {x : DataW H × List MemPlace}
    (ht : P.underlying t = some (.slice e)) (he : P.underlying e = some (.int .i64)) (ce : P.cellsOf e = 1)
    (h : DataW.trod enc P W 0 spare held fuel t [.slice a len cap] = some x) : ∃ l : List Int, l.length = len ∧ NUM W a l := by
  by_cases h0 : len = 0
  · subst h0
    exact ⟨[], rfl, fun i x hi => by simp at hi⟩
  rcases open_slice ht h with ⟨hcs, _⟩ | ⟨a', len', cap', m, n, D, Pl, hcs, hb, hl, hm, hmm, rfl, hx⟩
  · simp at hcs; omega
  simp at hcs
  obtain ⟨rfl, rfl, rfl⟩ := hcs
  have hlm : len ≤ m := by rw [hmm]; split <;> omega
  have each : ∀ i, i < len → ∃ v : Int, W.cell? (a'.add i) = some (.int .i64 v) := by
    intro i hi
    obtain ⟨cs', h1, h2⟩ := hx i (by omega)
    rw [ce] at h1
    obtain ⟨_, hlen, hcell⟩ := World.cells?_some h1
    obtain ⟨v, rfl, _⟩ := DataW.trod_int he h2
    have cj := hcell 0 (by omega)
    rw [add_add] at cj
    refine ⟨v, ?_⟩
    simpa using cj
  obtain ⟨b, off, spot⟩ := a'
  obtain ⟨v0, z0⟩ := each 0 (by omega)
  have hspot : spot = none := by simpa [Addr.add] using World.cell?_spot z0
  subst hspot
  obtain ⟨V, hV⟩ := choose_lt each
  refine ⟨(List.range len).map V, by simp, fun i x hi => ?_⟩
  have hil : i < len := by have := (List.getElem?_eq_some_iff.1 hi).1; simpa using this
  have : x = V i := by simpa [hil] using hi.symm
  subst this
  have hv := hV i hil
  rw [add_at] at hv
  exact ⟨b, off, rfl, hv⟩
/-- Given reads that were handed in. -/
theorem open_givs {H : Type} {enc : TypeId × Value → H} {P : Program} {W : World} {spare : Nat → Bool} {held : Bool} {t e : TypeId} {g0 g1 : Field} {fuel : Nat} {a : Option Addr} {len cap : Nat} {x : DataW H × List MemPlace}
    (ht : P.underlying t = some (.slice e)) (hs : P.underlying e = some (.struct #[g0, g1])) (ce : P.cellsOf e = 2) (o0 : g0.offset = 0) (o1 : g1.offset = 1) (c0 : P.cellsOf g0.type = 1) (c1 : P.cellsOf g1.type = 1) (u0 : P.underlying g0.type = some .bool) (u1 : P.underlying g1.type = some (.int .i64))
    (h : DataW.trod enc P W 0 spare held fuel t [.slice a len cap] = some x) : ∃ l : List (Bool × Int), l.length = len ∧ GVN W a l := by
  by_cases h0 : len = 0
  · subst h0
    exact ⟨[], rfl, fun i x hi => by simp at hi⟩
  rcases open_slice ht h with ⟨hcs, _⟩ | ⟨a', len', cap', m, n, D, Pl, hcs, hb, hl, hm, hmm, rfl, hx⟩
  · simp at hcs; omega
  simp at hcs
  obtain ⟨rfl, rfl, rfl⟩ := hcs
  have hlm : len ≤ m := by rw [hmm]; split <;> omega
  have each : ∀ i, i < len → ∃ q : Bool × Int, W.cell? (a'.add (i * 2)) = some (.bool q.1) ∧ W.cell? (a'.add (i * 2 + 1)) = some (.int .i64 q.2) := by
    intro i hi
    obtain ⟨cs', h1, h2⟩ := hx i (by omega)
    rw [ce] at h1
    obtain ⟨_, hlen, hcell⟩ := World.cells?_some h1
    match cs', hlen with
    | [z0, z1], _ =>
      obtain ⟨b, q, rfl, rfl⟩ := open_opd hs o0 o1 c0 c1 u0 u1 h2
      have cj := hcell 0 (by omega)
      have ck := hcell 1 (by omega)
      rw [add_add] at cj ck
      refine ⟨(b, q), ?_, ?_⟩
      · simpa using cj
      · simpa using ck
  obtain ⟨b, off, spot⟩ := a'
  obtain ⟨q0, z0, _⟩ := each 0 (by omega)
  have hspot : spot = none := by simpa [Addr.add] using World.cell?_spot z0
  subst hspot
  obtain ⟨V, hV⟩ := choose_lt each
  refine ⟨(List.range len).map V, by simp, fun i x hi => ?_⟩
  have hil : i < len := by have := (List.getElem?_eq_some_iff.1 hi).1; simpa using this
  have : x = V i := by simpa [hil] using hi.symm
  subst this
  obtain ⟨hv, hu⟩ := hV i hil
  rw [add_at] at hv hu
  exact ⟨b, off, rfl, hv, by rw [← Nat.add_assoc] at hu; exact hu⟩
end Go.Proofs.YtblcjohhelokkaaGreatDoor
namespace Go.Proofs.YtblcjohhelokkaaGreatDoor
open Go.RowKit
/-- Is there such a code among the first? -/
def ac (l : List Ins) (c : Int) : Nat → Bool
  | 0 => false
  | k + 1 => ac l c k || ((l.getD k ins0).code == c)
theorem ac_no {l : List Ins} {c : Int} : ∀ n, ac l c n = false → ∀ p, p < n → ¬ (l.getD p ins0).code = c
  | 0, _, p, h => by omega
  | n + 1, h, p, hp => by
    have h : (ac l c n || ((l.getD n ins0).code == c)) = false := h
    rw [Bool.or_eq_false_iff] at h
    by_cases e : p = n
    · subst e; simpa using h.2
    · exact ac_no n h.1 p (by omega)
theorem ac_yes {l : List Ins} {c : Int} : ∀ n p, p < n → (l.getD p ins0).code = c → ac l c n = true
  | 0, _, h, _ => by omega
  | n + 1, p, h, e => by
    show (ac l c n || ((l.getD n ins0).code == c)) = true
    by_cases e2 : p = n
    · subst e2; rw [e]; simp
    · rw [ac_yes n p (by omega) e]; rfl
section
variable {l : List Ins} {os : List Int} {gs : List (Bool × Int)}
/-- Own objects hold what they held. -/
def Jo (os : List Int) (s : Rs) : Prop := ∀ i, s.st i = 2 → s.nm i = os.getD i 0
theorem Jo.rdo {s : Rs} (h : Jo os s) (x : Nat) : Jo os (s.rdo os gs x) := by
  unfold Rs.rdo
  split
  · intro i hi
    simp only at hi ⊢
    by_cases e : i = x
    · rw [if_pos e] at hi; cases hi
    · rw [if_neg e] at hi ⊢; exact h i hi
  · exact h
theorem Jo.wro {s : Rs} (h : Jo os s) (x : Nat) : Jo os (s.wro os x) := by
  unfold Rs.wro
  split
  · exact h
  · intro i hi
    simp only at hi ⊢
    by_cases e : i = x
    · rw [if_pos e]; rw [e]
    · rw [if_neg e] at hi ⊢; exact h i hi
theorem mstp_J (q : Ins) (s : Rs) (hq : ¬ q.code = 3) (h : Jo os s) : Jo os (mstp os gs q s) := by
  have hi : Jo os s.inc := h
  unfold mstp
  split
  · split
    · unfold mstpO
      split
      · exact hi.rdo _
      · split
        · exact hi.wro _
        · split
          · intro i hi2
            simp only at hi2 ⊢
            by_cases e : i = (s.sv q.oR q.oN).toNat
            · rw [if_pos e] at hi2; cases hi2
            · rw [if_neg e] at hi2 ⊢; exact h i hi2
          · exact hi
    · exact hi
  · split
    · exact hi
    · split
      · exact hi
      · split
        · split <;> exact hi
        · split
          · exact hi
          · split <;> exact hi
theorem gor_J (hl : ∀ p, ¬ (atI l p).code = 3) : ∀ (f c : Nat) (s : Rs), Jo os s → Jo os (gor l os gs f c s).1
  | 0, _, _, h => h
  | f + 1, c, s, h => by
    by_cases h0 : s.oc = 0
    · rw [gor_step f c h0]
      exact gor_J hl f (c + 1) _ (mstp_J _ s (hl _) h)
    · rw [gor_end (f + 1) c h0]; exact h
theorem lft_J {s : Rs} (h : Jo os s) (k : Nat) : lft os s k = os := by
  unfold lft
  apply List.ext_getElem (by simp)
  intro i h1 h2
  rw [List.getElem_map, List.getElem_range]
  split
  · rename_i e
    rw [h i e.2.2, List.getD_eq_getElem?_getD, List.getElem?_eq_getElem h2]; rfl
  · rw [List.getD_eq_getElem?_getD, List.getElem?_eq_getElem h2]; rfl
theorem atI_no {c : Int} (hc : ¬ c = 10) (hc0 : ¬ c = 0) (h : ac l c l.length = false) (p : Nat) : ¬ (atI l p).code = c := by
  unfold atI
  split
  · exact fun e => hc e.symm
  · by_cases hp : p < l.length
    · exact ac_no _ h p hp
    · rw [List.getD_eq_getElem?_getD, List.getElem?_eq_none (by omega)]
      exact fun e => hc0 e.symm
/-- Without a put nothing is changed. -/
theorem gor_noput (h : ac l 3 l.length = false) (f : Nat) (k : Nat) : lft os (gor l os gs f 0 rs0).1 k = os :=
  lft_J (gor_J (atI_no (by decide) (by decide) h) f 0 rs0 (fun i hi => by cases hi)) k
/-- A result comes of a Done. -/
theorem mstp_rs2 (q : Ins) (s : Rs) (h : s.rs = 0) : (mstp os gs q s).rs = 0 ∨ (¬ q.code ≤ 9 ∧ (mstp os gs q s).oc = 1 ∧ (mstp os gs q s).rs = s.sv q.xR q.xN) := by
  by_cases h9 : q.code ≤ 9
  · left
    have hr : ∀ x, (s.inc.rdo os gs x).rs = s.rs := fun x => by unfold Rs.rdo; split <;> rfl
    have hw : ∀ x, (s.inc.wro os x).rs = s.rs := fun x => by unfold Rs.wro; split <;> rfl
    unfold mstp
    split
    · split
      · unfold mstpO
        split
        · exact (hr _).trans h
        · split
          · exact (hw _).trans h
          · split
            · exact (hw _).trans h
            · split <;> exact h
      · exact h
    · split
      · exact h
      · split
        · exact h
        · split
          · split <;> exact h
          · split
            · exact h
            · split
              · exact h
              · omega
  · right
    have e : mstp os gs q s = { s.inc with oc := 1, rs := s.inc.sv q.xR q.xN } := by
      unfold mstp
      rw [if_neg (by omega), if_neg (by omega), if_neg (by omega), if_neg (by omega), if_neg (by omega), if_neg (by omega)]
    rw [e]
    exact ⟨h9, rfl, rfl⟩
theorem gor_done (hcan : ∀ p, p < l.length → (l.getD p ins0).can l.length = true) : ∀ (f c : Nat) (s : Rs), (s.rs = 0 ∨ (ac l 10 l.length = true ∧ s.oc = 1)) → ((gor l os gs f c s).1.rs = 0 ∨ (ac l 10 l.length = true ∧ (gor l os gs f c s).1.oc = 1))
  | 0, _, _, h => h
  | f + 1, c, s, h => by
    by_cases h0 : s.oc = 0
    · rw [gor_step f c h0]
      have hr : s.rs = 0 := h.resolve_right (fun e => by omega)
      refine gor_done hcan f (c + 1) _ ?_
      rcases mstp_rs2 (os := os) (gs := gs) (atI l s.pl.toNat) s hr with h1 | ⟨h1, h2, h3⟩
      · exact .inl h1
      · by_cases hp : s.pl.toNat = l.length
        · left
          rw [h3]
          have : atI l s.pl.toNat = doneI := if_pos hp
          rw [this]; rfl
        · have e : atI l s.pl.toNat = l.getD s.pl.toNat ins0 := if_neg hp
          by_cases hlt : s.pl.toNat < l.length
          · right
            rw [e] at h1
            have := can_code (hcan _ hlt)
            exact ⟨ac_yes _ _ hlt (by omega), h2⟩
          · rw [e, List.getD_eq_getElem?_getD, List.getElem?_eq_none (by omega)] at h1
            exact (h1 (by decide)).elim
    · rw [gor_end (f + 1) c h0]; exact h
end
end Go.Proofs.YtblcjohhelokkaaGreatDoor
namespace Go.Proofs.YtblcjohhelokkaaGreatDoor
open Go.RowKit
attribute [local go_sem] Oper.semAt_some run_store_nf run_store_f
set_option maxHeartbeats 1600000 in
set_option maxRecDepth 1000000 in
theorem keeps_any {w : World} {a ao ag : Option Addr} {cap co cg : Nat} {l : List Ins} {os : List Int} {gs : List (Bool × Int)} (hT : PT w) (hNT : NT w) (hl : ISL w a l) (hlen : l.length * 88 ≤ 140737488355328) (hO : NUM w ao os) (hG : GVN w ag gs) (fuel : Int) (_hr : -9223372036854775808 ≤ fuel ∧ fuel ≤ 9223372036854775807) : Calls Tryz.prog 7 #[.slice a l.length cap, .slice ao os.length co, .slice ag gs.length cg, .int .i64 fuel] w fun e w' => e = .returned (.bool true) ∧ Below w.heap.size w w' := by
  have hH := head11 hT hNT
  have hLT := hT.lt
  clear hT hNT _hr
  have hPr := fun W (k : Keeps (fun _ => False) w W) => prog_any (cap := cap) (hl.keep k) hlen
  generalize hNl : l.length = M at *
  go_enter Tryz.func7, Tryz.ntmps7
  go_wp2_with (go_at_call 9; refine hH.mono ?_; clear hH; rintro e w1 ⟨rfl, k1⟩)
  go_loopw [9, 10, 11] (fun pv dv iv Wr => ∃ k : Nat, k ≤ M ∧ pv = .bool (ac l 3 k) ∧ dv = .bool (ac l 10 k) ∧ iv = .int .i64 (k : Int) ∧ Wr = w1) (fun _ _ iv _ => M - (intOf iv).toNat)
  case atStart => exact ⟨0, Nat.zero_le _, rfl, rfl, rfl, rfl⟩
  case round =>
    obtain ⟨k, hk, rfl, rfl, rfl, ew⟩ := hrel
    subst wr
    by_cases hlt : k < M
    · have hltI : decide ((k : Int) < (M : Int)) = true := by simp; omega
      have hltJ : (k : Int) < (M : Int) := by omega
      have hk0 : (0 : Int) ≤ (k : Int) := by omega
      have hw1 : IntKind.i64.wrap ((k : Int) + 1) = (k : Int) + 1 := by rw [IntKind.wrap_i64]; omega
      obtain ⟨b, off, rfl, hc⟩ := hl k (by omega)
      have c0 := k1.cell (hc 0 _ rfl) (fun e => e)
      have a3 : ac l 3 (k + 1) = (ac l 3 k || ((l.getD k ins0).code == 3)) := rfl
      have a10 : ac l 10 (k + 1) = (ac l 10 k || ((l.getD k ins0).code == 10)) := rfl
      rw [Nat.add_zero] at c0
      generalize (l.getD k ins0).code = cd at *
      cases h3 : ac l 3 k <;> cases h10 : ac l 10 k <;> rw [h3] at a3 <;> rw [h10] at a10
      all_goals
        clear hPr hc hl hO hG hLT
        go_wp2
        go_roundw
        case rel => exact ⟨k + 1, by omega, by rw [a3]; rfl, by rw [a10]; rfl, by go_num, by first | rfl | trivial⟩
        case measure => simp [intOf]; omega
    · obtain rfl : k = M := by omega
      have hltI : decide ((k : Int) < (k : Int)) = false := by simp
      subst hNl
      by_cases hb : (chk l).1 = 0 ∧ rfs os.length gs.length fuel = 0
      · obtain ⟨hc, hr⟩ := hb
        obtain ⟨h16, h40, hf0, hf1⟩ := rfs_ok hr
        obtain ⟨f, rfl⟩ : ∃ f : Nat, fuel = (f : Int) := ⟨fuel.toNat, by omega⟩
        clear hr
        obtain ⟨F, hF⟩ : ∃ F, gor l os gs f 0 rs0 = F := ⟨_, rfl⟩
        have gd := gor_done (l := l) (os := os) (gs := gs) (chk_ok hc).2 f 0 rs0 (.inl rfl)
        have gp := fun h => gor_noput (l := l) (os := os) (gs := gs) h f os.length
        rw [hF] at gd gp
        have lno := lft_no os F.1 os.length
        have hRF := fun W (k : Keeps (fun _ => False) w W) a' cap' (hI : ISL W a' l) => run_fine (cap := cap') (co := co) (cg := cg) (hLT.keep k) hI (hO.keep k) (hG.keep k) hc h16 h40 f (by omega) hF rfl
        have hNS := fun W (k : Keeps (fun _ => False) w W) => hO.keep k
        clear hLT hO hG hl
        obtain ⟨⟨rg, st, nm, rd, pl, oc, rs⟩, c⟩ := F
        simp only at gd gp lno
        generalize ac l 3 l.length = p at *
        generalize ac l 10 l.length = d at *
        generalize hN : os.length = N at *
        have hNN : ((N : Int) != (N : Int)) = false := by simp
        by_cases h1 : oc = 1
        · subst h1
          clear lno
          by_cases hr0 : rs = 0
          · subst hr0
            clear gd
            cases p with
            | true =>
              clear gp
              cases d
              all_goals
                go_wp2_with (first | (go_at_call 13; refine (hPr w1 k1).mono ?_; clear hPr; rintro e w2 ⟨v, rfl, hown, k2⟩; obtain ⟨a', cap', rfl, hI⟩ := isl_of_owns hown rfl; clear hown; have K2 := k1.trans k2) | (go_at_call 10; refine (hRF w2 K2 a' cap' hI).mono ?_; clear hRF; rintro e w3 ⟨b3, rfl, C3, k3⟩; have K3 := K2.trans k3; obtain ⟨W3, hW3⟩ : ∃ W3, W3 = w3.alloc (.cells #[.int .i64 1, .int .i64 0, .slice (some ⟨b3, 0, none⟩) N N, .int .i64 (c : Int)] 36) := ⟨_, rfl⟩; have HW3 : Hid (_ = _) := hW3; clear hW3; have KA : Keeps (fun _ => False) w3 W3 := (by rw [HW3.out]; exact (Keeps.refl _ w3).alloc _); have CA : CL W3 w3.heap.size [.int .i64 1, .int .i64 0, .slice (some ⟨b3, 0, none⟩) N N, .int .i64 (c : Int)] := (by rw [HW3.out]; exact CL.made w3 _ _); have x0 := CA.c 0 _ rfl; have x1 := CA.c 1 _ rfl; have x2 := CA.c 2 _ rfl; have x3 := CA.c 3 _ rfl) | (go_at_call 11; rw [← HW3.out]; refine (num11 _ _).mono ?_; rintro e wn ⟨rfl, en⟩; subst wn))
                go_ret
                exact ⟨rfl, (K3.trans KA).below (Nat.le_refl _) (fun _ _ e => e)⟩
            | false =>
              have hLe := gp rfl
              clear gp
              cases d
              all_goals
                go_wp2_with (first | (go_at_call 13; refine (hPr w1 k1).mono ?_; clear hPr; rintro e w2 ⟨v, rfl, hown, k2⟩; obtain ⟨a', cap', rfl, hI⟩ := isl_of_owns hown rfl; clear hown; have K2 := k1.trans k2) | (go_at_call 10; refine (hRF w2 K2 a' cap' hI).mono ?_; clear hRF; rintro e w3 ⟨b3, rfl, C3, k3⟩; have K3 := K2.trans k3; obtain ⟨W3, hW3⟩ : ∃ W3, W3 = w3.alloc (.cells #[.int .i64 1, .int .i64 0, .slice (some ⟨b3, 0, none⟩) N N, .int .i64 (c : Int)] 36) := ⟨_, rfl⟩; have HW3 : Hid (_ = _) := hW3; clear hW3; have KA : Keeps (fun _ => False) w3 W3 := (by rw [HW3.out]; exact (Keeps.refl _ w3).alloc _); have CA : CL W3 w3.heap.size [.int .i64 1, .int .i64 0, .slice (some ⟨b3, 0, none⟩) N N, .int .i64 (c : Int)] := (by rw [HW3.out]; exact CL.made w3 _ _); have x0 := CA.c 0 _ rfl; have x1 := CA.c 1 _ rfl; have x2 := CA.c 2 _ rfl; have x3 := CA.c 3 _ rfl) | (go_at_call 11; rw [← HW3.out]; refine (num11 _ _).mono ?_; rintro e wn ⟨rfl, en⟩; subst wn; have hsm := sameNums_ok (xs := os) N co ((NUM.ofCL (by have := C3; rw [hLe] at this; exact this)).keep KA) (hNS W3 (K3.trans KA)) (by omega); rw [hN] at hsm) | (go_at_call 12; refine hsm.mono ?_; clear hsm; rintro e w4 ⟨rfl, k4⟩))
                go_ret
                exact ⟨rfl, ((K3.trans KA).trans k4).below (Nat.le_refl _) (fun _ _ e => e)⟩
          · have hrb : (rs != 0) = true := by simpa using hr0
            obtain ⟨rfl, _⟩ := gd.resolve_left hr0
            clear gd
            cases p with
            | true =>
              clear gp
              go_wp2_with (first | (go_at_call 13; refine (hPr w1 k1).mono ?_; clear hPr; rintro e w2 ⟨v, rfl, hown, k2⟩; obtain ⟨a', cap', rfl, hI⟩ := isl_of_owns hown rfl; clear hown; have K2 := k1.trans k2) | (go_at_call 10; refine (hRF w2 K2 a' cap' hI).mono ?_; clear hRF; rintro e w3 ⟨b3, rfl, C3, k3⟩; have K3 := K2.trans k3; obtain ⟨W3, hW3⟩ : ∃ W3, W3 = w3.alloc (.cells #[.int .i64 1, .int .i64 rs, .slice (some ⟨b3, 0, none⟩) N N, .int .i64 (c : Int)] 36) := ⟨_, rfl⟩; have HW3 : Hid (_ = _) := hW3; clear hW3; have KA : Keeps (fun _ => False) w3 W3 := (by rw [HW3.out]; exact (Keeps.refl _ w3).alloc _); have CA : CL W3 w3.heap.size [.int .i64 1, .int .i64 rs, .slice (some ⟨b3, 0, none⟩) N N, .int .i64 (c : Int)] := (by rw [HW3.out]; exact CL.made w3 _ _); have x0 := CA.c 0 _ rfl; have x1 := CA.c 1 _ rfl; have x2 := CA.c 2 _ rfl; have x3 := CA.c 3 _ rfl) | (go_at_call 11; rw [← HW3.out]; refine (num11 _ _).mono ?_; rintro e wn ⟨rfl, en⟩; subst wn))
              go_ret
              exact ⟨rfl, (K3.trans KA).below (Nat.le_refl _) (fun _ _ e => e)⟩
            | false =>
              have hLe := gp rfl
              clear gp
              go_wp2_with (first | (go_at_call 13; refine (hPr w1 k1).mono ?_; clear hPr; rintro e w2 ⟨v, rfl, hown, k2⟩; obtain ⟨a', cap', rfl, hI⟩ := isl_of_owns hown rfl; clear hown; have K2 := k1.trans k2) | (go_at_call 10; refine (hRF w2 K2 a' cap' hI).mono ?_; clear hRF; rintro e w3 ⟨b3, rfl, C3, k3⟩; have K3 := K2.trans k3; obtain ⟨W3, hW3⟩ : ∃ W3, W3 = w3.alloc (.cells #[.int .i64 1, .int .i64 rs, .slice (some ⟨b3, 0, none⟩) N N, .int .i64 (c : Int)] 36) := ⟨_, rfl⟩; have HW3 : Hid (_ = _) := hW3; clear hW3; have KA : Keeps (fun _ => False) w3 W3 := (by rw [HW3.out]; exact (Keeps.refl _ w3).alloc _); have CA : CL W3 w3.heap.size [.int .i64 1, .int .i64 rs, .slice (some ⟨b3, 0, none⟩) N N, .int .i64 (c : Int)] := (by rw [HW3.out]; exact CL.made w3 _ _); have x0 := CA.c 0 _ rfl; have x1 := CA.c 1 _ rfl; have x2 := CA.c 2 _ rfl; have x3 := CA.c 3 _ rfl) | (go_at_call 11; rw [← HW3.out]; refine (num11 _ _).mono ?_; rintro e wn ⟨rfl, en⟩; subst wn; have hsm := sameNums_ok (xs := os) N co ((NUM.ofCL (by have := C3; rw [hLe] at this; exact this)).keep KA) (hNS W3 (K3.trans KA)) (by omega); rw [hN] at hsm) | (go_at_call 12; refine hsm.mono ?_; clear hsm; rintro e w4 ⟨rfl, k4⟩))
              go_ret
              exact ⟨rfl, ((K3.trans KA).trans k4).below (Nat.le_refl _) (fun _ _ e => e)⟩
        · have h1b : (oc != 1) = true := by simpa using h1
          obtain rfl : rs = 0 := gd.resolve_right (fun e => h1 e.2)
          have hLe := lno h1
          clear gd gp lno
          cases p <;> cases d
          all_goals
            go_wp2_with (first | (go_at_call 13; refine (hPr w1 k1).mono ?_; clear hPr; rintro e w2 ⟨v, rfl, hown, k2⟩; obtain ⟨a', cap', rfl, hI⟩ := isl_of_owns hown rfl; clear hown; have K2 := k1.trans k2) | (go_at_call 10; refine (hRF w2 K2 a' cap' hI).mono ?_; clear hRF; rintro e w3 ⟨b3, rfl, C3, k3⟩; have K3 := K2.trans k3; obtain ⟨W3, hW3⟩ : ∃ W3, W3 = w3.alloc (.cells #[.int .i64 oc, .int .i64 0, .slice (some ⟨b3, 0, none⟩) N N, .int .i64 (c : Int)] 36) := ⟨_, rfl⟩; have HW3 : Hid (_ = _) := hW3; clear hW3; have KA : Keeps (fun _ => False) w3 W3 := (by rw [HW3.out]; exact (Keeps.refl _ w3).alloc _); have CA : CL W3 w3.heap.size [.int .i64 oc, .int .i64 0, .slice (some ⟨b3, 0, none⟩) N N, .int .i64 (c : Int)] := (by rw [HW3.out]; exact CL.made w3 _ _); have x0 := CA.c 0 _ rfl; have x1 := CA.c 1 _ rfl; have x2 := CA.c 2 _ rfl; have x3 := CA.c 3 _ rfl) | (go_at_call 11; rw [← HW3.out]; refine (num11 _ _).mono ?_; rintro e wn ⟨rfl, en⟩; subst wn; have hsm := sameNums_ok (xs := os) N co ((NUM.ofCL (by have := C3; rw [hLe] at this; exact this)).keep KA) (hNS W3 (K3.trans KA)) (by omega); rw [hN] at hsm) | (go_at_call 12; refine hsm.mono ?_; clear hsm; rintro e w4 ⟨rfl, k4⟩))
            go_ret
            exact ⟨rfl, ((K3.trans KA).trans k4).below (Nat.le_refl _) (fun _ _ e => e)⟩
      · have hRB := fun W (k : Keeps (fun _ => False) w W) a' cap' (hI : ISL W a' l) => run_bad (cap := cap') (co := co) (cg := cg) (hLT.keep k) hI (by omega) (hO.keep k) (hG.keep k) fuel hb
        clear hLT hO hG hl hb
        generalize os.length = N at *
        generalize gs.length = M2 at *
        go_wp2_with (first | (go_at_call 13; refine (hPr w1 k1).mono ?_; clear hPr; rintro e w2 ⟨v, rfl, hown, k2⟩; obtain ⟨a', cap', rfl, hI⟩ := isl_of_owns hown rfl; clear hown; have K2 := k1.trans k2) | (go_at_call 10; refine (hRB w2 K2 a' cap' hI).mono ?_; clear hRB; rintro e w3 ⟨x, rfl, hx, k3⟩; unfold zA; have hxb : (x != 0) = true := (by simpa using hx)) | (go_at_call 11; refine (num11 _ _).mono ?_; rintro e wn ⟨rfl, en⟩; subst wn))
        go_ret
        exact ⟨rfl, ((K2.trans k3).alloc _).below (Nat.le_refl _) (fun _ _ e => e)⟩
end Go.Proofs.YtblcjohhelokkaaGreatDoor
