import Derived.Test.YtblcjohhelokkaaGreatDoorJD
import Derived.Test.YtblcjohhelokkaaGreatDoorPhI
import Derived.Test.YtblcjohhelokkaaGreatDoorLgM
import Derived.Maps.AppendAt
namespace Go.Proofs.YtblcjohhelokkaaGreatDoor
open Go.RowKit Go.Deep Go.ChangeShapes Go.WideShapes Go.ChangeAt
attribute [local go_sem] Oper.semAt_some run_store_nf run_store_f
def txt2 : ByteArray := ⟨#[103, 101, 116, 32, 114, 49, 32, 64, 48, 10, 97, 100, 100, 32, 114, 49, 32, 114, 49, 32, 49, 10, 112, 117, 116, 32, 64, 48, 32, 114, 49, 10, 100, 111, 110, 101, 32, 114, 49]⟩
def prg2 : List Ins := [⟨1, 1, false, 0, false, 0, false, 0, 0, 0, 0⟩, ⟨6, 1, false, 0, true, 1, false, 1, 1, 0, 0⟩, ⟨3, 0, false, 0, true, 1, false, 0, 0, 0, 0⟩, ⟨10, 0, false, 0, true, 1, false, 0, 0, 0, 0⟩]
theorem rd2 : rd (lns txt2) 0 [] = some prg2 := by kernel_rfl
theorem ln2 : ∀ x ∈ lns txt2, x.size ≤ 4096 := by
  have h : lns txt2 = [⟨#[103, 101, 116, 32, 114, 49, 32, 64, 48]⟩, ⟨#[97, 100, 100, 32, 114, 49, 32, 114, 49, 32, 49]⟩, ⟨#[112, 117, 116, 32, 64, 48, 32, 114, 49]⟩, ⟨#[100, 111, 110, 101, 32, 114, 49]⟩] := by kernel_rfl
  rw [h]
  intro x hx
  rcases (by simpa using hx : x = _ ∨ x = _ ∨ x = _ ∨ x = _) with rfl | rfl | rfl | rfl <;> decide
theorem chk2 : (chk prg2).1 = 0 := by kernel_rfl
theorem rfs2 : rfs 2 0 100 = 0 := by kernel_rfl
theorem gor2 : (gor prg2 [5, 7] [] 100 0 rs0).1.oc = 1 ∧ (gor prg2 [5, 7] [] 100 0 rs0).1.rs = 6 ∧ (gor prg2 [5, 7] [] 100 0 rs0).2 = 4 ∧ lft [5, 7] (gor prg2 [5, 7] [] 100 0 rs0).1 2 = [6, 7] := by
  refine ⟨?_, ?_, ?_, ?_⟩ <;> kernel_rfl
theorem run2 {w : World} {a ao : Option Addr} {cap co : Nat} (hT : LT w) (hl : ISL w a prg2) (hO : NUM w ao [5, 7]) : Calls Tryz.prog 10 #[.slice a 4 cap, .slice ao 2 co, .slice none 0 0, .int .i64 100] w fun e w' => ∃ b, e = .returned (.tuple #[.agg #[.int .i64 1, .int .i64 6, .slice (some ⟨b, 0, none⟩) 2 2, .int .i64 4], .int .i64 0]) ∧ CL w' b (nvs [6, 7]) ∧ Keeps (fun _ => False) w w' := by
  have h := run_any (cap := cap) (co := co) (ag := none) (cg := 0) (gs := []) hT hl (by decide) hO (fun i x hx => by simp at hx) 100
  refine Calls.mono h ?_
  rintro e w' ⟨v, x, rfl, hP, k⟩
  rcases hP with ⟨h0, _⟩ | ⟨_, h1, _⟩ | ⟨_, _, rfl, b, _, rfl, hC, _⟩
  · exact (h0 chk2).elim
  · exact (h1 rfs2).elim
  · obtain ⟨e1, e2, e3, e4⟩ := gor2
    have t100 : Int.toNat 100 = 100 := rfl
    rw [t100] at hC ⊢
    have l2 : ([5, 7] : List Int).length = 2 := rfl
    rw [l2] at hC ⊢
    rw [e4] at hC
    rw [e1, e2, e3]
    exact ⟨b, rfl, hC, k⟩
theorem two_num (w : World) (o : Obj) (x y : Int) : NUM ((w.alloc o).alloc (.cells #[.int .i64 x, .int .i64 y] 2)) (some ⟨w.heap.size + 1, 0, none⟩) [x, y] := NUM.ofCL (by
  have := CL.made (w.alloc o) [.int .i64 x, .int .i64 y] 2
  rw [show (w.alloc o).heap.size = w.heap.size + 1 by simp] at this
  exact this)
set_option maxHeartbeats 800000 in
set_option maxRecDepth 1000000 in
theorem head11 {w : World} (hT : PT w) (hNT : NT w) : Calls Tryz.prog 9 #[] w fun e w' => e = .returned (.bool true) ∧ Keeps (fun _ => False) w w' := by
  have hP := parse_ok txt2 (by decide) hT hNT rd2 ln2
  have hLT := hT.lt
  clear hT hNT
  go_enter Tryz.func9, Tryz.ntmps9
  go_wp2_with fail
  refine (show Calls Tryz.prog 17 #[.string txt2] w _ from hP).mono ?_
  clear hP
  rintro e w1 ⟨v, rfl, hown, k1⟩
  obtain ⟨a, cap, rfl, hI⟩ := isl_of_owns hown rfl
  clear hown
  have l4 : prg2.length = 4 := rfl
  rw [l4]
  clear l4
  obtain ⟨W2, hW2⟩ : ∃ W2, W2 = (w1.alloc (.cells #[.int .i64 0, .int .i64 0, .int .i64 0] 64)).alloc (.cells #[.int .i64 5, .int .i64 7] 2) := ⟨_, rfl⟩
  have k2 : Keeps (fun _ => False) w1 W2 := by rw [hW2]; exact ((Keeps.refl _ w1).alloc _).alloc _
  have s2 : W2.heap.size = w1.heap.size + 2 := by rw [hW2]; simp
  have hN : NUM W2 (some ⟨w1.heap.size + 1, 0, none⟩) [5, 7] := by rw [hW2]; exact two_num w1 _ 5 7
  have hR := run2 (cap := cap) (co := 2) (hLT.keep (k1.trans k2)) (hI.keep k2) hN
  have HW2 : Hid (_ = _) := hW2
  clear hW2 hI hN hLT
  have K2 := k1.trans k2
  clear k1 k2
  go_wp2_with (first | (go_at_call 11; refine (num11 _ _).mono ?_; rintro e wn ⟨rfl, en⟩; subst wn) | (go_at_call 10; rw [← HW2.out]; clear HW2; refine hR.mono ?_; clear hR; rintro e w3 ⟨b, rfl, C3, k3⟩; obtain ⟨W4, hW4⟩ : ∃ W4, W4 = (w3.alloc (.cells #[.int .i64 1, .int .i64 6, .slice (some ⟨b, 0, none⟩) 2 2, .int .i64 4] 36)).alloc (.cells #[.int .i64 6, .int .i64 7] 2) := ⟨_, rfl⟩; have HW4 : Hid (_ = _) := hW4; clear hW4) | (go_at_call 14; rw [← HW4.out]; have K4 : Keeps (fun _ => False) w3 W4 := (by rw [HW4.out]; exact ((Keeps.refl _ w3).alloc _).alloc _); have hB : NUM W4 (some ⟨w3.heap.size + 1, 0, none⟩) [6, 7] := (by rw [HW4.out]; exact two_num w3 _ 6 7); refine (same_ok (xs := [6, 7]) 2 2 1 6 4 ((NUM.ofCL C3).keep K4) hB (by decide)).mono ?_; rintro e w5 ⟨rfl, k5⟩))
  go_ret
  exact ⟨rfl, ((K2.trans k3).trans K4).trans k5⟩
set_option maxHeartbeats 400000 in
set_option maxRecDepth 1000000 in
theorem names11 {w : World} (hT : PT w) (hNT : NT w) : Calls Tryz.prog 3 #[] w fun e w' => e = .returned (.bool true) ∧ Below w.heap.size w w' := by
  have hH := head11 hT hNT
  clear hT hNT
  go_enter Tryz.func3, Tryz.ntmps3
  go_wp2_with (go_at_call 9; refine hH.mono ?_; clear hH; rintro e w1 ⟨rfl, k1⟩)
  go_ret
  exact ⟨rfl, k1.below (Nat.le_refl _) (fun _ _ e => e)⟩
end Go.Proofs.YtblcjohhelokkaaGreatDoor
namespace Go.Proofs.YtblcjohhelokkaaGreatDoor
open Go.RowKit
section
variable {l : List Ins} {os : List Int} {gs : List (Bool × Int)}
theorem gor_end (f c : Nat) {s : Rs} (h : ¬ s.oc = 0) : gor l os gs f c s = (s, c) := by
  cases f with
  | zero => rfl
  | succ f => exact if_neg h
theorem gor_step (f c : Nat) {s : Rs} (h : s.oc = 0) : gor l os gs (f + 1) c s = gor l os gs f (c + 1) (mstp os gs (atI l s.pl.toNat) s) := if_pos h
theorem gor_count : ∀ (f c : Nat) (s : Rs), c ≤ (gor l os gs f c s).2 ∧ (gor l os gs f c s).2 ≤ c + f ∧ ((gor l os gs f c s).1.oc = 0 → (gor l os gs f c s).2 = c + f) ∧ (s.oc = 0 → ¬ (gor l os gs f c s).1.oc = 0 → c + 1 ≤ (gor l os gs f c s).2)
  | 0, c, s => ⟨Nat.le_refl _, Nat.le_refl _, fun _ => rfl, fun h h2 => (h2 h).elim⟩
  | f + 1, c, s => by
    by_cases h : s.oc = 0
    · rw [gor_step f c h]
      have := gor_count f (c + 1) (mstp os gs (atI l s.pl.toNat) s)
      exact ⟨by omega, by omega, fun h => by have := this.2.2.1 h; omega, fun _ _ => this.1⟩
    · rw [gor_end (f + 1) c h]
      exact ⟨Nat.le_refl _, Nat.le_add_right _ _, fun h2 => (h h2).elim, fun h2 => (h h2).elim⟩
theorem gor_mono : ∀ (f c : Nat) (s : Rs), ¬ (gor l os gs f c s).1.oc = 0 → ∀ f', (gor l os gs f c s).2 ≤ c + f' → gor l os gs f' c s = gor l os gs f c s
  | 0, c, s, h, f', _ => gor_end f' c h
  | f + 1, c, s, h, f', hf => by
    by_cases h0 : s.oc = 0
    · rw [gor_step f c h0] at h hf ⊢
      have hc := (gor_count (l := l) (os := os) (gs := gs) f (c + 1) (mstp os gs (atI l s.pl.toNat) s)).1
      obtain ⟨f'', rfl⟩ : ∃ f'', f' = f'' + 1 := ⟨f' - 1, by omega⟩
      rw [gor_step f'' c h0]
      exact gor_mono f (c + 1) _ h f'' (by omega)
    · rw [gor_end (f + 1) c h0, gor_end f' c h0]
theorem gor_below : ∀ (f c : Nat) (s : Rs), s.oc = 0 → ¬ (gor l os gs f c s).1.oc = 0 → ∀ n, c + n + 1 = (gor l os gs f c s).2 → (gor l os gs n c s).1.oc = 0 ∧ (gor l os gs n c s).2 = c + n
  | 0, _, _, h0, h, _, _ => (h h0).elim
  | f + 1, c, s, h0, h, n, hn => by
    cases n with
    | zero => exact ⟨h0, rfl⟩
    | succ n =>
      rw [gor_step f c h0] at h hn
      rw [gor_step n c h0]
      by_cases h1 : (mstp os gs (atI l s.pl.toNat) s).oc = 0
      · have := gor_below f (c + 1) _ h1 h n (by omega)
        exact ⟨this.1, by omega⟩
      · rw [gor_end f (c + 1) h1] at hn
        have hn : c + (n + 1) + 1 = c + 1 := hn
        omega
/-- A result comes of a commit alone. -/
theorem mstp_rs (q : Ins) (s : Rs) (h : s.rs = 0) : (mstp os gs q s).oc = 1 ∨ (mstp os gs q s).rs = 0 := by
  have hr : ∀ x, (s.inc.rdo os gs x).rs = s.rs := fun x => by unfold Rs.rdo; split <;> rfl
  have hw : ∀ x, (s.inc.wro os x).rs = s.rs := fun x => by unfold Rs.wro; split <;> rfl
  unfold mstp
  split
  · split
    · right
      unfold mstpO
      split
      · exact (hr _).trans h
      · split
        · exact (hw _).trans h
        · split
          · exact (hw _).trans h
          · split <;> exact h
    · exact .inr h
  · split
    · exact .inr h
    · split
      · exact .inr h
      · split
        · split <;> exact .inr h
        · split
          · exact .inr h
          · split
            · exact .inr h
            · exact .inl rfl
theorem gor_rs : ∀ (f c : Nat) (s : Rs), (s.oc = 1 ∨ s.rs = 0) → ((gor l os gs f c s).1.oc = 1 ∨ (gor l os gs f c s).1.rs = 0)
  | 0, _, _, h => h
  | f + 1, c, s, h => by
    by_cases h0 : s.oc = 0
    · rw [gor_step f c h0]
      exact gor_rs f (c + 1) _ (mstp_rs _ s (h.resolve_left (by omega)))
    · rw [gor_end (f + 1) c h0]; exact h
end
end Go.Proofs.YtblcjohhelokkaaGreatDoor
namespace Go.Proofs.YtblcjohhelokkaaGreatDoor
open Go.RowKit
attribute [local go_sem] Oper.semAt_some run_store_nf run_store_f
theorem run_fine {w : World} {a ao ag : Option Addr} {cap co cg : Nat} {l : List Ins} {os : List Int} {gs : List (Bool × Int)} (hT : LT w) (hl : ISL w a l) (hO : NUM w ao os) (hG : GVN w ag gs) (hc : (chk l).1 = 0) (h16 : os.length ≤ 16) (h40 : gs.length ≤ 4096) (f : Nat) (hf : f ≤ 10000) {F : Rs × Nat} (hF : gor l os gs f 0 rs0 = F) {L : List Int} (hL : lft os F.1 os.length = L) : Calls Tryz.prog 10 #[.slice a l.length cap, .slice ao os.length co, .slice ag gs.length cg, .int .i64 (f : Int)] w fun e w' => ∃ b, e = .returned (.tuple #[.agg #[.int .i64 F.1.oc, .int .i64 F.1.rs, .slice (some ⟨b, 0, none⟩) os.length os.length, .int .i64 (F.2 : Int)], .int .i64 0]) ∧ CL w' b (nvs L) ∧ Keeps (fun _ => False) w w' := by
  have hl64 := (chk_ok hc).1
  refine (run_any (cap := cap) (co := co) (cg := cg) hT hl (by omega) hO hG (f : Int)).mono ?_
  rintro e w' ⟨v, x, rfl, hP, k⟩
  have hr : rfs os.length gs.length (f : Int) = 0 := by
    unfold rfs
    rw [if_neg (by omega), if_neg (by omega), if_neg (by omega)]
  rcases hP with ⟨h0, _⟩ | ⟨_, h1, _⟩ | ⟨_, _, rfl, b, _, rfl, hC, _⟩
  · exact (h0 hc).elim
  · exact (h1 hr).elim
  · rw [Int.toNat_natCast, hF] at hC ⊢
    rw [hL] at hC
    exact ⟨b, rfl, hC, k⟩
theorem run_bad {w : World} {a ao ag : Option Addr} {cap co cg : Nat} {l : List Ins} {os : List Int} {gs : List (Bool × Int)} (hT : LT w) (hl : ISL w a l) (hlen : l.length ≤ 9223372036854775807) (hO : NUM w ao os) (hG : GVN w ag gs) (fuel : Int) (hb : ¬ ((chk l).1 = 0 ∧ rfs os.length gs.length fuel = 0)) : Calls Tryz.prog 10 #[.slice a l.length cap, .slice ao os.length co, .slice ag gs.length cg, .int .i64 fuel] w fun e w' => ∃ x, e = .returned (.tuple #[zA, .int .i64 x]) ∧ ¬ x = 0 ∧ Keeps (fun _ => False) w w' := by
  refine (run_any (cap := cap) (co := co) (cg := cg) hT hl hlen hO hG fuel).mono ?_
  rintro e w' ⟨v, x, rfl, hP, k⟩
  rcases hP with ⟨h0, rfl, rfl⟩ | ⟨_, h1, rfl, rfl⟩ | ⟨h0, h1, _⟩
  · exact ⟨_, rfl, h0, k⟩
  · exact ⟨_, rfl, h1, k⟩
  · exact (hb ⟨h0, h1⟩).elim
set_option maxHeartbeats 1600000 in
set_option maxRecDepth 1000000 in
theorem fuel_any {w : World} {a ao ag : Option Addr} {cap co cg : Nat} {l : List Ins} {os : List Int} {gs : List (Bool × Int)} (hT : PT w) (hNT : NT w) (hl : ISL w a l) (hlen : l.length * 88 ≤ 140737488355328) (hO : NUM w ao os) (hG : GVN w ag gs) (fuel : Int) (_hr : -9223372036854775808 ≤ fuel ∧ fuel ≤ 9223372036854775807) : Calls Tryz.prog 5 #[.slice a l.length cap, .slice ao os.length co, .slice ag gs.length cg, .int .i64 fuel] w fun e w' => e = .returned (.bool true) ∧ Below w.heap.size w w' := by
  have hH := head11 hT hNT
  have hLT := hT.lt
  clear hT hNT
  by_cases hb : (chk l).1 = 0 ∧ rfs os.length gs.length fuel = 0
  · obtain ⟨hc, hr⟩ := hb
    obtain ⟨h16, h40, hf0, hf1⟩ := rfs_ok hr
    obtain ⟨f, rfl⟩ : ∃ f : Nat, fuel = (f : Int) := ⟨fuel.toNat, by omega⟩
    clear hr _hr
    obtain ⟨F, hF⟩ : ∃ F, gor l os gs f 0 rs0 = F := ⟨_, rfl⟩
    have gc := gor_count (l := l) (os := os) (gs := gs) f 0 rs0
    have gr := gor_rs (l := l) (os := os) (gs := gs) f 0 rs0 (.inr rfl)
    have gm := gor_mono (l := l) (os := os) (gs := gs) f 0 rs0
    have gb := gor_below (l := l) (os := os) (gs := gs) f 0 rs0 rfl
    rw [hF] at gc gr gm gb
    have lno := lft_no os F.1 os.length
    have hRF := fun W (k : Keeps (fun _ => False) w W) a' cap' (hI : ISL W a' l) (g : Nat) (hg : g ≤ 10000) (G : Rs × Nat) (hG' : gor l os gs g 0 rs0 = G) (L : List Int) (hL : lft os G.1 os.length = L) => run_fine (cap := cap') (co := co) (cg := cg) (hLT.keep k) hI (hO.keep k) (hG.keep k) hc h16 h40 g hg hG' hL
    have hNS := fun W (k : Keeps (fun _ => False) w W) => hO.keep k
    have hPr := fun W (k : Keeps (fun _ => False) w W) => prog_any (cap := cap) (hl.keep k) hlen
    clear hLT hO hG hl
    obtain ⟨⟨rg, st, nm, rd, pl, oc, rs⟩, c⟩ := F
    simp only at gc gr gm gb lno
    have b1 : decide ((f : Int) < 0) = false := decide_eq_false (by omega)
    have b2 : decide ((10000 : Int) < (f : Int)) = false := decide_eq_false (by omega)
    have b3 : decide ((c : Int) < 0) = false := decide_eq_false (by omega)
    have b4 : decide ((f : Int) < (c : Int)) = false := decide_eq_false (by omega)
    have L16 : (lft os ⟨rg, st, nm, rd, pl, oc, rs⟩ os.length).length = os.length := lft_len _ _ _
    have n3 : ¬ (f : Int) < 0 := by omega
    by_cases h0 : oc = 0
    · subst h0
      have ec : c = f := by have := gc.2.2.1 rfl; omega
      subst ec
      have er : rs = 0 := gr.resolve_left (by decide)
      subst er
      have eo := lno (by decide)
      clear gc gr gm gb lno
      obtain ⟨L, hLx⟩ : ∃ L, os = L := ⟨_, rfl⟩
      subst hLx
      have hLe := eo
      generalize hN : os.length = N at *
      go_enter Tryz.func5, Tryz.ntmps5
      go_wp2_with (first | (go_at_call 9; refine hH.mono ?_; clear hH; rintro e w1 ⟨rfl, k1⟩) | (go_at_call 13; refine (hPr w1 k1).mono ?_; clear hPr; rintro e w2 ⟨v, rfl, hown, k2⟩; obtain ⟨a', cap', rfl, hI⟩ := isl_of_owns hown rfl; clear hown; have K2 := k1.trans k2) | (go_at_call 10; refine (hRF w2 K2 a' cap' hI c (by omega) _ hF os hLe).mono ?_; clear hRF; rintro e w3 ⟨b3, rfl, C3, k3⟩; have K3 := K2.trans k3; have s3 := C3; obtain ⟨W3, hW3⟩ : ∃ W3, W3 = w3.alloc (.cells #[.int .i64 0, .int .i64 0, .slice (some ⟨b3, 0, none⟩) N N, .int .i64 (c : Int)] 36) := ⟨_, rfl⟩; have HW3 : Hid (_ = _) := hW3; clear hW3; have KA : Keeps (fun _ => False) w3 W3 := (by rw [HW3.out]; exact (Keeps.refl _ w3).alloc _); have CA : CL W3 w3.heap.size [.int .i64 0, .int .i64 0, .slice (some ⟨b3, 0, none⟩) N N, .int .i64 (c : Int)] := (by rw [HW3.out]; exact CL.made w3 _ _); have x0 := CA.c 0 _ rfl; have x1 := CA.c 1 _ rfl; have x2 := CA.c 2 _ rfl; have x3 := CA.c 3 _ rfl) | (go_at_call 11; rw [← HW3.out]; refine (num11 _ _).mono ?_; rintro e wn ⟨rfl, en⟩; subst wn; have hsm := sameNums_ok (xs := os) N co ((NUM.ofCL C3).keep KA) (hNS W3 (K3.trans KA)) (by omega); rw [hN] at hsm) | (go_at_call 12; refine hsm.mono ?_; clear hsm; rintro e w4 ⟨rfl, k4⟩))
      go_ret
      exact ⟨rfl, ((K3.trans KA).trans k4).below (Nat.le_refl _) (fun _ _ e => e)⟩
    · have h0b : (oc == 0) = false := by simpa using h0
      have hc1 := gc.2.2.2 rfl h0
      obtain ⟨m, hm⟩ : ∃ m : Nat, c = m + 1 := ⟨c - 1, by omega⟩
      have hF2 := gm h0 c (by omega)
      have hF3 := gm h0 10000 (by omega)
      obtain ⟨g1, g2⟩ := gb h0 m (by omega)
      obtain ⟨G, hGe⟩ : ∃ G, gor l os gs m 0 rs0 = G := ⟨_, rfl⟩
      rw [hGe] at g1 g2
      obtain ⟨⟨rg', st', nm', rd', pl', oc', rs'⟩, c'⟩ := G
      simp only at g1 g2
      subst g1
      have g3 : c' = m := by omega
      clear g2
      subst g3
      have hw : IntKind.i64.wrap ((c : Int) - 1) = (c' : Int) := by rw [IntKind.wrap_i64]; omega
      have b5 : decide ((c : Int) < 1) = false := decide_eq_false (by omega)
      have hm10 : c' ≤ 10000 := by omega
      have hc10 : c ≤ 10000 := by omega
      have b6 : decide (f < c) = false := decide_eq_false (by omega)
      have b7 : ¬ f < c := by omega
      have b8 : ¬ c < 1 := by omega
      have b9 : decide (c < 1) = false := decide_eq_false (by omega)
      obtain ⟨L, hLe⟩ : ∃ L, lft os ⟨rg, st, nm, rd, pl, oc, rs⟩ os.length = L := ⟨_, rfl⟩
      rw [hLe] at L16
      have hR3 := fun W (k : Keeps (fun _ => False) w W) a' cap' (hI : ISL W a' l) => hRF W k a' cap' hI 10000 (Nat.le_refl _) _ hF3 L hLe
      rw [show ((10000 : Nat) : Int) = 10000 from rfl] at hR3
      clear gc gr gm gb lno hm hF3
      generalize hN : os.length = N at *
      go_enter Tryz.func5, Tryz.ntmps5
      go_wp2_with (first | (go_at_call 9; refine hH.mono ?_; clear hH; rintro e w1 ⟨rfl, k1⟩) | (go_at_call 13; refine (hPr w1 k1).mono ?_; clear hPr; rintro e w2 ⟨v, rfl, hown, k2⟩; obtain ⟨a', cap', rfl, hI⟩ := isl_of_owns hown rfl; clear hown; have K2 := k1.trans k2; clear k1 k2) | (go_at_call 10; refine (hRF w2 K2 a' cap' hI f (by omega) _ hF L hLe).mono ?_; clear hF; rintro e w3 ⟨b3, rfl, C3, k3⟩; obtain ⟨W3, hW3⟩ : ∃ W3, W3 = w3.alloc (.cells #[.int .i64 oc, .int .i64 rs, .slice (some ⟨b3, 0, none⟩) N N, .int .i64 (c : Int)] 36) := ⟨_, rfl⟩; have HW3 : Hid (_ = _) := hW3; clear hW3; have KA3 : Keeps (fun _ => False) w3 W3 := (by rw [HW3.out]; exact (Keeps.refl _ w3).alloc _); have CA3 : CL W3 w3.heap.size [.int .i64 oc, .int .i64 rs, .slice (some ⟨b3, 0, none⟩) N N, .int .i64 (c : Int)] := (by rw [HW3.out]; exact CL.made w3 _ _); have x0 := CA3.c 0 _ rfl; have x1 := CA3.c 1 _ rfl; have x2 := CA3.c 2 _ rfl; have x3 := CA3.c 3 _ rfl; have K3 := (K2.trans k3).trans KA3; have hI3 := hI.keep (k3.trans KA3); have N3 := (NUM.ofCL C3).keep KA3; clear K2 k3 KA3 C3 hI) | (go_at_call 10; refine (hRF W3 K3 a' cap' hI3 c hc10 _ hF2 L hLe).mono ?_; clear hF2; rintro e w4 ⟨b4, rfl, C4, k4⟩; obtain ⟨W4, hW4⟩ : ∃ W4, W4 = w4.alloc (.cells #[.int .i64 oc, .int .i64 rs, .slice (some ⟨b4, 0, none⟩) N N, .int .i64 (c : Int)] 36) := ⟨_, rfl⟩; have HW4 : Hid (_ = _) := hW4; clear hW4; have KA4 : Keeps (fun _ => False) w4 W4 := (by rw [HW4.out]; exact (Keeps.refl _ w4).alloc _); have CA4 : CL W4 w4.heap.size [.int .i64 oc, .int .i64 rs, .slice (some ⟨b4, 0, none⟩) N N, .int .i64 (c : Int)] := (by rw [HW4.out]; exact CL.made w4 _ _); have k4 := k4.trans KA4; have K4 := K3.trans k4; have hI4 := hI3.keep k4; have N4 := (NUM.ofCL C4).keep KA4; have A4 := CA3.keep (by show 0 < 4; decide) k4 (fun e => e); clear K3 C4 hI3) | (go_at_call 10; rw [← HW4.out]; refine (hR3 W4 K4 a' cap' hI4).mono ?_; clear hR3; rintro e w5 ⟨b5, rfl, C5, k5⟩; obtain ⟨W5, hW5⟩ : ∃ W5, W5 = w5.alloc (.cells #[.int .i64 oc, .int .i64 rs, .slice (some ⟨b5, 0, none⟩) N N, .int .i64 (c : Int)] 36) := ⟨_, rfl⟩; have HW5 : Hid (_ = _) := hW5; clear hW5; have KA5 : Keeps (fun _ => False) w5 W5 := (by rw [HW5.out]; exact (Keeps.refl _ w5).alloc _); have CA5 : CL W5 w5.heap.size [.int .i64 oc, .int .i64 rs, .slice (some ⟨b5, 0, none⟩) N N, .int .i64 (c : Int)] := (by rw [HW5.out]; exact CL.made w5 _ _); have k5 := k5.trans KA5; have K5 := K4.trans k5; have hI5 := hI4.keep k5; have N5 := (NUM.ofCL C5).keep KA5; have A5 := A4.keep (by show 0 < 4; decide) k5 (fun e => e); have B5 := CA4.keep (by show 0 < 4; decide) k5 (fun e => e); have M3 := N3.keep (k4.trans k5); have M4 := N4.keep k5; have hs1 := same_ok (xs := L) N N oc rs (c : Int) M3 M4 (by omega); rw [L16] at hs1; have y0 := A5.c 0 _ rfl; have y1 := A5.c 1 _ rfl; have y2 := A5.c 2 _ rfl; have y3 := A5.c 3 _ rfl; have z0 := B5.c 0 _ rfl; have z1 := B5.c 1 _ rfl; have z2 := B5.c 2 _ rfl; have z3 := B5.c 3 _ rfl; clear K4 C5 hI4) | (go_at_call 14; refine (show Calls Tryz.prog 14 _ W5 _ from hs1).mono ?_; clear hs1; rintro e w6 ⟨rfl, k6⟩; have A6 := A5.keep (by show 0 < 4; decide) k6 (fun e => e); have C6 := CA5.keep (by show 0 < 4; decide) k6 (fun e => e); have p0 := A6.c 0 _ rfl; have p1 := A6.c 1 _ rfl; have p2 := A6.c 2 _ rfl; have p3 := A6.c 3 _ rfl; have q0 := C6.c 0 _ rfl; have q1 := C6.c 1 _ rfl; have q2 := C6.c 2 _ rfl; have q3 := C6.c 3 _ rfl; have hs2 := same_ok (xs := L) N N oc rs (c : Int) (M3.keep k6) (N5.keep k6) (by omega); rw [L16] at hs2) | (go_at_call 14; refine hs2.mono ?_; clear hs2; rintro e w7 ⟨rfl, k7⟩; have A7 := A6.keep (by show 0 < 4; decide) k7 (fun e => e); have r3 := A7.c 3 _ rfl; have K7 := (K5.trans k6).trans k7; have hI7 := hI5.keep (k6.trans k7)) | (go_at_call 10; refine (hRF w7 K7 a' cap' hI7 c' hm10 _ hGe _ rfl).mono ?_; clear hRF hGe; rintro e w8 ⟨b8, rfl, C8, k8⟩; obtain ⟨W8, hW8⟩ : ∃ W8, W8 = w8.alloc (.cells #[.int .i64 0, .int .i64 rs', .slice (some ⟨b8, 0, none⟩) N N, .int .i64 (c' : Int)] 36) := ⟨_, rfl⟩; have HW8 : Hid (_ = _) := hW8; clear hW8; have KA8 : Keeps (fun _ => False) w8 W8 := (by rw [HW8.out]; exact (Keeps.refl _ w8).alloc _); have CA8 : CL W8 w8.heap.size [.int .i64 0, .int .i64 rs', .slice (some ⟨b8, 0, none⟩) N N, .int .i64 (c' : Int)] := (by rw [HW8.out]; exact CL.made w8 _ _); have K8 := (K7.trans k8).trans KA8; have A8 := A7.keep (by show 0 < 4; decide) (k8.trans KA8) (fun e => e); have u3 := A8.c 3 _ rfl; have v0 := CA8.c 0 _ rfl; have v1 := CA8.c 1 _ rfl; have v2 := CA8.c 2 _ rfl; have v3 := CA8.c 3 _ rfl) | (go_at_call 11; rw [← HW3.out]; clear HW3; refine (num11 _ _).mono ?_; rintro e wn ⟨rfl, en⟩; subst wn) | (go_at_call 11; rw [← HW5.out]; clear HW5; refine (num11 _ _).mono ?_; rintro e wn ⟨rfl, en⟩; subst wn) | (go_at_call 11; rw [← HW8.out]; clear HW8; refine (num11 _ _).mono ?_; rintro e wn ⟨rfl, en⟩; subst wn) | (go_at_call 11; refine (num11 _ _).mono ?_; rintro e wn ⟨rfl, en⟩; subst wn))
      go_ret
      exact ⟨rfl, K8.below (Nat.le_refl _) (fun _ _ e => e)⟩
  · have hRB := fun W (k : Keeps (fun _ => False) w W) a' cap' (hI : ISL W a' l) => run_bad (cap := cap') (co := co) (cg := cg) (hLT.keep k) hI (by omega) (hO.keep k) (hG.keep k) fuel hb
    have hPr := fun W (k : Keeps (fun _ => False) w W) => prog_any (cap := cap) (hl.keep k) hlen
    clear hLT hO hG hl hb _hr
    generalize os.length = N at *
    generalize gs.length = M at *
    go_enter Tryz.func5, Tryz.ntmps5
    go_wp2_with (first | (go_at_call 9; refine hH.mono ?_; clear hH; rintro e w1 ⟨rfl, k1⟩) | (go_at_call 13; refine (hPr w1 k1).mono ?_; clear hPr; rintro e w2 ⟨v, rfl, hown, k2⟩; obtain ⟨a', cap', rfl, hI⟩ := isl_of_owns hown rfl; clear hown; have K2 := k1.trans k2) | (go_at_call 10; refine (hRB w2 K2 a' cap' hI).mono ?_; clear hRB; rintro e w3 ⟨x, rfl, hx, k3⟩; unfold zA; have hxb : (x != 0) = true := (by simpa using hx)) | (go_at_call 11; refine (num11 _ _).mono ?_; rintro e wn ⟨rfl, en⟩; subst wn))
    go_ret
    exact ⟨rfl, ((K2.trans k3).alloc _).below (Nat.le_refl _) (fun _ _ e => e)⟩
end Go.Proofs.YtblcjohhelokkaaGreatDoor
namespace Go.Proofs.YtblcjohhelokkaaGreatDoor
open Go.RowKit Go.Deep Go.ChangeShapes Go.WideShapes Go.ChangeAt
/-- Numbers that were handed in. -/
theorem open_nums {H : Type} {enc : TypeId × Value → H} {P : Program} {W : World} {spare : Nat → Bool} {held : Bool} {t e : TypeId} {fuel : Nat} {a : Option Addr} {len cap : Nat} {x : DataW H × List MemPlace}
    (ht : P.underlying t = some (.slice e)) (he : P.underlying e = some (.int .i64)) (ce : P.cellsOf e = 1)
    (h : DataW.trod enc P W 0 spare held fuel t [.slice a len cap] = some x) : ∃ l : List Int, l.length = len ∧ NUM W a l := by
  by_cases h0 : len = 0
  · subst h0
    exact ⟨[], rfl, fun i x hi => by simp at hi⟩
  rcases open_slice ht h with ⟨hcs, _⟩ | ⟨a', len', cap', m, n, D, Pl, hcs, hb, hl, hm, hmm, rfl, hx⟩
  · simp at hcs; omega
  simp at hcs
  obtain ⟨rfl, rfl, rfl⟩ := hcs
  have hlm : len ≤ m := by rw [hmm]; split <;> omega
  have each : ∀ i, i < len → ∃ v : Int, W.cell? (a'.add i) = some (.int .i64 v) := by
    intro i hi
    obtain ⟨cs', h1, h2⟩ := hx i (by omega)
    rw [ce] at h1
    obtain ⟨_, hlen, hcell⟩ := World.cells?_some h1
    obtain ⟨v, rfl, _⟩ := DataW.trod_int he h2
    have cj := hcell 0 (by omega)
    rw [add_add] at cj
    refine ⟨v, ?_⟩
    simpa using cj
  obtain ⟨b, off, spot⟩ := a'
  obtain ⟨v0, z0⟩ := each 0 (by omega)
  have hspot : spot = none := by simpa [Addr.add] using World.cell?_spot z0
  subst hspot
  obtain ⟨V, hV⟩ := choose_lt each
  refine ⟨(List.range len).map V, by simp, fun i x hi => ?_⟩
  have hil : i < len := by have := (List.getElem?_eq_some_iff.1 hi).1; simpa using this
  have : x = V i := by simpa [hil] using hi.symm
  subst this
  have hv := hV i hil
  rw [add_at] at hv
  exact ⟨b, off, rfl, hv⟩
/-- Given reads that were handed in. -/
theorem open_givs {H : Type} {enc : TypeId × Value → H} {P : Program} {W : World} {spare : Nat → Bool} {held : Bool} {t e : TypeId} {g0 g1 : Field} {fuel : Nat} {a : Option Addr} {len cap : Nat} {x : DataW H × List MemPlace}
    (ht : P.underlying t = some (.slice e)) (hs : P.underlying e = some (.struct #[g0, g1])) (ce : P.cellsOf e = 2) (o0 : g0.offset = 0) (o1 : g1.offset = 1) (c0 : P.cellsOf g0.type = 1) (c1 : P.cellsOf g1.type = 1) (u0 : P.underlying g0.type = some .bool) (u1 : P.underlying g1.type = some (.int .i64))
    (h : DataW.trod enc P W 0 spare held fuel t [.slice a len cap] = some x) : ∃ l : List (Bool × Int), l.length = len ∧ GVN W a l := by
  by_cases h0 : len = 0
  · subst h0
    exact ⟨[], rfl, fun i x hi => by simp at hi⟩
  rcases open_slice ht h with ⟨hcs, _⟩ | ⟨a', len', cap', m, n, D, Pl, hcs, hb, hl, hm, hmm, rfl, hx⟩
  · simp at hcs; omega
  simp at hcs
  obtain ⟨rfl, rfl, rfl⟩ := hcs
  have hlm : len ≤ m := by rw [hmm]; split <;> omega
  have each : ∀ i, i < len → ∃ q : Bool × Int, W.cell? (a'.add (i * 2)) = some (.bool q.1) ∧ W.cell? (a'.add (i * 2 + 1)) = some (.int .i64 q.2) := by
    intro i hi
    obtain ⟨cs', h1, h2⟩ := hx i (by omega)
    rw [ce] at h1
    obtain ⟨_, hlen, hcell⟩ := World.cells?_some h1
    match cs', hlen with
    | [z0, z1], _ =>
      obtain ⟨b, q, rfl, rfl⟩ := open_opd hs o0 o1 c0 c1 u0 u1 h2
      have cj := hcell 0 (by omega)
      have ck := hcell 1 (by omega)
      rw [add_add] at cj ck
      refine ⟨(b, q), ?_, ?_⟩
      · simpa using cj
      · simpa using ck
  obtain ⟨b, off, spot⟩ := a'
  obtain ⟨q0, z0, _⟩ := each 0 (by omega)
  have hspot : spot = none := by simpa [Addr.add] using World.cell?_spot z0
  subst hspot
  obtain ⟨V, hV⟩ := choose_lt each
  refine ⟨(List.range len).map V, by simp, fun i x hi => ?_⟩
  have hil : i < len := by have := (List.getElem?_eq_some_iff.1 hi).1; simpa using this
  have : x = V i := by simpa [hil] using hi.symm
  subst this
  obtain ⟨hv, hu⟩ := hV i hil
  rw [add_at] at hv hu
  exact ⟨b, off, rfl, hv, by rw [← Nat.add_assoc] at hu; exact hu⟩
end Go.Proofs.YtblcjohhelokkaaGreatDoor
namespace Go.Proofs.YtblcjohhelokkaaGreatDoor
open Go.RowKit Go.Deep Go.ChangeShapes Go.WideShapes Go.ChangeAt
section
variable {l : List Ins} {os : List Int} {gs : List (Bool × Int)}
/-- Given reads that say what an object holds. -/
def Same (os : List Int) (gs : List (Bool × Int)) : Prop := ∀ x, x < os.length → ∀ r, seenV os gs r x = os.getD x 0
theorem seen_nil (r x : Nat) : seenV os [] r x = os.getD x 0 := by
  unfold seenV
  rw [if_neg (by simp)]
theorem mstp_same (h : Same os gs) (q : Ins) (s : Rs) : mstp os gs q s = mstp os [] q s := by
  unfold mstp
  split
  · split
    · rename_i hx
      have hxl : (s.sv q.oR q.oN).toNat < os.length := by omega
      generalize (s.sv q.oR q.oN).toNat = x at *
      have hr : s.inc.rdo os gs x = s.inc.rdo os [] x := by
        unfold Rs.rdo
        rw [h x hxl, seen_nil]
      unfold mstpO
      rw [hr]
    · rfl
  · rfl
theorem gor_same (h : Same os gs) : ∀ (f c : Nat) (s : Rs), gor l os gs f c s = gor l os [] f c s
  | 0, _, _ => rfl
  | f + 1, c, s => by
    by_cases h0 : s.oc = 0
    · rw [gor_step f c h0, gor_step f c h0, mstp_same h]
      exact gor_same h f (c + 1) _
    · rw [gor_end (f + 1) c h0, gor_end (f + 1) c h0]
end
theorem n64i : ∃ i, Tryz.prog.info? 2 = some i ∧ i.zero = some (.int .i64 0) ∧ i.size = 1 ∧ i.bytes = 8 := by
  have h := i64infoM
  cases hq : Tryz.prog.info? 2 with
  | none => rw [hq] at h; cases h
  | some i =>
    rw [hq] at h
    injection h with h
    injection h with h1 h2
    injection h2 with h2 h3
    exact ⟨i, rfl, h1, h2, h3⟩
theorem giv0 : (Tryz.prog.info? 50).map (fun i => (i.zero, i.size, i.bytes)) = some (some (.agg #[.bool false, .int .i64 0]), 2, 16) := by kernel_rfl
theorem givi : ∃ i, Tryz.prog.info? 50 = some i ∧ i.zero = some (.agg #[.bool false, .int .i64 0]) ∧ i.size = 2 ∧ i.bytes = 16 := by
  have h := giv0
  cases hq : Tryz.prog.info? 50 with
  | none => rw [hq] at h; cases h
  | some i =>
    rw [hq] at h
    injection h with h
    injection h with h1 h2
    injection h2 with h2 h3
    exact ⟨i, rfl, h1, h2, h3⟩
theorem nI : Tryz.prog.underlying 24 = some (.slice 2) := by kernel_rfl
theorem gI : Tryz.prog.underlying 44 = some (.slice 50) := by kernel_rfl
theorem append_n {W : World} {base k : Nat} {v : Value} {xs : List Int} (hown : W.ownsRow base 2 1 v k (nvs xs)) (hb : base ≤ W.heap.size) (hk : (k + 1) * 8 ≤ 140737488355328) (x : Int) :
    ∃ v' w', (Builtin.append_ #[24, 24] 24 #[v, .slice (some ⟨W.heap.size, 0, none⟩) 1 1]).run Tryz.prog (W.alloc (.cells #[.int .i64 x] 2)) = .ok v' w' ∧ w'.ownsRow base 2 1 v' (k + 1) (nvs (xs ++ [x])) ∧ Keeps (fun i => v.ownBlock = some i) W w' ∧ (v'.ownBlock = v.ownBlock ∨ v'.ownBlock = some (W.heap.size + 1)) := by
  obtain ⟨i0, hi0, hz0, hz1, hz2⟩ := n64i
  obtain ⟨v', w', hr, ho, hg, _, hbl⟩ := run_append_own_at (P := Tryz.prog) (w := W.alloc (.cells (nvs [x]).toArray 2)) base 24 24 2 i0 _ 1 8 nI hi0 hz0 hz1 hz2 rfl (by decide) v k (nvs xs) (((Keeps.refl (fun _ => False) W).alloc _).owns hown (fun _ _ e => e)) ⟨W.heap.size, 0, none⟩ 1 1 (nvs [x]) rfl (fun j u hu => by
      rw [add_at]
      have := (CL.made W (nvs [x]) 2).c j u hu
      simpa using this) (fun u hu => by
      simp [nvs] at hu
      rcases hu with rfl
      rfl) (by unfold maxLen; omega) (by omega) (Nat.le_trans hb (by simp))
  refine ⟨v', w', hr, ?_, ((Keeps.refl _ W).alloc _).grown hg (fun i _ e => e), by simpa using hbl⟩
  unfold nvs
  rw [List.map_append]
  simpa [nvs] using ho
/-- Given reads' cells. -/
def gvs (l : List (Bool × Int)) : List Value := l.flatMap fun g => [.bool g.1, .int .i64 g.2]
theorem append_g {W : World} {base k : Nat} {v : Value} {xs : List (Bool × Int)} (hown : W.ownsRow base 50 2 v k (gvs xs)) (hb : base ≤ W.heap.size) (hk : (k + 1) * 16 ≤ 140737488355328) (u : Bool) (x : Int) :
    ∃ v' w', (Builtin.append_ #[44, 44] 44 #[v, .slice (some ⟨W.heap.size, 0, none⟩) 1 1]).run Tryz.prog (W.alloc (.cells #[.bool u, .int .i64 x] 50)) = .ok v' w' ∧ w'.ownsRow base 50 2 v' (k + 1) (gvs (xs ++ [(u, x)])) ∧ Keeps (fun i => v.ownBlock = some i) W w' ∧ (v'.ownBlock = v.ownBlock ∨ v'.ownBlock = some (W.heap.size + 1)) := by
  obtain ⟨i0, hi0, hz0, hz1, hz2⟩ := givi
  obtain ⟨v', w', hr, ho, hg, _, hbl⟩ := run_append_own_at (P := Tryz.prog) (w := W.alloc (.cells (gvs [(u, x)]).toArray 50)) base 44 44 50 i0 _ 2 16 gI hi0 hz0 hz1 hz2 rfl (by decide) v k (gvs xs) (((Keeps.refl (fun _ => False) W).alloc _).owns hown (fun _ _ e => e)) ⟨W.heap.size, 0, none⟩ 1 1 (gvs [(u, x)]) rfl (fun j y hy => by
      rw [add_at]
      have := (CL.made W (gvs [(u, x)]) 50).c j y hy
      simpa using this) (fun y hy => by
      simp [gvs] at hy
      rcases hy with rfl | rfl <;> rfl) (by unfold maxLen; omega) (by omega) (Nat.le_trans hb (by simp))
  refine ⟨v', w', hr, ?_, ((Keeps.refl _ W).alloc _).grown hg (fun i _ e => e), by simpa using hbl⟩
  unfold gvs
  rw [List.flatMap_append]
  simpa [gvs] using ho
theorem num_of_owns {W : World} {base n : Nat} {v : Value} {l : List Int} (h : W.ownsRow base 2 1 v n (nvs l)) (hn : l.length = n) : ∃ a cap, v = .slice a n cap ∧ NUM W a l := by
  rcases h.2 with ⟨rfl, h0⟩ | ⟨g, cap, cur, rfl, _⟩
  · have hz : n = 0 := by first | exact h0.1 | omega
    subst hz
    exact ⟨none, 0, rfl, fun i x hi => by have := (List.getElem?_eq_some_iff.1 hi).1; omega⟩
  · refine ⟨_, cap, rfl, fun i x hi => ⟨g, 0, rfl, ?_⟩⟩
    have hc := h.cells (g := g) rfl i (.int .i64 x) (by unfold nvs; rw [List.getElem?_map, hi]; rfl)
    rw [add_at] at hc
    exact hc
theorem gvs_get : ∀ (l : List (Bool × Int)) (i : Nat) (g : Bool × Int), l[i]? = some g → (gvs l)[i * 2]? = some (.bool g.1) ∧ (gvs l)[i * 2 + 1]? = some (.int .i64 g.2)
  | [], _, _, h => by simp at h
  | q :: l, 0, g, h => by
    have h : q = g := by simpa using h
    subst h
    exact ⟨rfl, rfl⟩
  | q :: l, i + 1, g, h => by
    have := gvs_get l i g (by simpa using h)
    rw [show (i + 1) * 2 = i * 2 + 1 + 1 by omega]
    exact this
theorem gvn_of_owns {W : World} {base n : Nat} {v : Value} {l : List (Bool × Int)} (h : W.ownsRow base 50 2 v n (gvs l)) (hn : l.length = n) : ∃ a cap, v = .slice a n cap ∧ GVN W a l := by
  rcases h.2 with ⟨rfl, h0⟩ | ⟨g, cap, cur, rfl, _⟩
  · have hz : n = 0 := by first | exact h0.1 | omega
    subst hz
    exact ⟨none, 0, rfl, fun i x hi => by have := (List.getElem?_eq_some_iff.1 hi).1; omega⟩
  · refine ⟨_, cap, rfl, fun i x hi => ⟨g, 0, rfl, ?_, ?_⟩⟩
    · have hc := h.cells (g := g) rfl (i * 2) _ (gvs_get l i x hi).1
      rw [add_at] at hc
      exact hc
    · have hc := h.cells (g := g) rfl (i * 2 + 1) _ (gvs_get l i x hi).2
      rw [add_at, ← Nat.add_assoc] at hc
      exact hc
end Go.Proofs.YtblcjohhelokkaaGreatDoor
namespace Go.Proofs.YtblcjohhelokkaaGreatDoor
open Go.RowKit Go.Deep Go.ChangeShapes Go.WideShapes Go.ChangeAt
attribute [local go_sem] Oper.semAt_some run_store_nf run_store_f
/-- An append whose run is known. -/
theorem wpList_append_run {P : Program} {w : World} {ops : Array Oper} {rest : List Oper} {o : Oper} {a : Act} {Q : Exit → Act → World → Prop} (hgd : o.guard = none) (s x : Operand) (t : TypeId)
    (ho : o.op = .call { callee := .builtin .append, args := #[s, x], argTypes := #[t, t] }) (v src v' : Value) (w' : World) (hs : a.eval s = v) (hx : a.eval x = src)
    (hr : (Builtin.append_ #[t, t] o.type #[v, src]).run P w = .ok v' w') (h : wpList P ops Q rest (a.put o.dst v') w') : wpList P ops Q (o :: rest) a w :=
  wpList_plain hgd fun K hK => by
    unfold Oper.wp execOp
    simp only [ho, resolve, invoke, builtin, Sem.run_bind, Sem.run_pure, Result.andThen_ok, List.map_toArray, List.map_cons, List.map_nil, hs, hx, hr]
    exact hK _ _ h
/-- Truths in memory. -/
def BSL (w : World) (a : Option Addr) (n : Nat) : Prop := ∀ i, i < n → ∃ b off v, a = some ⟨b, off, none⟩ ∧ w.cell? ⟨b, off + i, none⟩ = some (.bool v)
theorem open_bools {H : Type} {enc : TypeId × Value → H} {P : Program} {W : World} {spare : Nat → Bool} {held : Bool} {t e : TypeId} {fuel : Nat} {a : Option Addr} {len cap : Nat} {x : DataW H × List MemPlace}
    (ht : P.underlying t = some (.slice e)) (he : P.underlying e = some .bool) (ce : P.cellsOf e = 1)
    (h : DataW.trod enc P W 0 spare held fuel t [.slice a len cap] = some x) : BSL W a len := by
  by_cases h0 : len = 0
  · subst h0
    exact fun i hi => by omega
  rcases open_slice ht h with ⟨hcs, _⟩ | ⟨a', len', cap', m, n, D, Pl, hcs, hb, hl, hm, hmm, rfl, hx⟩
  · simp at hcs; omega
  simp at hcs
  obtain ⟨rfl, rfl, rfl⟩ := hcs
  have hlm : len ≤ m := by rw [hmm]; split <;> omega
  have each : ∀ i, i < len → ∃ v, W.cell? (a'.add i) = some (.bool v) := by
    intro i hi
    obtain ⟨cs', h1, h2⟩ := hx i (by omega)
    rw [ce] at h1
    obtain ⟨_, hlen, hcell⟩ := World.cells?_some h1
    obtain ⟨v, rfl, _⟩ := DataW.trod_bool he h2
    have cj := hcell 0 (by omega)
    rw [add_add] at cj
    refine ⟨v, ?_⟩
    simpa using cj
  obtain ⟨b, off, spot⟩ := a'
  obtain ⟨v0, z0⟩ := each 0 (by omega)
  have hspot : spot = none := by simpa [Addr.add] using World.cell?_spot z0
  subst hspot
  intro i hi
  obtain ⟨v, hv⟩ := each i hi
  rw [add_at] at hv
  exact ⟨b, off, v, rfl, hv⟩
/-- What Run says where it refuses. -/
def errv (l : List Ins) (no ng : Nat) (fuel : Int) : Int := if (chk l).1 = 0 then rfs no ng fuel else (chk l).1
theorem rfs_ng {no ng : Nat} {fuel : Int} (h : ng ≤ 4096) : rfs no ng fuel = rfs no 0 fuel := by
  unfold rfs
  rw [if_neg (show ¬ 4096 < ng by omega), if_neg (show ¬ 4096 < 0 by omega)]
theorem run_no {w : World} {a ao ag : Option Addr} {cap co cg : Nat} {l : List Ins} {os : List Int} {gs : List (Bool × Int)} (hT : LT w) (hl : ISL w a l) (hlen : l.length ≤ 9223372036854775807) (hO : NUM w ao os) (hG : GVN w ag gs) (fuel : Int) {x : Int} (hx : errv l os.length gs.length fuel = x) (hb : ¬ x = 0) : Calls Tryz.prog 10 #[.slice a l.length cap, .slice ao os.length co, .slice ag gs.length cg, .int .i64 fuel] w fun e w' => e = .returned (.tuple #[.agg #[.int .i64 0, .int .i64 0, .slice none 0 0, .int .i64 0], .int .i64 x]) ∧ Keeps (fun _ => False) w w' := by
  refine (run_any (cap := cap) (co := co) (cg := cg) hT hl hlen hO hG fuel).mono ?_
  rintro e w' ⟨v, y, rfl, hP, k⟩
  unfold errv at hx
  rcases hP with ⟨h0, rfl, rfl⟩ | ⟨h0, h1, rfl, rfl⟩ | ⟨h0, h1, _⟩
  · rw [if_neg h0] at hx
    subst hx
    exact ⟨rfl, k⟩
  · rw [if_pos h0] at hx
    subst hx
    exact ⟨rfl, k⟩
  · rw [if_pos h0] at hx
    exact (hb (hx.symm.trans h1)).elim
theorem same_rep {k : Nat} {v : Int} {gs : List (Bool × Int)} (h : ∀ g ∈ gs, g.1 = true → g.2 = v) : Same (List.replicate k v) gs := by
  intro x hx r
  have hv : (List.replicate k v).getD x 0 = v := by
    rw [List.length_replicate] at hx
    rw [List.getD_eq_getElem?_getD, List.getElem?_replicate, if_pos hx]; rfl
  unfold seenV
  split
  · rename_i e
    cases hg : gs[r]? with
    | none => rw [List.getD_eq_getElem?_getD, hg] at e; cases e
    | some g =>
      rw [List.getD_eq_getElem?_getD, hg] at e ⊢
      rw [hv]
      exact h g (List.mem_of_getElem? hg) e
  · rfl
set_option maxHeartbeats 3200000 in
set_option maxRecDepth 1000000 in
theorem given_lo {w : World} {a au : Option Addr} {cap cu U : Nat} {l : List Ins} (hT : PT w) (hNT : NT w) (hl : ISL w a l) (hlen : l.length * 88 ≤ 140737488355328) (n : Int) (v : Int) (hB : BSL w au U) (fuel : Int) (hn : n < 0) : Calls Tryz.prog 6 #[.slice a l.length cap, .int .i64 n, .int .i64 v, .slice au U cu, .int .i64 fuel] w fun e w' => e = .returned (.bool true) ∧ Below w.heap.size w w' := by
  have hH := head11 hT hNT
  have hLT := hT.lt
  have hPr := fun W (k : Keeps (fun _ => False) w W) => prog_any (cap := cap) (hl.keep k) hlen
  clear hT hNT hl
  have b1 : decide (n < 0) = true := decide_eq_true hn
  go_enter Tryz.func6, Tryz.ntmps6
  go_wp2_with (go_at_call 9; refine hH.mono ?_; clear hH; rintro e w1 ⟨rfl, k1⟩)
  go_loopw [11, 12] (fun ov iv Wr => ∃ k : Nat, (k : Int) ≤ (16 : Int) ∧ iv = .int .i64 (k : Int) ∧ Wr.ownsRow w1.heap.size 2 1 ov k (nvs (List.replicate k v)) ∧ Keeps (fun _ => False) w1 Wr) (fun _ iv _ => ((16 : Int)).toNat - (intOf iv).toNat)
  case atStart => exact ⟨0, by omega, rfl, World.ownsRow_nil _ _ _ _, Keeps.refl _ w1⟩
  case round =>
    obtain ⟨k, hk, rfl, hown, kr⟩ := hrel
    by_cases hlt : (k : Int) < (16 : Int)
    · have hltI : decide ((k : Int) < (16 : Int)) = true := decide_eq_true hlt
      have hw1 : IntKind.i64.wrap ((k : Int) + 1) = (k : Int) + 1 := by rw [IntKind.wrap_i64]; omega
      obtain ⟨v', w', hr, ho, kk, _⟩ := append_n hown kr.size (by omega) v
      have K' : Keeps (fun _ => False) w1 w' := kr.trans' kk (fun _ _ e => e) (fun i hi e => by have := owns_base hown i e; omega)
      clear hPr hLT hB kk hown
      go_wp2_with (at_builtin; refine wpList_append_run rfl _ _ _ rfl _ _ _ w' rfl rfl hr ?_; clear hr)
      go_roundw
      case rel => exact ⟨k + 1, by omega, by go_num, by rw [List.replicate_succ']; exact ho, K'⟩
      case measure => simp [intOf]; omega
    · have hltI : decide ((k : Int) < (16 : Int)) = false := decide_eq_false hlt
      obtain ⟨ao, co, rfl, hNU⟩ := num_of_owns hown (by rw [List.length_replicate])
      have hk16 : k ≤ 16 := by omega
      have KO := k1.trans kr
      clear hown
      obtain ⟨wo, hwo⟩ : ∃ wo, wo = wr := ⟨_, rfl⟩
      subst wr
      go_wp2
      go_loopw [13, 14] (fun gv iv Wr => ∃ (j : Nat) (gs : List (Bool × Int)), j ≤ 4096 ∧ gs.length = j ∧ Hid (∀ g ∈ gs, g.1 = true → g.2 = v) ∧ iv = .int .i64 (j : Int) ∧ Wr.ownsRow wo.heap.size 50 2 gv j (gvs gs) ∧ Keeps (fun _ => False) wo Wr) (fun _ iv _ => 4096 - (intOf iv).toNat)
      case atStart => exact ⟨0, [], by omega, rfl, fun g hg => by simp at hg, rfl, World.ownsRow_nil _ _ _ _, Keeps.refl _ wo⟩
      case round =>
        obtain ⟨j, gs, hj, hgl, hgv, rfl, hown, kr2⟩ := hrel
        by_cases hjU : j < U
        · have hjI : decide ((j : Int) < (U : Int)) = true := decide_eq_true (by omega)
          have hjJ : (j : Int) < (U : Int) := by omega
          have hj0 : (0 : Int) ≤ (j : Int) := by omega
          by_cases hj4 : j < 4096
          · have hj4I : decide ((j : Int) < 4096) = true := decide_eq_true (by omega)
            have hj4n : decide (j < 4096) = true := decide_eq_true hj4
            have hw1 : IntKind.i64.wrap ((j : Int) + 1) = (j : Int) + 1 := by rw [IntKind.wrap_i64]; omega
            obtain ⟨bb, ob, u, rfl, cu0⟩ := hB j hjU
            have cu := (KO.trans kr2).cell cu0 (fun e => e)
            clear cu0 hPr hLT hNU
            cases u with
            | true =>
              obtain ⟨v', w', hr, ho, kk, _⟩ := append_g (W := wr.alloc (.cells #[.bool true, .int .i64 v] 50)) (((Keeps.refl (fun _ => False) wr).alloc _).owns hown (fun _ _ e => e)) (by have := kr2.size; simp; omega) (by omega) true v
              have K' : Keeps (fun _ => False) wo w' := (kr2.alloc _).trans' kk (fun _ _ e => e) (fun i hi e => by have := owns_base hown i e; omega)
              clear kk
              rw [show (wr.alloc (.cells #[.bool true, .int .i64 v] 50)).heap.size = wr.heap.size + 1 by simp] at hr
              have cu2 := ((Keeps.refl (fun _ => False) wr).alloc (.cells #[.bool true, .int .i64 v] 50)).cell cu (fun e => e)
              go_wp2_with (at_builtin; refine wpList_append_run rfl _ _ _ rfl _ _ _ w' rfl rfl hr ?_; clear hr)
              go_roundw
              case rel => exact ⟨j + 1, gs ++ [(true, v)], by omega, by simp [hgl], fun g hg e => by rcases List.mem_append.1 hg with hg | hg; exact hgv.out g hg e; (have : g = (true, v) := by simpa using hg); rw [this], by go_num, ho, K'⟩
              case measure => simp [intOf]; omega
            | false =>
              have cu2 := ((Keeps.refl (fun _ => False) wr).alloc (.cells #[.bool false, .int .i64 v] 50)).cell cu (fun e => e)
              obtain ⟨v', w', hr, ho, kk, _⟩ := append_g (W := wr.alloc (.cells #[.bool false, .int .i64 (bits BinOp.xor IntKind.i64 (-1) v)] 50)) (((Keeps.refl (fun _ => False) wr).alloc _).owns hown (fun _ _ e => e)) (by have := kr2.size; simp; omega) (by omega) false (bits BinOp.xor IntKind.i64 (-1) v)
              have K' : Keeps (fun _ => False) wo w' := (kr2.alloc _).trans' kk (fun _ _ e => e) (fun i hi e => by have := owns_base hown i e; omega)
              clear kk
              rw [show (wr.alloc (.cells #[.bool false, .int .i64 (bits BinOp.xor IntKind.i64 (-1) v)] 50)).heap.size = wr.heap.size + 1 by simp] at hr
              go_wp2_with (at_builtin; refine wpList_append_run rfl _ _ _ rfl _ _ _ w' rfl rfl hr ?_; clear hr)
              go_roundw
              case rel => exact ⟨j + 1, gs ++ [(false, bits BinOp.xor IntKind.i64 (-1) v)], by omega, by simp [hgl], fun g hg e => by rcases List.mem_append.1 hg with hg | hg; exact hgv.out g hg e; (have : g = (false, bits BinOp.xor IntKind.i64 (-1) v) := by simpa using hg); (rw [this] at e; cases e), by go_num, ho, K'⟩
              case measure => simp [intOf]; omega
          · have hj4I : decide ((j : Int) < 4096) = false := decide_eq_false (by omega)
            have hj4n : decide (j < 4096) = false := decide_eq_false hj4
            obtain ⟨ag, cg, rfl, hGV⟩ := gvn_of_owns hown hgl
            have hj40 : j ≤ 4096 := hj
            have hgv := hgv.out
            have hNU := hNU.keep kr2
            have KG := KO.trans kr2
            clear hown hB
            obtain ⟨wg, hwg⟩ : ∃ wg, wg = wr := ⟨_, rfl⟩
            subst wr
            clear KO kr kr2
            by_cases hx : errv l k 0 fuel = 0
            · have hc : (chk l).1 = 0 := by
                unfold errv at hx
                split at hx
                · assumption
                · exact hx
              have hr : rfs k 0 fuel = 0 := by
                unfold errv at hx
                rw [if_pos hc] at hx
                exact hx
              obtain ⟨h16, _, hf0, hf1⟩ := rfs_ok hr
              obtain ⟨f, rfl⟩ : ∃ f : Nat, fuel = (f : Int) := ⟨fuel.toNat, by omega⟩
              obtain ⟨F, hF⟩ : ∃ F, gor l (List.replicate k v) [] f 0 rs0 = F := ⟨_, rfl⟩
              have hF2 : gor l (List.replicate k v) gs f 0 rs0 = F := (gor_same (same_rep hgv) f 0 rs0).trans hF
              obtain ⟨L, hLe⟩ : ∃ L, lft (List.replicate k v) F.1 (List.replicate k v).length = L := ⟨_, rfl⟩
              have L16 : L.length = k := by rw [← hLe, lft_len, List.length_replicate]
              have hQ1 := fun W (kk : Keeps (fun _ => False) wg W) a' cap' (hI : ISL W a' l) => run_fine (cap := cap') (co := co) (cg := 0) (ag := none) (gs := []) (hLT.keep (KG.trans kk)) hI (hNU.keep kk) (fun i x hx => by simp at hx) hc (by rw [List.length_replicate]; omega) (by simp) f (by omega) hF hLe
              have hR2 := fun W (kk : Keeps (fun _ => False) wg W) a' cap' (hI : ISL W a' l) => run_fine (cap := cap') (co := co) (cg := cg) (hLT.keep (KG.trans kk)) hI (hNU.keep kk) (hGV.keep kk) hc (by rw [List.length_replicate]; omega) (by omega) f (by omega) hF2 hLe
              rw [List.length_replicate] at hQ1 hR2
              rw [hgl] at hR2
              have hR1 : ∀ W, Keeps (fun _ => False) wg W → ∀ a' cap', ISL W a' l → Calls Tryz.prog 10 #[.slice a' l.length cap', .slice ao k co, .slice none 0 0, .int .i64 (f : Int)] W _ := hQ1
              clear hQ1
              obtain ⟨⟨rg, st, nm, rd, pl, oc, rs⟩, c⟩ := F
              simp only at hR1 hR2
              clear hF hF2 hLe hLT hNU hGV hgv hr hx
              go_wp2_with (first | (go_at_call 13; refine (hPr wg KG).mono ?_; clear hPr; rintro e w2 ⟨vp, rfl, hown, k2⟩; obtain ⟨a', cap', rfl, hI⟩ := isl_of_owns hown rfl; clear hown; have K2 := KG.trans k2) | (go_at_call 10; refine (hR1 w2 k2 a' cap' hI).mono ?_; clear hR1; rintro e w4 ⟨b4, rfl, C4, k4⟩; obtain ⟨W4, hW4⟩ : ∃ W4, W4 = w4.alloc (.cells #[.int .i64 oc, .int .i64 rs, .slice (some ⟨b4, 0, none⟩) k k, .int .i64 (c : Int)] 36) := ⟨_, rfl⟩; have HW4 : Hid (_ = _) := hW4; clear hW4; have KA4 : Keeps (fun _ => False) w4 W4 := (by rw [HW4.out]; exact (Keeps.refl _ w4).alloc _); have CA4 : CL W4 w4.heap.size [.int .i64 oc, .int .i64 rs, .slice (some ⟨b4, 0, none⟩) k k, .int .i64 (c : Int)] := (by rw [HW4.out]; exact CL.made w4 _ _); have k4 := k4.trans KA4; have K4 := K2.trans k4; have kk4 := k2.trans k4; have hI4 := hI.keep k4; have N4 := (NUM.ofCL C4).keep KA4; clear C4) | (go_at_call 10; rw [← HW4.out]; refine (hR2 W4 kk4 a' cap' hI4).mono ?_; clear hR2; rintro e w5 ⟨b5, rfl, C5, k5⟩; obtain ⟨W5, hW5⟩ : ∃ W5, W5 = w5.alloc (.cells #[.int .i64 oc, .int .i64 rs, .slice (some ⟨b5, 0, none⟩) k k, .int .i64 (c : Int)] 36) := ⟨_, rfl⟩; have HW5 : Hid (_ = _) := hW5; clear hW5; have KA5 : Keeps (fun _ => False) w5 W5 := (by rw [HW5.out]; exact (Keeps.refl _ w5).alloc _); have CA5 : CL W5 w5.heap.size [.int .i64 oc, .int .i64 rs, .slice (some ⟨b5, 0, none⟩) k k, .int .i64 (c : Int)] := (by rw [HW5.out]; exact CL.made w5 _ _); have k5 := k5.trans KA5; have K5 := K4.trans k5; have N5 := (NUM.ofCL C5).keep KA5; have A5 := CA4.keep (by show 0 < 4; decide) k5 (fun e => e); have M4 := N4.keep k5; have hs := same_ok (xs := L) k k oc rs (c : Int) M4 N5 (by omega); rw [L16] at hs; have y0 := A5.c 0 _ rfl; have y1 := A5.c 1 _ rfl; have y2 := A5.c 2 _ rfl; have y3 := A5.c 3 _ rfl; have z0 := CA5.c 0 _ rfl; have z1 := CA5.c 1 _ rfl; have z2 := CA5.c 2 _ rfl; have z3 := CA5.c 3 _ rfl) | (go_at_call 11; rw [← HW5.out]; clear HW5; refine (num11 _ _).mono ?_; rintro e wn ⟨rfl, en⟩; subst wn) | (go_at_call 11; refine (num11 _ _).mono ?_; rintro e wn ⟨rfl, en⟩; subst wn) | (go_at_call 14; refine hs.mono ?_; clear hs; rintro e w6 ⟨rfl, k6⟩))
              go_ret
              exact ⟨rfl, (K5.trans k6).below (Nat.le_refl _) (fun _ _ e => e)⟩
            · obtain ⟨x, hxe⟩ : ∃ x, errv l k 0 fuel = x := ⟨_, rfl⟩
              rw [hxe] at hx
              have hxf : errv l k j fuel = x := by
                unfold errv at hxe ⊢
                rw [rfs_ng hj40]
                exact hxe
              have hQ1 := fun W (kk : Keeps (fun _ => False) wg W) a' cap' (hI : ISL W a' l) => run_no (cap := cap') (co := co) (cg := 0) (ag := none) (gs := []) (hLT.keep (KG.trans kk)) hI (by omega) (hNU.keep kk) (fun i x hx => by simp at hx) fuel (x := x) (by rw [List.length_replicate]; exact hxe) hx
              have hR2 := fun W (kk : Keeps (fun _ => False) wg W) a' cap' (hI : ISL W a' l) => run_no (cap := cap') (co := co) (cg := cg) (hLT.keep (KG.trans kk)) hI (by omega) (hNU.keep kk) (hGV.keep kk) fuel (x := x) (by rw [List.length_replicate, hgl]; exact hxf) hx
              rw [List.length_replicate] at hQ1 hR2
              rw [hgl] at hR2
              have hR1 : ∀ W, Keeps (fun _ => False) wg W → ∀ a' cap', ISL W a' l → Calls Tryz.prog 10 #[.slice a' l.length cap', .slice ao k co, .slice none 0 0, .int .i64 fuel] W _ := hQ1
              clear hQ1
              have hN0 : ∀ W, NUM W none [] := fun W i x hx => by simp at hx
              clear hxe hxf hLT hNU hGV hgv
              go_wp2_with (first | (go_at_call 13; refine (hPr wg KG).mono ?_; clear hPr; rintro e w2 ⟨vp, rfl, hown, k2⟩; obtain ⟨a', cap', rfl, hI⟩ := isl_of_owns hown rfl; clear hown; have K2 := KG.trans k2) | (go_at_call 10; refine (hR1 w2 k2 a' cap' hI).mono ?_; clear hR1; rintro e w4 ⟨rfl, k4⟩; obtain ⟨W4, hW4⟩ : ∃ W4, W4 = w4.alloc (.cells #[.int .i64 0, .int .i64 0, .slice none 0 0, .int .i64 0] 36) := ⟨_, rfl⟩; have HW4 : Hid (_ = _) := hW4; clear hW4; have KA4 : Keeps (fun _ => False) w4 W4 := (by rw [HW4.out]; exact (Keeps.refl _ w4).alloc _); have CA4 : CL W4 w4.heap.size [.int .i64 0, .int .i64 0, .slice none 0 0, .int .i64 0] := (by rw [HW4.out]; exact CL.made w4 _ _); have k4 := k4.trans KA4; have K4 := K2.trans k4; have kk4 := k2.trans k4; have hI4 := hI.keep k4) | (go_at_call 10; rw [← HW4.out]; refine (hR2 W4 kk4 a' cap' hI4).mono ?_; clear hR2; rintro e w5 ⟨rfl, k5⟩; obtain ⟨W5, hW5⟩ : ∃ W5, W5 = w5.alloc (.cells #[.int .i64 0, .int .i64 0, .slice none 0 0, .int .i64 0] 36) := ⟨_, rfl⟩; have HW5 : Hid (_ = _) := hW5; clear hW5; have KA5 : Keeps (fun _ => False) w5 W5 := (by rw [HW5.out]; exact (Keeps.refl _ w5).alloc _); have CA5 : CL W5 w5.heap.size [.int .i64 0, .int .i64 0, .slice none 0 0, .int .i64 0] := (by rw [HW5.out]; exact CL.made w5 _ _); have k5 := k5.trans KA5; have K5 := K4.trans k5; have A5 := CA4.keep (by show 0 < 4; decide) k5 (fun e => e); have hs := same_ok (xs := []) 0 0 0 0 0 (hN0 W5) (hN0 W5) (by decide); have y0 := A5.c 0 _ rfl; have y1 := A5.c 1 _ rfl; have y2 := A5.c 2 _ rfl; have y3 := A5.c 3 _ rfl; have z0 := CA5.c 0 _ rfl; have z1 := CA5.c 1 _ rfl; have z2 := CA5.c 2 _ rfl; have z3 := CA5.c 3 _ rfl) | (go_at_call 11; rw [← HW5.out]; clear HW5; refine (num11 _ _).mono ?_; rintro e wn ⟨rfl, en⟩; subst wn) | (go_at_call 11; refine (num11 _ _).mono ?_; rintro e wn ⟨rfl, en⟩; subst wn) | (go_at_call 14; refine (show Calls Tryz.prog 14 #[.agg #[.int .i64 0, .int .i64 0, .slice none 0 0, .int .i64 0], .agg #[.int .i64 0, .int .i64 0, .slice none 0 0, .int .i64 0]] W5 _ from hs).mono ?_; clear hs; rintro e w6 ⟨rfl, k6⟩))
              go_ret
              exact ⟨rfl, (K5.trans k6).below (Nat.le_refl _) (fun _ _ e => e)⟩
        · have hjI : decide ((j : Int) < (U : Int)) = false := decide_eq_false (by omega)
          obtain ⟨ag, cg, rfl, hGV⟩ := gvn_of_owns hown hgl
          have hj40 : j ≤ 4096 := hj
          have hgv := hgv.out
          have hNU := hNU.keep kr2
          have KG := KO.trans kr2
          clear hown hB
          obtain ⟨wg, hwg⟩ : ∃ wg, wg = wr := ⟨_, rfl⟩
          subst wr
          clear KO kr kr2
          by_cases hx : errv l k 0 fuel = 0
          · have hc : (chk l).1 = 0 := by
              unfold errv at hx
              split at hx
              · assumption
              · exact hx
            have hr : rfs k 0 fuel = 0 := by
              unfold errv at hx
              rw [if_pos hc] at hx
              exact hx
            obtain ⟨h16, _, hf0, hf1⟩ := rfs_ok hr
            obtain ⟨f, rfl⟩ : ∃ f : Nat, fuel = (f : Int) := ⟨fuel.toNat, by omega⟩
            obtain ⟨F, hF⟩ : ∃ F, gor l (List.replicate k v) [] f 0 rs0 = F := ⟨_, rfl⟩
            have hF2 : gor l (List.replicate k v) gs f 0 rs0 = F := (gor_same (same_rep hgv) f 0 rs0).trans hF
            obtain ⟨L, hLe⟩ : ∃ L, lft (List.replicate k v) F.1 (List.replicate k v).length = L := ⟨_, rfl⟩
            have L16 : L.length = k := by rw [← hLe, lft_len, List.length_replicate]
            have hQ1 := fun W (kk : Keeps (fun _ => False) wg W) a' cap' (hI : ISL W a' l) => run_fine (cap := cap') (co := co) (cg := 0) (ag := none) (gs := []) (hLT.keep (KG.trans kk)) hI (hNU.keep kk) (fun i x hx => by simp at hx) hc (by rw [List.length_replicate]; omega) (by simp) f (by omega) hF hLe
            have hR2 := fun W (kk : Keeps (fun _ => False) wg W) a' cap' (hI : ISL W a' l) => run_fine (cap := cap') (co := co) (cg := cg) (hLT.keep (KG.trans kk)) hI (hNU.keep kk) (hGV.keep kk) hc (by rw [List.length_replicate]; omega) (by omega) f (by omega) hF2 hLe
            rw [List.length_replicate] at hQ1 hR2
            rw [hgl] at hR2
            have hR1 : ∀ W, Keeps (fun _ => False) wg W → ∀ a' cap', ISL W a' l → Calls Tryz.prog 10 #[.slice a' l.length cap', .slice ao k co, .slice none 0 0, .int .i64 (f : Int)] W _ := hQ1
            clear hQ1
            obtain ⟨⟨rg, st, nm, rd, pl, oc, rs⟩, c⟩ := F
            simp only at hR1 hR2
            clear hF hF2 hLe hLT hNU hGV hgv hr hx
            go_wp2_with (first | (go_at_call 13; refine (hPr wg KG).mono ?_; clear hPr; rintro e w2 ⟨vp, rfl, hown, k2⟩; obtain ⟨a', cap', rfl, hI⟩ := isl_of_owns hown rfl; clear hown; have K2 := KG.trans k2) | (go_at_call 10; refine (hR1 w2 k2 a' cap' hI).mono ?_; clear hR1; rintro e w4 ⟨b4, rfl, C4, k4⟩; obtain ⟨W4, hW4⟩ : ∃ W4, W4 = w4.alloc (.cells #[.int .i64 oc, .int .i64 rs, .slice (some ⟨b4, 0, none⟩) k k, .int .i64 (c : Int)] 36) := ⟨_, rfl⟩; have HW4 : Hid (_ = _) := hW4; clear hW4; have KA4 : Keeps (fun _ => False) w4 W4 := (by rw [HW4.out]; exact (Keeps.refl _ w4).alloc _); have CA4 : CL W4 w4.heap.size [.int .i64 oc, .int .i64 rs, .slice (some ⟨b4, 0, none⟩) k k, .int .i64 (c : Int)] := (by rw [HW4.out]; exact CL.made w4 _ _); have k4 := k4.trans KA4; have K4 := K2.trans k4; have kk4 := k2.trans k4; have hI4 := hI.keep k4; have N4 := (NUM.ofCL C4).keep KA4; clear C4) | (go_at_call 10; rw [← HW4.out]; refine (hR2 W4 kk4 a' cap' hI4).mono ?_; clear hR2; rintro e w5 ⟨b5, rfl, C5, k5⟩; obtain ⟨W5, hW5⟩ : ∃ W5, W5 = w5.alloc (.cells #[.int .i64 oc, .int .i64 rs, .slice (some ⟨b5, 0, none⟩) k k, .int .i64 (c : Int)] 36) := ⟨_, rfl⟩; have HW5 : Hid (_ = _) := hW5; clear hW5; have KA5 : Keeps (fun _ => False) w5 W5 := (by rw [HW5.out]; exact (Keeps.refl _ w5).alloc _); have CA5 : CL W5 w5.heap.size [.int .i64 oc, .int .i64 rs, .slice (some ⟨b5, 0, none⟩) k k, .int .i64 (c : Int)] := (by rw [HW5.out]; exact CL.made w5 _ _); have k5 := k5.trans KA5; have K5 := K4.trans k5; have N5 := (NUM.ofCL C5).keep KA5; have A5 := CA4.keep (by show 0 < 4; decide) k5 (fun e => e); have M4 := N4.keep k5; have hs := same_ok (xs := L) k k oc rs (c : Int) M4 N5 (by omega); rw [L16] at hs; have y0 := A5.c 0 _ rfl; have y1 := A5.c 1 _ rfl; have y2 := A5.c 2 _ rfl; have y3 := A5.c 3 _ rfl; have z0 := CA5.c 0 _ rfl; have z1 := CA5.c 1 _ rfl; have z2 := CA5.c 2 _ rfl; have z3 := CA5.c 3 _ rfl) | (go_at_call 11; rw [← HW5.out]; clear HW5; refine (num11 _ _).mono ?_; rintro e wn ⟨rfl, en⟩; subst wn) | (go_at_call 11; refine (num11 _ _).mono ?_; rintro e wn ⟨rfl, en⟩; subst wn) | (go_at_call 14; refine hs.mono ?_; clear hs; rintro e w6 ⟨rfl, k6⟩))
            go_ret
            exact ⟨rfl, (K5.trans k6).below (Nat.le_refl _) (fun _ _ e => e)⟩
          · obtain ⟨x, hxe⟩ : ∃ x, errv l k 0 fuel = x := ⟨_, rfl⟩
            rw [hxe] at hx
            have hxf : errv l k j fuel = x := by
              unfold errv at hxe ⊢
              rw [rfs_ng hj40]
              exact hxe
            have hQ1 := fun W (kk : Keeps (fun _ => False) wg W) a' cap' (hI : ISL W a' l) => run_no (cap := cap') (co := co) (cg := 0) (ag := none) (gs := []) (hLT.keep (KG.trans kk)) hI (by omega) (hNU.keep kk) (fun i x hx => by simp at hx) fuel (x := x) (by rw [List.length_replicate]; exact hxe) hx
            have hR2 := fun W (kk : Keeps (fun _ => False) wg W) a' cap' (hI : ISL W a' l) => run_no (cap := cap') (co := co) (cg := cg) (hLT.keep (KG.trans kk)) hI (by omega) (hNU.keep kk) (hGV.keep kk) fuel (x := x) (by rw [List.length_replicate, hgl]; exact hxf) hx
            rw [List.length_replicate] at hQ1 hR2
            rw [hgl] at hR2
            have hR1 : ∀ W, Keeps (fun _ => False) wg W → ∀ a' cap', ISL W a' l → Calls Tryz.prog 10 #[.slice a' l.length cap', .slice ao k co, .slice none 0 0, .int .i64 fuel] W _ := hQ1
            clear hQ1
            have hN0 : ∀ W, NUM W none [] := fun W i x hx => by simp at hx
            clear hxe hxf hLT hNU hGV hgv
            go_wp2_with (first | (go_at_call 13; refine (hPr wg KG).mono ?_; clear hPr; rintro e w2 ⟨vp, rfl, hown, k2⟩; obtain ⟨a', cap', rfl, hI⟩ := isl_of_owns hown rfl; clear hown; have K2 := KG.trans k2) | (go_at_call 10; refine (hR1 w2 k2 a' cap' hI).mono ?_; clear hR1; rintro e w4 ⟨rfl, k4⟩; obtain ⟨W4, hW4⟩ : ∃ W4, W4 = w4.alloc (.cells #[.int .i64 0, .int .i64 0, .slice none 0 0, .int .i64 0] 36) := ⟨_, rfl⟩; have HW4 : Hid (_ = _) := hW4; clear hW4; have KA4 : Keeps (fun _ => False) w4 W4 := (by rw [HW4.out]; exact (Keeps.refl _ w4).alloc _); have CA4 : CL W4 w4.heap.size [.int .i64 0, .int .i64 0, .slice none 0 0, .int .i64 0] := (by rw [HW4.out]; exact CL.made w4 _ _); have k4 := k4.trans KA4; have K4 := K2.trans k4; have kk4 := k2.trans k4; have hI4 := hI.keep k4) | (go_at_call 10; rw [← HW4.out]; refine (hR2 W4 kk4 a' cap' hI4).mono ?_; clear hR2; rintro e w5 ⟨rfl, k5⟩; obtain ⟨W5, hW5⟩ : ∃ W5, W5 = w5.alloc (.cells #[.int .i64 0, .int .i64 0, .slice none 0 0, .int .i64 0] 36) := ⟨_, rfl⟩; have HW5 : Hid (_ = _) := hW5; clear hW5; have KA5 : Keeps (fun _ => False) w5 W5 := (by rw [HW5.out]; exact (Keeps.refl _ w5).alloc _); have CA5 : CL W5 w5.heap.size [.int .i64 0, .int .i64 0, .slice none 0 0, .int .i64 0] := (by rw [HW5.out]; exact CL.made w5 _ _); have k5 := k5.trans KA5; have K5 := K4.trans k5; have A5 := CA4.keep (by show 0 < 4; decide) k5 (fun e => e); have hs := same_ok (xs := []) 0 0 0 0 0 (hN0 W5) (hN0 W5) (by decide); have y0 := A5.c 0 _ rfl; have y1 := A5.c 1 _ rfl; have y2 := A5.c 2 _ rfl; have y3 := A5.c 3 _ rfl; have z0 := CA5.c 0 _ rfl; have z1 := CA5.c 1 _ rfl; have z2 := CA5.c 2 _ rfl; have z3 := CA5.c 3 _ rfl) | (go_at_call 11; rw [← HW5.out]; clear HW5; refine (num11 _ _).mono ?_; rintro e wn ⟨rfl, en⟩; subst wn) | (go_at_call 11; refine (num11 _ _).mono ?_; rintro e wn ⟨rfl, en⟩; subst wn) | (go_at_call 14; refine (show Calls Tryz.prog 14 #[.agg #[.int .i64 0, .int .i64 0, .slice none 0 0, .int .i64 0], .agg #[.int .i64 0, .int .i64 0, .slice none 0 0, .int .i64 0]] W5 _ from hs).mono ?_; clear hs; rintro e w6 ⟨rfl, k6⟩))
            go_ret
            exact ⟨rfl, (K5.trans k6).below (Nat.le_refl _) (fun _ _ e => e)⟩
end Go.Proofs.YtblcjohhelokkaaGreatDoor
namespace Go.Proofs.YtblcjohhelokkaaGreatDoor
open Go.RowKit Go.Deep Go.ChangeShapes Go.WideShapes Go.ChangeAt
attribute [local go_sem] Oper.semAt_some run_store_nf run_store_f
set_option maxHeartbeats 3200000 in
set_option maxRecDepth 1000000 in
theorem given_hi {w : World} {a au : Option Addr} {cap cu U : Nat} {l : List Ins} (hT : PT w) (hNT : NT w) (hl : ISL w a l) (hlen : l.length * 88 ≤ 140737488355328) (n : Int) (v : Int) (hB : BSL w au U) (fuel : Int) (hn : 16 < n) : Calls Tryz.prog 6 #[.slice a l.length cap, .int .i64 n, .int .i64 v, .slice au U cu, .int .i64 fuel] w fun e w' => e = .returned (.bool true) ∧ Below w.heap.size w w' := by
  have hH := head11 hT hNT
  have hLT := hT.lt
  have hPr := fun W (k : Keeps (fun _ => False) w W) => prog_any (cap := cap) (hl.keep k) hlen
  clear hT hNT hl
  have b1 : decide (n < 0) = false := decide_eq_false (by omega)
  have b2 : decide (16 < n) = true := decide_eq_true hn
  go_enter Tryz.func6, Tryz.ntmps6
  go_wp2_with (go_at_call 9; refine hH.mono ?_; clear hH; rintro e w1 ⟨rfl, k1⟩)
  go_loopw [11, 12] (fun ov iv Wr => ∃ k : Nat, (k : Int) ≤ (16 : Int) ∧ iv = .int .i64 (k : Int) ∧ Wr.ownsRow w1.heap.size 2 1 ov k (nvs (List.replicate k v)) ∧ Keeps (fun _ => False) w1 Wr) (fun _ iv _ => ((16 : Int)).toNat - (intOf iv).toNat)
  case atStart => exact ⟨0, by omega, rfl, World.ownsRow_nil _ _ _ _, Keeps.refl _ w1⟩
  case round =>
    obtain ⟨k, hk, rfl, hown, kr⟩ := hrel
    by_cases hlt : (k : Int) < (16 : Int)
    · have hltI : decide ((k : Int) < (16 : Int)) = true := decide_eq_true hlt
      have hw1 : IntKind.i64.wrap ((k : Int) + 1) = (k : Int) + 1 := by rw [IntKind.wrap_i64]; omega
      obtain ⟨v', w', hr, ho, kk, _⟩ := append_n hown kr.size (by omega) v
      have K' : Keeps (fun _ => False) w1 w' := kr.trans' kk (fun _ _ e => e) (fun i hi e => by have := owns_base hown i e; omega)
      clear hPr hLT hB kk hown
      go_wp2_with (at_builtin; refine wpList_append_run rfl _ _ _ rfl _ _ _ w' rfl rfl hr ?_; clear hr)
      go_roundw
      case rel => exact ⟨k + 1, by omega, by go_num, by rw [List.replicate_succ']; exact ho, K'⟩
      case measure => simp [intOf]; omega
    · have hltI : decide ((k : Int) < (16 : Int)) = false := decide_eq_false hlt
      obtain ⟨ao, co, rfl, hNU⟩ := num_of_owns hown (by rw [List.length_replicate])
      have hk16 : k ≤ 16 := by omega
      have KO := k1.trans kr
      clear hown
      obtain ⟨wo, hwo⟩ : ∃ wo, wo = wr := ⟨_, rfl⟩
      subst wr
      go_wp2
      go_loopw [13, 14] (fun gv iv Wr => ∃ (j : Nat) (gs : List (Bool × Int)), j ≤ 4096 ∧ gs.length = j ∧ Hid (∀ g ∈ gs, g.1 = true → g.2 = v) ∧ iv = .int .i64 (j : Int) ∧ Wr.ownsRow wo.heap.size 50 2 gv j (gvs gs) ∧ Keeps (fun _ => False) wo Wr) (fun _ iv _ => 4096 - (intOf iv).toNat)
      case atStart => exact ⟨0, [], by omega, rfl, fun g hg => by simp at hg, rfl, World.ownsRow_nil _ _ _ _, Keeps.refl _ wo⟩
      case round =>
        obtain ⟨j, gs, hj, hgl, hgv, rfl, hown, kr2⟩ := hrel
        by_cases hjU : j < U
        · have hjI : decide ((j : Int) < (U : Int)) = true := decide_eq_true (by omega)
          have hjJ : (j : Int) < (U : Int) := by omega
          have hj0 : (0 : Int) ≤ (j : Int) := by omega
          by_cases hj4 : j < 4096
          · have hj4I : decide ((j : Int) < 4096) = true := decide_eq_true (by omega)
            have hj4n : decide (j < 4096) = true := decide_eq_true hj4
            have hw1 : IntKind.i64.wrap ((j : Int) + 1) = (j : Int) + 1 := by rw [IntKind.wrap_i64]; omega
            obtain ⟨bb, ob, u, rfl, cu0⟩ := hB j hjU
            have cu := (KO.trans kr2).cell cu0 (fun e => e)
            clear cu0 hPr hLT hNU
            cases u with
            | true =>
              obtain ⟨v', w', hr, ho, kk, _⟩ := append_g (W := wr.alloc (.cells #[.bool true, .int .i64 v] 50)) (((Keeps.refl (fun _ => False) wr).alloc _).owns hown (fun _ _ e => e)) (by have := kr2.size; simp; omega) (by omega) true v
              have K' : Keeps (fun _ => False) wo w' := (kr2.alloc _).trans' kk (fun _ _ e => e) (fun i hi e => by have := owns_base hown i e; omega)
              clear kk
              rw [show (wr.alloc (.cells #[.bool true, .int .i64 v] 50)).heap.size = wr.heap.size + 1 by simp] at hr
              have cu2 := ((Keeps.refl (fun _ => False) wr).alloc (.cells #[.bool true, .int .i64 v] 50)).cell cu (fun e => e)
              go_wp2_with (at_builtin; refine wpList_append_run rfl _ _ _ rfl _ _ _ w' rfl rfl hr ?_; clear hr)
              go_roundw
              case rel => exact ⟨j + 1, gs ++ [(true, v)], by omega, by simp [hgl], fun g hg e => by rcases List.mem_append.1 hg with hg | hg; exact hgv.out g hg e; (have : g = (true, v) := by simpa using hg); rw [this], by go_num, ho, K'⟩
              case measure => simp [intOf]; omega
            | false =>
              have cu2 := ((Keeps.refl (fun _ => False) wr).alloc (.cells #[.bool false, .int .i64 v] 50)).cell cu (fun e => e)
              obtain ⟨v', w', hr, ho, kk, _⟩ := append_g (W := wr.alloc (.cells #[.bool false, .int .i64 (bits BinOp.xor IntKind.i64 (-1) v)] 50)) (((Keeps.refl (fun _ => False) wr).alloc _).owns hown (fun _ _ e => e)) (by have := kr2.size; simp; omega) (by omega) false (bits BinOp.xor IntKind.i64 (-1) v)
              have K' : Keeps (fun _ => False) wo w' := (kr2.alloc _).trans' kk (fun _ _ e => e) (fun i hi e => by have := owns_base hown i e; omega)
              clear kk
              rw [show (wr.alloc (.cells #[.bool false, .int .i64 (bits BinOp.xor IntKind.i64 (-1) v)] 50)).heap.size = wr.heap.size + 1 by simp] at hr
              go_wp2_with (at_builtin; refine wpList_append_run rfl _ _ _ rfl _ _ _ w' rfl rfl hr ?_; clear hr)
              go_roundw
              case rel => exact ⟨j + 1, gs ++ [(false, bits BinOp.xor IntKind.i64 (-1) v)], by omega, by simp [hgl], fun g hg e => by rcases List.mem_append.1 hg with hg | hg; exact hgv.out g hg e; (have : g = (false, bits BinOp.xor IntKind.i64 (-1) v) := by simpa using hg); (rw [this] at e; cases e), by go_num, ho, K'⟩
              case measure => simp [intOf]; omega
          · have hj4I : decide ((j : Int) < 4096) = false := decide_eq_false (by omega)
            have hj4n : decide (j < 4096) = false := decide_eq_false hj4
            obtain ⟨ag, cg, rfl, hGV⟩ := gvn_of_owns hown hgl
            have hj40 : j ≤ 4096 := hj
            have hgv := hgv.out
            have hNU := hNU.keep kr2
            have KG := KO.trans kr2
            clear hown hB
            obtain ⟨wg, hwg⟩ : ∃ wg, wg = wr := ⟨_, rfl⟩
            subst wr
            clear KO kr kr2
            by_cases hx : errv l k 0 fuel = 0
            · have hc : (chk l).1 = 0 := by
                unfold errv at hx
                split at hx
                · assumption
                · exact hx
              have hr : rfs k 0 fuel = 0 := by
                unfold errv at hx
                rw [if_pos hc] at hx
                exact hx
              obtain ⟨h16, _, hf0, hf1⟩ := rfs_ok hr
              obtain ⟨f, rfl⟩ : ∃ f : Nat, fuel = (f : Int) := ⟨fuel.toNat, by omega⟩
              obtain ⟨F, hF⟩ : ∃ F, gor l (List.replicate k v) [] f 0 rs0 = F := ⟨_, rfl⟩
              have hF2 : gor l (List.replicate k v) gs f 0 rs0 = F := (gor_same (same_rep hgv) f 0 rs0).trans hF
              obtain ⟨L, hLe⟩ : ∃ L, lft (List.replicate k v) F.1 (List.replicate k v).length = L := ⟨_, rfl⟩
              have L16 : L.length = k := by rw [← hLe, lft_len, List.length_replicate]
              have hQ1 := fun W (kk : Keeps (fun _ => False) wg W) a' cap' (hI : ISL W a' l) => run_fine (cap := cap') (co := co) (cg := 0) (ag := none) (gs := []) (hLT.keep (KG.trans kk)) hI (hNU.keep kk) (fun i x hx => by simp at hx) hc (by rw [List.length_replicate]; omega) (by simp) f (by omega) hF hLe
              have hR2 := fun W (kk : Keeps (fun _ => False) wg W) a' cap' (hI : ISL W a' l) => run_fine (cap := cap') (co := co) (cg := cg) (hLT.keep (KG.trans kk)) hI (hNU.keep kk) (hGV.keep kk) hc (by rw [List.length_replicate]; omega) (by omega) f (by omega) hF2 hLe
              rw [List.length_replicate] at hQ1 hR2
              rw [hgl] at hR2
              have hR1 : ∀ W, Keeps (fun _ => False) wg W → ∀ a' cap', ISL W a' l → Calls Tryz.prog 10 #[.slice a' l.length cap', .slice ao k co, .slice none 0 0, .int .i64 (f : Int)] W _ := hQ1
              clear hQ1
              obtain ⟨⟨rg, st, nm, rd, pl, oc, rs⟩, c⟩ := F
              simp only at hR1 hR2
              clear hF hF2 hLe hLT hNU hGV hgv hr hx
              go_wp2_with (first | (go_at_call 13; refine (hPr wg KG).mono ?_; clear hPr; rintro e w2 ⟨vp, rfl, hown, k2⟩; obtain ⟨a', cap', rfl, hI⟩ := isl_of_owns hown rfl; clear hown; have K2 := KG.trans k2) | (go_at_call 10; refine (hR1 w2 k2 a' cap' hI).mono ?_; clear hR1; rintro e w4 ⟨b4, rfl, C4, k4⟩; obtain ⟨W4, hW4⟩ : ∃ W4, W4 = w4.alloc (.cells #[.int .i64 oc, .int .i64 rs, .slice (some ⟨b4, 0, none⟩) k k, .int .i64 (c : Int)] 36) := ⟨_, rfl⟩; have HW4 : Hid (_ = _) := hW4; clear hW4; have KA4 : Keeps (fun _ => False) w4 W4 := (by rw [HW4.out]; exact (Keeps.refl _ w4).alloc _); have CA4 : CL W4 w4.heap.size [.int .i64 oc, .int .i64 rs, .slice (some ⟨b4, 0, none⟩) k k, .int .i64 (c : Int)] := (by rw [HW4.out]; exact CL.made w4 _ _); have k4 := k4.trans KA4; have K4 := K2.trans k4; have kk4 := k2.trans k4; have hI4 := hI.keep k4; have N4 := (NUM.ofCL C4).keep KA4; clear C4) | (go_at_call 10; rw [← HW4.out]; refine (hR2 W4 kk4 a' cap' hI4).mono ?_; clear hR2; rintro e w5 ⟨b5, rfl, C5, k5⟩; obtain ⟨W5, hW5⟩ : ∃ W5, W5 = w5.alloc (.cells #[.int .i64 oc, .int .i64 rs, .slice (some ⟨b5, 0, none⟩) k k, .int .i64 (c : Int)] 36) := ⟨_, rfl⟩; have HW5 : Hid (_ = _) := hW5; clear hW5; have KA5 : Keeps (fun _ => False) w5 W5 := (by rw [HW5.out]; exact (Keeps.refl _ w5).alloc _); have CA5 : CL W5 w5.heap.size [.int .i64 oc, .int .i64 rs, .slice (some ⟨b5, 0, none⟩) k k, .int .i64 (c : Int)] := (by rw [HW5.out]; exact CL.made w5 _ _); have k5 := k5.trans KA5; have K5 := K4.trans k5; have N5 := (NUM.ofCL C5).keep KA5; have A5 := CA4.keep (by show 0 < 4; decide) k5 (fun e => e); have M4 := N4.keep k5; have hs := same_ok (xs := L) k k oc rs (c : Int) M4 N5 (by omega); rw [L16] at hs; have y0 := A5.c 0 _ rfl; have y1 := A5.c 1 _ rfl; have y2 := A5.c 2 _ rfl; have y3 := A5.c 3 _ rfl; have z0 := CA5.c 0 _ rfl; have z1 := CA5.c 1 _ rfl; have z2 := CA5.c 2 _ rfl; have z3 := CA5.c 3 _ rfl) | (go_at_call 11; rw [← HW5.out]; clear HW5; refine (num11 _ _).mono ?_; rintro e wn ⟨rfl, en⟩; subst wn) | (go_at_call 11; refine (num11 _ _).mono ?_; rintro e wn ⟨rfl, en⟩; subst wn) | (go_at_call 14; refine hs.mono ?_; clear hs; rintro e w6 ⟨rfl, k6⟩))
              go_ret
              exact ⟨rfl, (K5.trans k6).below (Nat.le_refl _) (fun _ _ e => e)⟩
            · obtain ⟨x, hxe⟩ : ∃ x, errv l k 0 fuel = x := ⟨_, rfl⟩
              rw [hxe] at hx
              have hxf : errv l k j fuel = x := by
                unfold errv at hxe ⊢
                rw [rfs_ng hj40]
                exact hxe
              have hQ1 := fun W (kk : Keeps (fun _ => False) wg W) a' cap' (hI : ISL W a' l) => run_no (cap := cap') (co := co) (cg := 0) (ag := none) (gs := []) (hLT.keep (KG.trans kk)) hI (by omega) (hNU.keep kk) (fun i x hx => by simp at hx) fuel (x := x) (by rw [List.length_replicate]; exact hxe) hx
              have hR2 := fun W (kk : Keeps (fun _ => False) wg W) a' cap' (hI : ISL W a' l) => run_no (cap := cap') (co := co) (cg := cg) (hLT.keep (KG.trans kk)) hI (by omega) (hNU.keep kk) (hGV.keep kk) fuel (x := x) (by rw [List.length_replicate, hgl]; exact hxf) hx
              rw [List.length_replicate] at hQ1 hR2
              rw [hgl] at hR2
              have hR1 : ∀ W, Keeps (fun _ => False) wg W → ∀ a' cap', ISL W a' l → Calls Tryz.prog 10 #[.slice a' l.length cap', .slice ao k co, .slice none 0 0, .int .i64 fuel] W _ := hQ1
              clear hQ1
              have hN0 : ∀ W, NUM W none [] := fun W i x hx => by simp at hx
              clear hxe hxf hLT hNU hGV hgv
              go_wp2_with (first | (go_at_call 13; refine (hPr wg KG).mono ?_; clear hPr; rintro e w2 ⟨vp, rfl, hown, k2⟩; obtain ⟨a', cap', rfl, hI⟩ := isl_of_owns hown rfl; clear hown; have K2 := KG.trans k2) | (go_at_call 10; refine (hR1 w2 k2 a' cap' hI).mono ?_; clear hR1; rintro e w4 ⟨rfl, k4⟩; obtain ⟨W4, hW4⟩ : ∃ W4, W4 = w4.alloc (.cells #[.int .i64 0, .int .i64 0, .slice none 0 0, .int .i64 0] 36) := ⟨_, rfl⟩; have HW4 : Hid (_ = _) := hW4; clear hW4; have KA4 : Keeps (fun _ => False) w4 W4 := (by rw [HW4.out]; exact (Keeps.refl _ w4).alloc _); have CA4 : CL W4 w4.heap.size [.int .i64 0, .int .i64 0, .slice none 0 0, .int .i64 0] := (by rw [HW4.out]; exact CL.made w4 _ _); have k4 := k4.trans KA4; have K4 := K2.trans k4; have kk4 := k2.trans k4; have hI4 := hI.keep k4) | (go_at_call 10; rw [← HW4.out]; refine (hR2 W4 kk4 a' cap' hI4).mono ?_; clear hR2; rintro e w5 ⟨rfl, k5⟩; obtain ⟨W5, hW5⟩ : ∃ W5, W5 = w5.alloc (.cells #[.int .i64 0, .int .i64 0, .slice none 0 0, .int .i64 0] 36) := ⟨_, rfl⟩; have HW5 : Hid (_ = _) := hW5; clear hW5; have KA5 : Keeps (fun _ => False) w5 W5 := (by rw [HW5.out]; exact (Keeps.refl _ w5).alloc _); have CA5 : CL W5 w5.heap.size [.int .i64 0, .int .i64 0, .slice none 0 0, .int .i64 0] := (by rw [HW5.out]; exact CL.made w5 _ _); have k5 := k5.trans KA5; have K5 := K4.trans k5; have A5 := CA4.keep (by show 0 < 4; decide) k5 (fun e => e); have hs := same_ok (xs := []) 0 0 0 0 0 (hN0 W5) (hN0 W5) (by decide); have y0 := A5.c 0 _ rfl; have y1 := A5.c 1 _ rfl; have y2 := A5.c 2 _ rfl; have y3 := A5.c 3 _ rfl; have z0 := CA5.c 0 _ rfl; have z1 := CA5.c 1 _ rfl; have z2 := CA5.c 2 _ rfl; have z3 := CA5.c 3 _ rfl) | (go_at_call 11; rw [← HW5.out]; clear HW5; refine (num11 _ _).mono ?_; rintro e wn ⟨rfl, en⟩; subst wn) | (go_at_call 11; refine (num11 _ _).mono ?_; rintro e wn ⟨rfl, en⟩; subst wn) | (go_at_call 14; refine (show Calls Tryz.prog 14 #[.agg #[.int .i64 0, .int .i64 0, .slice none 0 0, .int .i64 0], .agg #[.int .i64 0, .int .i64 0, .slice none 0 0, .int .i64 0]] W5 _ from hs).mono ?_; clear hs; rintro e w6 ⟨rfl, k6⟩))
              go_ret
              exact ⟨rfl, (K5.trans k6).below (Nat.le_refl _) (fun _ _ e => e)⟩
        · have hjI : decide ((j : Int) < (U : Int)) = false := decide_eq_false (by omega)
          obtain ⟨ag, cg, rfl, hGV⟩ := gvn_of_owns hown hgl
          have hj40 : j ≤ 4096 := hj
          have hgv := hgv.out
          have hNU := hNU.keep kr2
          have KG := KO.trans kr2
          clear hown hB
          obtain ⟨wg, hwg⟩ : ∃ wg, wg = wr := ⟨_, rfl⟩
          subst wr
          clear KO kr kr2
          by_cases hx : errv l k 0 fuel = 0
          · have hc : (chk l).1 = 0 := by
              unfold errv at hx
              split at hx
              · assumption
              · exact hx
            have hr : rfs k 0 fuel = 0 := by
              unfold errv at hx
              rw [if_pos hc] at hx
              exact hx
            obtain ⟨h16, _, hf0, hf1⟩ := rfs_ok hr
            obtain ⟨f, rfl⟩ : ∃ f : Nat, fuel = (f : Int) := ⟨fuel.toNat, by omega⟩
            obtain ⟨F, hF⟩ : ∃ F, gor l (List.replicate k v) [] f 0 rs0 = F := ⟨_, rfl⟩
            have hF2 : gor l (List.replicate k v) gs f 0 rs0 = F := (gor_same (same_rep hgv) f 0 rs0).trans hF
            obtain ⟨L, hLe⟩ : ∃ L, lft (List.replicate k v) F.1 (List.replicate k v).length = L := ⟨_, rfl⟩
            have L16 : L.length = k := by rw [← hLe, lft_len, List.length_replicate]
            have hQ1 := fun W (kk : Keeps (fun _ => False) wg W) a' cap' (hI : ISL W a' l) => run_fine (cap := cap') (co := co) (cg := 0) (ag := none) (gs := []) (hLT.keep (KG.trans kk)) hI (hNU.keep kk) (fun i x hx => by simp at hx) hc (by rw [List.length_replicate]; omega) (by simp) f (by omega) hF hLe
            have hR2 := fun W (kk : Keeps (fun _ => False) wg W) a' cap' (hI : ISL W a' l) => run_fine (cap := cap') (co := co) (cg := cg) (hLT.keep (KG.trans kk)) hI (hNU.keep kk) (hGV.keep kk) hc (by rw [List.length_replicate]; omega) (by omega) f (by omega) hF2 hLe
            rw [List.length_replicate] at hQ1 hR2
            rw [hgl] at hR2
            have hR1 : ∀ W, Keeps (fun _ => False) wg W → ∀ a' cap', ISL W a' l → Calls Tryz.prog 10 #[.slice a' l.length cap', .slice ao k co, .slice none 0 0, .int .i64 (f : Int)] W _ := hQ1
            clear hQ1
            obtain ⟨⟨rg, st, nm, rd, pl, oc, rs⟩, c⟩ := F
            simp only at hR1 hR2
            clear hF hF2 hLe hLT hNU hGV hgv hr hx
            go_wp2_with (first | (go_at_call 13; refine (hPr wg KG).mono ?_; clear hPr; rintro e w2 ⟨vp, rfl, hown, k2⟩; obtain ⟨a', cap', rfl, hI⟩ := isl_of_owns hown rfl; clear hown; have K2 := KG.trans k2) | (go_at_call 10; refine (hR1 w2 k2 a' cap' hI).mono ?_; clear hR1; rintro e w4 ⟨b4, rfl, C4, k4⟩; obtain ⟨W4, hW4⟩ : ∃ W4, W4 = w4.alloc (.cells #[.int .i64 oc, .int .i64 rs, .slice (some ⟨b4, 0, none⟩) k k, .int .i64 (c : Int)] 36) := ⟨_, rfl⟩; have HW4 : Hid (_ = _) := hW4; clear hW4; have KA4 : Keeps (fun _ => False) w4 W4 := (by rw [HW4.out]; exact (Keeps.refl _ w4).alloc _); have CA4 : CL W4 w4.heap.size [.int .i64 oc, .int .i64 rs, .slice (some ⟨b4, 0, none⟩) k k, .int .i64 (c : Int)] := (by rw [HW4.out]; exact CL.made w4 _ _); have k4 := k4.trans KA4; have K4 := K2.trans k4; have kk4 := k2.trans k4; have hI4 := hI.keep k4; have N4 := (NUM.ofCL C4).keep KA4; clear C4) | (go_at_call 10; rw [← HW4.out]; refine (hR2 W4 kk4 a' cap' hI4).mono ?_; clear hR2; rintro e w5 ⟨b5, rfl, C5, k5⟩; obtain ⟨W5, hW5⟩ : ∃ W5, W5 = w5.alloc (.cells #[.int .i64 oc, .int .i64 rs, .slice (some ⟨b5, 0, none⟩) k k, .int .i64 (c : Int)] 36) := ⟨_, rfl⟩; have HW5 : Hid (_ = _) := hW5; clear hW5; have KA5 : Keeps (fun _ => False) w5 W5 := (by rw [HW5.out]; exact (Keeps.refl _ w5).alloc _); have CA5 : CL W5 w5.heap.size [.int .i64 oc, .int .i64 rs, .slice (some ⟨b5, 0, none⟩) k k, .int .i64 (c : Int)] := (by rw [HW5.out]; exact CL.made w5 _ _); have k5 := k5.trans KA5; have K5 := K4.trans k5; have N5 := (NUM.ofCL C5).keep KA5; have A5 := CA4.keep (by show 0 < 4; decide) k5 (fun e => e); have M4 := N4.keep k5; have hs := same_ok (xs := L) k k oc rs (c : Int) M4 N5 (by omega); rw [L16] at hs; have y0 := A5.c 0 _ rfl; have y1 := A5.c 1 _ rfl; have y2 := A5.c 2 _ rfl; have y3 := A5.c 3 _ rfl; have z0 := CA5.c 0 _ rfl; have z1 := CA5.c 1 _ rfl; have z2 := CA5.c 2 _ rfl; have z3 := CA5.c 3 _ rfl) | (go_at_call 11; rw [← HW5.out]; clear HW5; refine (num11 _ _).mono ?_; rintro e wn ⟨rfl, en⟩; subst wn) | (go_at_call 11; refine (num11 _ _).mono ?_; rintro e wn ⟨rfl, en⟩; subst wn) | (go_at_call 14; refine hs.mono ?_; clear hs; rintro e w6 ⟨rfl, k6⟩))
            go_ret
            exact ⟨rfl, (K5.trans k6).below (Nat.le_refl _) (fun _ _ e => e)⟩
          · obtain ⟨x, hxe⟩ : ∃ x, errv l k 0 fuel = x := ⟨_, rfl⟩
            rw [hxe] at hx
            have hxf : errv l k j fuel = x := by
              unfold errv at hxe ⊢
              rw [rfs_ng hj40]
              exact hxe
            have hQ1 := fun W (kk : Keeps (fun _ => False) wg W) a' cap' (hI : ISL W a' l) => run_no (cap := cap') (co := co) (cg := 0) (ag := none) (gs := []) (hLT.keep (KG.trans kk)) hI (by omega) (hNU.keep kk) (fun i x hx => by simp at hx) fuel (x := x) (by rw [List.length_replicate]; exact hxe) hx
            have hR2 := fun W (kk : Keeps (fun _ => False) wg W) a' cap' (hI : ISL W a' l) => run_no (cap := cap') (co := co) (cg := cg) (hLT.keep (KG.trans kk)) hI (by omega) (hNU.keep kk) (hGV.keep kk) fuel (x := x) (by rw [List.length_replicate, hgl]; exact hxf) hx
            rw [List.length_replicate] at hQ1 hR2
            rw [hgl] at hR2
            have hR1 : ∀ W, Keeps (fun _ => False) wg W → ∀ a' cap', ISL W a' l → Calls Tryz.prog 10 #[.slice a' l.length cap', .slice ao k co, .slice none 0 0, .int .i64 fuel] W _ := hQ1
            clear hQ1
            have hN0 : ∀ W, NUM W none [] := fun W i x hx => by simp at hx
            clear hxe hxf hLT hNU hGV hgv
            go_wp2_with (first | (go_at_call 13; refine (hPr wg KG).mono ?_; clear hPr; rintro e w2 ⟨vp, rfl, hown, k2⟩; obtain ⟨a', cap', rfl, hI⟩ := isl_of_owns hown rfl; clear hown; have K2 := KG.trans k2) | (go_at_call 10; refine (hR1 w2 k2 a' cap' hI).mono ?_; clear hR1; rintro e w4 ⟨rfl, k4⟩; obtain ⟨W4, hW4⟩ : ∃ W4, W4 = w4.alloc (.cells #[.int .i64 0, .int .i64 0, .slice none 0 0, .int .i64 0] 36) := ⟨_, rfl⟩; have HW4 : Hid (_ = _) := hW4; clear hW4; have KA4 : Keeps (fun _ => False) w4 W4 := (by rw [HW4.out]; exact (Keeps.refl _ w4).alloc _); have CA4 : CL W4 w4.heap.size [.int .i64 0, .int .i64 0, .slice none 0 0, .int .i64 0] := (by rw [HW4.out]; exact CL.made w4 _ _); have k4 := k4.trans KA4; have K4 := K2.trans k4; have kk4 := k2.trans k4; have hI4 := hI.keep k4) | (go_at_call 10; rw [← HW4.out]; refine (hR2 W4 kk4 a' cap' hI4).mono ?_; clear hR2; rintro e w5 ⟨rfl, k5⟩; obtain ⟨W5, hW5⟩ : ∃ W5, W5 = w5.alloc (.cells #[.int .i64 0, .int .i64 0, .slice none 0 0, .int .i64 0] 36) := ⟨_, rfl⟩; have HW5 : Hid (_ = _) := hW5; clear hW5; have KA5 : Keeps (fun _ => False) w5 W5 := (by rw [HW5.out]; exact (Keeps.refl _ w5).alloc _); have CA5 : CL W5 w5.heap.size [.int .i64 0, .int .i64 0, .slice none 0 0, .int .i64 0] := (by rw [HW5.out]; exact CL.made w5 _ _); have k5 := k5.trans KA5; have K5 := K4.trans k5; have A5 := CA4.keep (by show 0 < 4; decide) k5 (fun e => e); have hs := same_ok (xs := []) 0 0 0 0 0 (hN0 W5) (hN0 W5) (by decide); have y0 := A5.c 0 _ rfl; have y1 := A5.c 1 _ rfl; have y2 := A5.c 2 _ rfl; have y3 := A5.c 3 _ rfl; have z0 := CA5.c 0 _ rfl; have z1 := CA5.c 1 _ rfl; have z2 := CA5.c 2 _ rfl; have z3 := CA5.c 3 _ rfl) | (go_at_call 11; rw [← HW5.out]; clear HW5; refine (num11 _ _).mono ?_; rintro e wn ⟨rfl, en⟩; subst wn) | (go_at_call 11; refine (num11 _ _).mono ?_; rintro e wn ⟨rfl, en⟩; subst wn) | (go_at_call 14; refine (show Calls Tryz.prog 14 #[.agg #[.int .i64 0, .int .i64 0, .slice none 0 0, .int .i64 0], .agg #[.int .i64 0, .int .i64 0, .slice none 0 0, .int .i64 0]] W5 _ from hs).mono ?_; clear hs; rintro e w6 ⟨rfl, k6⟩))
            go_ret
            exact ⟨rfl, (K5.trans k6).below (Nat.le_refl _) (fun _ _ e => e)⟩
set_option maxHeartbeats 3200000 in
set_option maxRecDepth 1000000 in
theorem given_in {w : World} {a au : Option Addr} {cap cu U : Nat} {l : List Ins} (hT : PT w) (hNT : NT w) (hl : ISL w a l) (hlen : l.length * 88 ≤ 140737488355328) (n : Int) (v : Int) (hB : BSL w au U) (fuel : Int) (hn : 0 ≤ n ∧ n ≤ 16) : Calls Tryz.prog 6 #[.slice a l.length cap, .int .i64 n, .int .i64 v, .slice au U cu, .int .i64 fuel] w fun e w' => e = .returned (.bool true) ∧ Below w.heap.size w w' := by
  have hH := head11 hT hNT
  have hLT := hT.lt
  have hPr := fun W (k : Keeps (fun _ => False) w W) => prog_any (cap := cap) (hl.keep k) hlen
  clear hT hNT hl
  have b1 : decide (n < 0) = false := decide_eq_false (by omega)
  have b2 : decide (16 < n) = false := decide_eq_false (by omega)
  go_enter Tryz.func6, Tryz.ntmps6
  go_wp2_with (go_at_call 9; refine hH.mono ?_; clear hH; rintro e w1 ⟨rfl, k1⟩)
  go_loopw [11, 12] (fun ov iv Wr => ∃ k : Nat, (k : Int) ≤ n ∧ iv = .int .i64 (k : Int) ∧ Wr.ownsRow w1.heap.size 2 1 ov k (nvs (List.replicate k v)) ∧ Keeps (fun _ => False) w1 Wr) (fun _ iv _ => (n).toNat - (intOf iv).toNat)
  case atStart => exact ⟨0, by omega, rfl, World.ownsRow_nil _ _ _ _, Keeps.refl _ w1⟩
  case round =>
    obtain ⟨k, hk, rfl, hown, kr⟩ := hrel
    by_cases hlt : (k : Int) < n
    · have hltI : decide ((k : Int) < n) = true := decide_eq_true hlt
      have hw1 : IntKind.i64.wrap ((k : Int) + 1) = (k : Int) + 1 := by rw [IntKind.wrap_i64]; omega
      obtain ⟨v', w', hr, ho, kk, _⟩ := append_n hown kr.size (by omega) v
      have K' : Keeps (fun _ => False) w1 w' := kr.trans' kk (fun _ _ e => e) (fun i hi e => by have := owns_base hown i e; omega)
      clear hPr hLT hB kk hown
      go_wp2_with (at_builtin; refine wpList_append_run rfl _ _ _ rfl _ _ _ w' rfl rfl hr ?_; clear hr)
      go_roundw
      case rel => exact ⟨k + 1, by omega, by go_num, by rw [List.replicate_succ']; exact ho, K'⟩
      case measure => simp [intOf]; omega
    · have hltI : decide ((k : Int) < n) = false := decide_eq_false hlt
      obtain ⟨ao, co, rfl, hNU⟩ := num_of_owns hown (by rw [List.length_replicate])
      have hk16 : k ≤ 16 := by omega
      have KO := k1.trans kr
      clear hown
      obtain ⟨wo, hwo⟩ : ∃ wo, wo = wr := ⟨_, rfl⟩
      subst wr
      go_wp2
      go_loopw [13, 14] (fun gv iv Wr => ∃ (j : Nat) (gs : List (Bool × Int)), j ≤ 4096 ∧ gs.length = j ∧ Hid (∀ g ∈ gs, g.1 = true → g.2 = v) ∧ iv = .int .i64 (j : Int) ∧ Wr.ownsRow wo.heap.size 50 2 gv j (gvs gs) ∧ Keeps (fun _ => False) wo Wr) (fun _ iv _ => 4096 - (intOf iv).toNat)
      case atStart => exact ⟨0, [], by omega, rfl, fun g hg => by simp at hg, rfl, World.ownsRow_nil _ _ _ _, Keeps.refl _ wo⟩
      case round =>
        obtain ⟨j, gs, hj, hgl, hgv, rfl, hown, kr2⟩ := hrel
        by_cases hjU : j < U
        · have hjI : decide ((j : Int) < (U : Int)) = true := decide_eq_true (by omega)
          have hjJ : (j : Int) < (U : Int) := by omega
          have hj0 : (0 : Int) ≤ (j : Int) := by omega
          by_cases hj4 : j < 4096
          · have hj4I : decide ((j : Int) < 4096) = true := decide_eq_true (by omega)
            have hj4n : decide (j < 4096) = true := decide_eq_true hj4
            have hw1 : IntKind.i64.wrap ((j : Int) + 1) = (j : Int) + 1 := by rw [IntKind.wrap_i64]; omega
            obtain ⟨bb, ob, u, rfl, cu0⟩ := hB j hjU
            have cu := (KO.trans kr2).cell cu0 (fun e => e)
            clear cu0 hPr hLT hNU
            cases u with
            | true =>
              obtain ⟨v', w', hr, ho, kk, _⟩ := append_g (W := wr.alloc (.cells #[.bool true, .int .i64 v] 50)) (((Keeps.refl (fun _ => False) wr).alloc _).owns hown (fun _ _ e => e)) (by have := kr2.size; simp; omega) (by omega) true v
              have K' : Keeps (fun _ => False) wo w' := (kr2.alloc _).trans' kk (fun _ _ e => e) (fun i hi e => by have := owns_base hown i e; omega)
              clear kk
              rw [show (wr.alloc (.cells #[.bool true, .int .i64 v] 50)).heap.size = wr.heap.size + 1 by simp] at hr
              have cu2 := ((Keeps.refl (fun _ => False) wr).alloc (.cells #[.bool true, .int .i64 v] 50)).cell cu (fun e => e)
              go_wp2_with (at_builtin; refine wpList_append_run rfl _ _ _ rfl _ _ _ w' rfl rfl hr ?_; clear hr)
              go_roundw
              case rel => exact ⟨j + 1, gs ++ [(true, v)], by omega, by simp [hgl], fun g hg e => by rcases List.mem_append.1 hg with hg | hg; exact hgv.out g hg e; (have : g = (true, v) := by simpa using hg); rw [this], by go_num, ho, K'⟩
              case measure => simp [intOf]; omega
            | false =>
              have cu2 := ((Keeps.refl (fun _ => False) wr).alloc (.cells #[.bool false, .int .i64 v] 50)).cell cu (fun e => e)
              obtain ⟨v', w', hr, ho, kk, _⟩ := append_g (W := wr.alloc (.cells #[.bool false, .int .i64 (bits BinOp.xor IntKind.i64 (-1) v)] 50)) (((Keeps.refl (fun _ => False) wr).alloc _).owns hown (fun _ _ e => e)) (by have := kr2.size; simp; omega) (by omega) false (bits BinOp.xor IntKind.i64 (-1) v)
              have K' : Keeps (fun _ => False) wo w' := (kr2.alloc _).trans' kk (fun _ _ e => e) (fun i hi e => by have := owns_base hown i e; omega)
              clear kk
              rw [show (wr.alloc (.cells #[.bool false, .int .i64 (bits BinOp.xor IntKind.i64 (-1) v)] 50)).heap.size = wr.heap.size + 1 by simp] at hr
              go_wp2_with (at_builtin; refine wpList_append_run rfl _ _ _ rfl _ _ _ w' rfl rfl hr ?_; clear hr)
              go_roundw
              case rel => exact ⟨j + 1, gs ++ [(false, bits BinOp.xor IntKind.i64 (-1) v)], by omega, by simp [hgl], fun g hg e => by rcases List.mem_append.1 hg with hg | hg; exact hgv.out g hg e; (have : g = (false, bits BinOp.xor IntKind.i64 (-1) v) := by simpa using hg); (rw [this] at e; cases e), by go_num, ho, K'⟩
              case measure => simp [intOf]; omega
          · have hj4I : decide ((j : Int) < 4096) = false := decide_eq_false (by omega)
            have hj4n : decide (j < 4096) = false := decide_eq_false hj4
            obtain ⟨ag, cg, rfl, hGV⟩ := gvn_of_owns hown hgl
            have hj40 : j ≤ 4096 := hj
            have hgv := hgv.out
            have hNU := hNU.keep kr2
            have KG := KO.trans kr2
            clear hown hB
            obtain ⟨wg, hwg⟩ : ∃ wg, wg = wr := ⟨_, rfl⟩
            subst wr
            clear KO kr kr2
            by_cases hx : errv l k 0 fuel = 0
            · have hc : (chk l).1 = 0 := by
                unfold errv at hx
                split at hx
                · assumption
                · exact hx
              have hr : rfs k 0 fuel = 0 := by
                unfold errv at hx
                rw [if_pos hc] at hx
                exact hx
              obtain ⟨h16, _, hf0, hf1⟩ := rfs_ok hr
              obtain ⟨f, rfl⟩ : ∃ f : Nat, fuel = (f : Int) := ⟨fuel.toNat, by omega⟩
              obtain ⟨F, hF⟩ : ∃ F, gor l (List.replicate k v) [] f 0 rs0 = F := ⟨_, rfl⟩
              have hF2 : gor l (List.replicate k v) gs f 0 rs0 = F := (gor_same (same_rep hgv) f 0 rs0).trans hF
              obtain ⟨L, hLe⟩ : ∃ L, lft (List.replicate k v) F.1 (List.replicate k v).length = L := ⟨_, rfl⟩
              have L16 : L.length = k := by rw [← hLe, lft_len, List.length_replicate]
              have hQ1 := fun W (kk : Keeps (fun _ => False) wg W) a' cap' (hI : ISL W a' l) => run_fine (cap := cap') (co := co) (cg := 0) (ag := none) (gs := []) (hLT.keep (KG.trans kk)) hI (hNU.keep kk) (fun i x hx => by simp at hx) hc (by rw [List.length_replicate]; omega) (by simp) f (by omega) hF hLe
              have hR2 := fun W (kk : Keeps (fun _ => False) wg W) a' cap' (hI : ISL W a' l) => run_fine (cap := cap') (co := co) (cg := cg) (hLT.keep (KG.trans kk)) hI (hNU.keep kk) (hGV.keep kk) hc (by rw [List.length_replicate]; omega) (by omega) f (by omega) hF2 hLe
              rw [List.length_replicate] at hQ1 hR2
              rw [hgl] at hR2
              have hR1 : ∀ W, Keeps (fun _ => False) wg W → ∀ a' cap', ISL W a' l → Calls Tryz.prog 10 #[.slice a' l.length cap', .slice ao k co, .slice none 0 0, .int .i64 (f : Int)] W _ := hQ1
              clear hQ1
              obtain ⟨⟨rg, st, nm, rd, pl, oc, rs⟩, c⟩ := F
              simp only at hR1 hR2
              clear hF hF2 hLe hLT hNU hGV hgv hr hx
              go_wp2_with (first | (go_at_call 13; refine (hPr wg KG).mono ?_; clear hPr; rintro e w2 ⟨vp, rfl, hown, k2⟩; obtain ⟨a', cap', rfl, hI⟩ := isl_of_owns hown rfl; clear hown; have K2 := KG.trans k2) | (go_at_call 10; refine (hR1 w2 k2 a' cap' hI).mono ?_; clear hR1; rintro e w4 ⟨b4, rfl, C4, k4⟩; obtain ⟨W4, hW4⟩ : ∃ W4, W4 = w4.alloc (.cells #[.int .i64 oc, .int .i64 rs, .slice (some ⟨b4, 0, none⟩) k k, .int .i64 (c : Int)] 36) := ⟨_, rfl⟩; have HW4 : Hid (_ = _) := hW4; clear hW4; have KA4 : Keeps (fun _ => False) w4 W4 := (by rw [HW4.out]; exact (Keeps.refl _ w4).alloc _); have CA4 : CL W4 w4.heap.size [.int .i64 oc, .int .i64 rs, .slice (some ⟨b4, 0, none⟩) k k, .int .i64 (c : Int)] := (by rw [HW4.out]; exact CL.made w4 _ _); have k4 := k4.trans KA4; have K4 := K2.trans k4; have kk4 := k2.trans k4; have hI4 := hI.keep k4; have N4 := (NUM.ofCL C4).keep KA4; clear C4) | (go_at_call 10; rw [← HW4.out]; refine (hR2 W4 kk4 a' cap' hI4).mono ?_; clear hR2; rintro e w5 ⟨b5, rfl, C5, k5⟩; obtain ⟨W5, hW5⟩ : ∃ W5, W5 = w5.alloc (.cells #[.int .i64 oc, .int .i64 rs, .slice (some ⟨b5, 0, none⟩) k k, .int .i64 (c : Int)] 36) := ⟨_, rfl⟩; have HW5 : Hid (_ = _) := hW5; clear hW5; have KA5 : Keeps (fun _ => False) w5 W5 := (by rw [HW5.out]; exact (Keeps.refl _ w5).alloc _); have CA5 : CL W5 w5.heap.size [.int .i64 oc, .int .i64 rs, .slice (some ⟨b5, 0, none⟩) k k, .int .i64 (c : Int)] := (by rw [HW5.out]; exact CL.made w5 _ _); have k5 := k5.trans KA5; have K5 := K4.trans k5; have N5 := (NUM.ofCL C5).keep KA5; have A5 := CA4.keep (by show 0 < 4; decide) k5 (fun e => e); have M4 := N4.keep k5; have hs := same_ok (xs := L) k k oc rs (c : Int) M4 N5 (by omega); rw [L16] at hs; have y0 := A5.c 0 _ rfl; have y1 := A5.c 1 _ rfl; have y2 := A5.c 2 _ rfl; have y3 := A5.c 3 _ rfl; have z0 := CA5.c 0 _ rfl; have z1 := CA5.c 1 _ rfl; have z2 := CA5.c 2 _ rfl; have z3 := CA5.c 3 _ rfl) | (go_at_call 11; rw [← HW5.out]; clear HW5; refine (num11 _ _).mono ?_; rintro e wn ⟨rfl, en⟩; subst wn) | (go_at_call 11; refine (num11 _ _).mono ?_; rintro e wn ⟨rfl, en⟩; subst wn) | (go_at_call 14; refine hs.mono ?_; clear hs; rintro e w6 ⟨rfl, k6⟩))
              go_ret
              exact ⟨rfl, (K5.trans k6).below (Nat.le_refl _) (fun _ _ e => e)⟩
            · obtain ⟨x, hxe⟩ : ∃ x, errv l k 0 fuel = x := ⟨_, rfl⟩
              rw [hxe] at hx
              have hxf : errv l k j fuel = x := by
                unfold errv at hxe ⊢
                rw [rfs_ng hj40]
                exact hxe
              have hQ1 := fun W (kk : Keeps (fun _ => False) wg W) a' cap' (hI : ISL W a' l) => run_no (cap := cap') (co := co) (cg := 0) (ag := none) (gs := []) (hLT.keep (KG.trans kk)) hI (by omega) (hNU.keep kk) (fun i x hx => by simp at hx) fuel (x := x) (by rw [List.length_replicate]; exact hxe) hx
              have hR2 := fun W (kk : Keeps (fun _ => False) wg W) a' cap' (hI : ISL W a' l) => run_no (cap := cap') (co := co) (cg := cg) (hLT.keep (KG.trans kk)) hI (by omega) (hNU.keep kk) (hGV.keep kk) fuel (x := x) (by rw [List.length_replicate, hgl]; exact hxf) hx
              rw [List.length_replicate] at hQ1 hR2
              rw [hgl] at hR2
              have hR1 : ∀ W, Keeps (fun _ => False) wg W → ∀ a' cap', ISL W a' l → Calls Tryz.prog 10 #[.slice a' l.length cap', .slice ao k co, .slice none 0 0, .int .i64 fuel] W _ := hQ1
              clear hQ1
              have hN0 : ∀ W, NUM W none [] := fun W i x hx => by simp at hx
              clear hxe hxf hLT hNU hGV hgv
              go_wp2_with (first | (go_at_call 13; refine (hPr wg KG).mono ?_; clear hPr; rintro e w2 ⟨vp, rfl, hown, k2⟩; obtain ⟨a', cap', rfl, hI⟩ := isl_of_owns hown rfl; clear hown; have K2 := KG.trans k2) | (go_at_call 10; refine (hR1 w2 k2 a' cap' hI).mono ?_; clear hR1; rintro e w4 ⟨rfl, k4⟩; obtain ⟨W4, hW4⟩ : ∃ W4, W4 = w4.alloc (.cells #[.int .i64 0, .int .i64 0, .slice none 0 0, .int .i64 0] 36) := ⟨_, rfl⟩; have HW4 : Hid (_ = _) := hW4; clear hW4; have KA4 : Keeps (fun _ => False) w4 W4 := (by rw [HW4.out]; exact (Keeps.refl _ w4).alloc _); have CA4 : CL W4 w4.heap.size [.int .i64 0, .int .i64 0, .slice none 0 0, .int .i64 0] := (by rw [HW4.out]; exact CL.made w4 _ _); have k4 := k4.trans KA4; have K4 := K2.trans k4; have kk4 := k2.trans k4; have hI4 := hI.keep k4) | (go_at_call 10; rw [← HW4.out]; refine (hR2 W4 kk4 a' cap' hI4).mono ?_; clear hR2; rintro e w5 ⟨rfl, k5⟩; obtain ⟨W5, hW5⟩ : ∃ W5, W5 = w5.alloc (.cells #[.int .i64 0, .int .i64 0, .slice none 0 0, .int .i64 0] 36) := ⟨_, rfl⟩; have HW5 : Hid (_ = _) := hW5; clear hW5; have KA5 : Keeps (fun _ => False) w5 W5 := (by rw [HW5.out]; exact (Keeps.refl _ w5).alloc _); have CA5 : CL W5 w5.heap.size [.int .i64 0, .int .i64 0, .slice none 0 0, .int .i64 0] := (by rw [HW5.out]; exact CL.made w5 _ _); have k5 := k5.trans KA5; have K5 := K4.trans k5; have A5 := CA4.keep (by show 0 < 4; decide) k5 (fun e => e); have hs := same_ok (xs := []) 0 0 0 0 0 (hN0 W5) (hN0 W5) (by decide); have y0 := A5.c 0 _ rfl; have y1 := A5.c 1 _ rfl; have y2 := A5.c 2 _ rfl; have y3 := A5.c 3 _ rfl; have z0 := CA5.c 0 _ rfl; have z1 := CA5.c 1 _ rfl; have z2 := CA5.c 2 _ rfl; have z3 := CA5.c 3 _ rfl) | (go_at_call 11; rw [← HW5.out]; clear HW5; refine (num11 _ _).mono ?_; rintro e wn ⟨rfl, en⟩; subst wn) | (go_at_call 11; refine (num11 _ _).mono ?_; rintro e wn ⟨rfl, en⟩; subst wn) | (go_at_call 14; refine (show Calls Tryz.prog 14 #[.agg #[.int .i64 0, .int .i64 0, .slice none 0 0, .int .i64 0], .agg #[.int .i64 0, .int .i64 0, .slice none 0 0, .int .i64 0]] W5 _ from hs).mono ?_; clear hs; rintro e w6 ⟨rfl, k6⟩))
              go_ret
              exact ⟨rfl, (K5.trans k6).below (Nat.le_refl _) (fun _ _ e => e)⟩
        · have hjI : decide ((j : Int) < (U : Int)) = false := decide_eq_false (by omega)
          obtain ⟨ag, cg, rfl, hGV⟩ := gvn_of_owns hown hgl
          have hj40 : j ≤ 4096 := hj
          have hgv := hgv.out
          have hNU := hNU.keep kr2
          have KG := KO.trans kr2
          clear hown hB
          obtain ⟨wg, hwg⟩ : ∃ wg, wg = wr := ⟨_, rfl⟩
          subst wr
          clear KO kr kr2
          by_cases hx : errv l k 0 fuel = 0
          · have hc : (chk l).1 = 0 := by
              unfold errv at hx
              split at hx
              · assumption
              · exact hx
            have hr : rfs k 0 fuel = 0 := by
              unfold errv at hx
              rw [if_pos hc] at hx
              exact hx
            obtain ⟨h16, _, hf0, hf1⟩ := rfs_ok hr
            obtain ⟨f, rfl⟩ : ∃ f : Nat, fuel = (f : Int) := ⟨fuel.toNat, by omega⟩
            obtain ⟨F, hF⟩ : ∃ F, gor l (List.replicate k v) [] f 0 rs0 = F := ⟨_, rfl⟩
            have hF2 : gor l (List.replicate k v) gs f 0 rs0 = F := (gor_same (same_rep hgv) f 0 rs0).trans hF
            obtain ⟨L, hLe⟩ : ∃ L, lft (List.replicate k v) F.1 (List.replicate k v).length = L := ⟨_, rfl⟩
            have L16 : L.length = k := by rw [← hLe, lft_len, List.length_replicate]
            have hQ1 := fun W (kk : Keeps (fun _ => False) wg W) a' cap' (hI : ISL W a' l) => run_fine (cap := cap') (co := co) (cg := 0) (ag := none) (gs := []) (hLT.keep (KG.trans kk)) hI (hNU.keep kk) (fun i x hx => by simp at hx) hc (by rw [List.length_replicate]; omega) (by simp) f (by omega) hF hLe
            have hR2 := fun W (kk : Keeps (fun _ => False) wg W) a' cap' (hI : ISL W a' l) => run_fine (cap := cap') (co := co) (cg := cg) (hLT.keep (KG.trans kk)) hI (hNU.keep kk) (hGV.keep kk) hc (by rw [List.length_replicate]; omega) (by omega) f (by omega) hF2 hLe
            rw [List.length_replicate] at hQ1 hR2
            rw [hgl] at hR2
            have hR1 : ∀ W, Keeps (fun _ => False) wg W → ∀ a' cap', ISL W a' l → Calls Tryz.prog 10 #[.slice a' l.length cap', .slice ao k co, .slice none 0 0, .int .i64 (f : Int)] W _ := hQ1
            clear hQ1
            obtain ⟨⟨rg, st, nm, rd, pl, oc, rs⟩, c⟩ := F
            simp only at hR1 hR2
            clear hF hF2 hLe hLT hNU hGV hgv hr hx
            go_wp2_with (first | (go_at_call 13; refine (hPr wg KG).mono ?_; clear hPr; rintro e w2 ⟨vp, rfl, hown, k2⟩; obtain ⟨a', cap', rfl, hI⟩ := isl_of_owns hown rfl; clear hown; have K2 := KG.trans k2) | (go_at_call 10; refine (hR1 w2 k2 a' cap' hI).mono ?_; clear hR1; rintro e w4 ⟨b4, rfl, C4, k4⟩; obtain ⟨W4, hW4⟩ : ∃ W4, W4 = w4.alloc (.cells #[.int .i64 oc, .int .i64 rs, .slice (some ⟨b4, 0, none⟩) k k, .int .i64 (c : Int)] 36) := ⟨_, rfl⟩; have HW4 : Hid (_ = _) := hW4; clear hW4; have KA4 : Keeps (fun _ => False) w4 W4 := (by rw [HW4.out]; exact (Keeps.refl _ w4).alloc _); have CA4 : CL W4 w4.heap.size [.int .i64 oc, .int .i64 rs, .slice (some ⟨b4, 0, none⟩) k k, .int .i64 (c : Int)] := (by rw [HW4.out]; exact CL.made w4 _ _); have k4 := k4.trans KA4; have K4 := K2.trans k4; have kk4 := k2.trans k4; have hI4 := hI.keep k4; have N4 := (NUM.ofCL C4).keep KA4; clear C4) | (go_at_call 10; rw [← HW4.out]; refine (hR2 W4 kk4 a' cap' hI4).mono ?_; clear hR2; rintro e w5 ⟨b5, rfl, C5, k5⟩; obtain ⟨W5, hW5⟩ : ∃ W5, W5 = w5.alloc (.cells #[.int .i64 oc, .int .i64 rs, .slice (some ⟨b5, 0, none⟩) k k, .int .i64 (c : Int)] 36) := ⟨_, rfl⟩; have HW5 : Hid (_ = _) := hW5; clear hW5; have KA5 : Keeps (fun _ => False) w5 W5 := (by rw [HW5.out]; exact (Keeps.refl _ w5).alloc _); have CA5 : CL W5 w5.heap.size [.int .i64 oc, .int .i64 rs, .slice (some ⟨b5, 0, none⟩) k k, .int .i64 (c : Int)] := (by rw [HW5.out]; exact CL.made w5 _ _); have k5 := k5.trans KA5; have K5 := K4.trans k5; have N5 := (NUM.ofCL C5).keep KA5; have A5 := CA4.keep (by show 0 < 4; decide) k5 (fun e => e); have M4 := N4.keep k5; have hs := same_ok (xs := L) k k oc rs (c : Int) M4 N5 (by omega); rw [L16] at hs; have y0 := A5.c 0 _ rfl; have y1 := A5.c 1 _ rfl; have y2 := A5.c 2 _ rfl; have y3 := A5.c 3 _ rfl; have z0 := CA5.c 0 _ rfl; have z1 := CA5.c 1 _ rfl; have z2 := CA5.c 2 _ rfl; have z3 := CA5.c 3 _ rfl) | (go_at_call 11; rw [← HW5.out]; clear HW5; refine (num11 _ _).mono ?_; rintro e wn ⟨rfl, en⟩; subst wn) | (go_at_call 11; refine (num11 _ _).mono ?_; rintro e wn ⟨rfl, en⟩; subst wn) | (go_at_call 14; refine hs.mono ?_; clear hs; rintro e w6 ⟨rfl, k6⟩))
            go_ret
            exact ⟨rfl, (K5.trans k6).below (Nat.le_refl _) (fun _ _ e => e)⟩
          · obtain ⟨x, hxe⟩ : ∃ x, errv l k 0 fuel = x := ⟨_, rfl⟩
            rw [hxe] at hx
            have hxf : errv l k j fuel = x := by
              unfold errv at hxe ⊢
              rw [rfs_ng hj40]
              exact hxe
            have hQ1 := fun W (kk : Keeps (fun _ => False) wg W) a' cap' (hI : ISL W a' l) => run_no (cap := cap') (co := co) (cg := 0) (ag := none) (gs := []) (hLT.keep (KG.trans kk)) hI (by omega) (hNU.keep kk) (fun i x hx => by simp at hx) fuel (x := x) (by rw [List.length_replicate]; exact hxe) hx
            have hR2 := fun W (kk : Keeps (fun _ => False) wg W) a' cap' (hI : ISL W a' l) => run_no (cap := cap') (co := co) (cg := cg) (hLT.keep (KG.trans kk)) hI (by omega) (hNU.keep kk) (hGV.keep kk) fuel (x := x) (by rw [List.length_replicate, hgl]; exact hxf) hx
            rw [List.length_replicate] at hQ1 hR2
            rw [hgl] at hR2
            have hR1 : ∀ W, Keeps (fun _ => False) wg W → ∀ a' cap', ISL W a' l → Calls Tryz.prog 10 #[.slice a' l.length cap', .slice ao k co, .slice none 0 0, .int .i64 fuel] W _ := hQ1
            clear hQ1
            have hN0 : ∀ W, NUM W none [] := fun W i x hx => by simp at hx
            clear hxe hxf hLT hNU hGV hgv
            go_wp2_with (first | (go_at_call 13; refine (hPr wg KG).mono ?_; clear hPr; rintro e w2 ⟨vp, rfl, hown, k2⟩; obtain ⟨a', cap', rfl, hI⟩ := isl_of_owns hown rfl; clear hown; have K2 := KG.trans k2) | (go_at_call 10; refine (hR1 w2 k2 a' cap' hI).mono ?_; clear hR1; rintro e w4 ⟨rfl, k4⟩; obtain ⟨W4, hW4⟩ : ∃ W4, W4 = w4.alloc (.cells #[.int .i64 0, .int .i64 0, .slice none 0 0, .int .i64 0] 36) := ⟨_, rfl⟩; have HW4 : Hid (_ = _) := hW4; clear hW4; have KA4 : Keeps (fun _ => False) w4 W4 := (by rw [HW4.out]; exact (Keeps.refl _ w4).alloc _); have CA4 : CL W4 w4.heap.size [.int .i64 0, .int .i64 0, .slice none 0 0, .int .i64 0] := (by rw [HW4.out]; exact CL.made w4 _ _); have k4 := k4.trans KA4; have K4 := K2.trans k4; have kk4 := k2.trans k4; have hI4 := hI.keep k4) | (go_at_call 10; rw [← HW4.out]; refine (hR2 W4 kk4 a' cap' hI4).mono ?_; clear hR2; rintro e w5 ⟨rfl, k5⟩; obtain ⟨W5, hW5⟩ : ∃ W5, W5 = w5.alloc (.cells #[.int .i64 0, .int .i64 0, .slice none 0 0, .int .i64 0] 36) := ⟨_, rfl⟩; have HW5 : Hid (_ = _) := hW5; clear hW5; have KA5 : Keeps (fun _ => False) w5 W5 := (by rw [HW5.out]; exact (Keeps.refl _ w5).alloc _); have CA5 : CL W5 w5.heap.size [.int .i64 0, .int .i64 0, .slice none 0 0, .int .i64 0] := (by rw [HW5.out]; exact CL.made w5 _ _); have k5 := k5.trans KA5; have K5 := K4.trans k5; have A5 := CA4.keep (by show 0 < 4; decide) k5 (fun e => e); have hs := same_ok (xs := []) 0 0 0 0 0 (hN0 W5) (hN0 W5) (by decide); have y0 := A5.c 0 _ rfl; have y1 := A5.c 1 _ rfl; have y2 := A5.c 2 _ rfl; have y3 := A5.c 3 _ rfl; have z0 := CA5.c 0 _ rfl; have z1 := CA5.c 1 _ rfl; have z2 := CA5.c 2 _ rfl; have z3 := CA5.c 3 _ rfl) | (go_at_call 11; rw [← HW5.out]; clear HW5; refine (num11 _ _).mono ?_; rintro e wn ⟨rfl, en⟩; subst wn) | (go_at_call 11; refine (num11 _ _).mono ?_; rintro e wn ⟨rfl, en⟩; subst wn) | (go_at_call 14; refine (show Calls Tryz.prog 14 #[.agg #[.int .i64 0, .int .i64 0, .slice none 0 0, .int .i64 0], .agg #[.int .i64 0, .int .i64 0, .slice none 0 0, .int .i64 0]] W5 _ from hs).mono ?_; clear hs; rintro e w6 ⟨rfl, k6⟩))
            go_ret
            exact ⟨rfl, (K5.trans k6).below (Nat.le_refl _) (fun _ _ e => e)⟩
theorem given_any {w : World} {a au : Option Addr} {cap cu U : Nat} {l : List Ins} (hT : PT w) (hNT : NT w) (hl : ISL w a l) (hlen : l.length * 88 ≤ 140737488355328) (n : Int) (_ : -9223372036854775808 ≤ n ∧ n ≤ 9223372036854775807) (v : Int) (_ : -9223372036854775808 ≤ v ∧ v ≤ 9223372036854775807) (hB : BSL w au U) (fuel : Int) (_ : -9223372036854775808 ≤ fuel ∧ fuel ≤ 9223372036854775807) : Calls Tryz.prog 6 #[.slice a l.length cap, .int .i64 n, .int .i64 v, .slice au U cu, .int .i64 fuel] w fun e w' => e = .returned (.bool true) ∧ Below w.heap.size w w' := by
  by_cases h1 : n < 0
  · exact given_lo hT hNT hl hlen n v hB fuel h1
  · by_cases h2 : 16 < n
    · exact given_hi hT hNT hl hlen n v hB fuel h2
    · exact given_in hT hNT hl hlen n v hB fuel ⟨by omega, by omega⟩
end Go.Proofs.YtblcjohhelokkaaGreatDoor
