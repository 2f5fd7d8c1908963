import Derived.Test.YtmcchconnfoffabCmX
import Derived.Test.YtmcchconnfoffabCmK
import Derived.Test.YtmcchconnfoffabCmOpen
namespace Go.Proofs.Ytmcchconnfoffab
open Go.RowKit
theorem CB.keepS {w w' : World} {b : Nat} {c : Cf} {S : Nat → Prop} (h : CB w b c) (k : Keeps S w w') (hb : ¬ S b) : CB w' b c :=
  ⟨k.cell h.1 hb, k.cell h.2.1 hb, k.cell h.2.2.1 hb, k.cell h.2.2.2.1 hb, k.cell h.2.2.2.2.1 hb, k.cell h.2.2.2.2.2.1 hb, k.cell h.2.2.2.2.2.2.1 hb, k.cell h.2.2.2.2.2.2.2 hb⟩
theorem Mg.lt {w : World} {b k : Nat} {p : Int} (h : Mg w b k p) : b < w.heap.size := World.block_lt_of_cell? _ _ h.2.2
set_option maxHeartbeats 6400000 in
set_option maxRecDepth 1000000 in
theorem blind_walk (w : World) {mine theirs born enemy : Int} {flag : Bool} {tries waited draw : Int} {mine' theirs' born' enemy' : Int} {flag' : Bool} {tries' waited' draw' : Int} (hc : Cf.ok ⟨mine, theirs, born, enemy, flag, tries, waited, draw⟩) (hd : Cf.ok ⟨mine', theirs', born', enemy', flag', tries', waited', draw'⟩) :
    Calls Try.prog 3 #[.agg #[.int .i64 mine, .int .i64 theirs, .int .i64 born, .int .i64 enemy, .bool flag, .int .i64 tries, .int .i64 waited, .int .i64 draw], .agg #[.int .i64 mine', .int .i64 theirs', .int .i64 born', .int .i64 enemy', .bool flag', .int .i64 tries', .int .i64 waited', .int .i64 draw']] w fun e w' => e = .returned (.bool true) ∧ Below w.heap.size w w' := by
  obtain ⟨w0, hw0⟩ : ∃ w0, w0 = (w.alloc (.cells #[.int .i64 mine, .int .i64 theirs, .int .i64 born, .int .i64 enemy, .bool flag, .int .i64 tries, .int .i64 waited, .int .i64 draw] 23)).alloc (.cells #[.int .i64 mine', .int .i64 theirs', .int .i64 born', .int .i64 enemy', .bool flag', .int .i64 tries', .int .i64 waited', .int .i64 draw'] 23) := ⟨_, rfl⟩
  have K0 : Keeps (fun _ => False) w w0 := by rw [hw0]; exact ((Keeps.refl _ w).alloc _).alloc _
  have C0 : CB w0 w.heap.size ⟨mine, theirs, born, enemy, flag, tries, waited, draw⟩ := by rw [hw0]; exact (CB.mk w ⟨mine, theirs, born, enemy, flag, tries, waited, draw⟩).keep ((Keeps.refl _ _).alloc _)
  have D0 : CB w0 (w.heap.size + 1) ⟨mine', theirs', born', enemy', flag', tries', waited', draw'⟩ := by
    rw [hw0]
    have := CB.mk (w.alloc (.cells #[.int .i64 mine, .int .i64 theirs, .int .i64 born, .int .i64 enemy, .bool flag, .int .i64 tries, .int .i64 waited, .int .i64 draw] 23)) ⟨mine', theirs', born', enemy', flag', tries', waited', draw'⟩
    simpa using this
  go_enter Try.func3, Try.ntmps3
  go_wp2_with fail
  rw [← hw0]
  clear hw0
  go_loopw [5] (fun iv W => ∃ k : Nat, k ≤ 5 ∧ iv = .int .i64 (k : Int) ∧ Keeps (fun _ => False) w W ∧ CB W w.heap.size ⟨mine, theirs, born, enemy, flag, tries, waited, draw⟩ ∧ CB W (w.heap.size + 1) ⟨mine', theirs', born', enemy', flag', tries', waited', draw'⟩) (fun iv _ => 5 - (intOf iv).toNat)
  case atStart => exact ⟨0, by omega, rfl, K0, C0, D0⟩
  case round =>
    obtain ⟨k, hk, rfl, K2, C2, O2⟩ := hrel
    clear K0 C0 D0
    match k, hk with
    | 0, _ =>
      simp only [show ((0 : Nat) : Int) = 0 from rfl]
      have hma : ∀ W, Calls Try.prog 8 #[.int .i64 0, .int .i64 50] W fun e w' => ∃ b, e = .returned (.pointer (some ⟨b, 0, none⟩)) ∧ W.heap.size ≤ b ∧ Mg w' b 0 50 ∧ Keeps (fun _ => False) W w' := fun W => manager_any W (k := 0) (by omega) ⟨by omega, by omega⟩
      obtain ⟨⟨va, vt, vn⟩, hV⟩ : ∃ V, judgev 0 50 (Cf.norm ⟨mine, theirs, born, enemy, flag, tries, waited, draw⟩) = V := ⟨_, rfl⟩
      obtain ⟨⟨ua, ut, un⟩, hU⟩ : ∃ V, judgev 0 50 (Cf.norm ⟨mine', theirs', born', enemy', flag', tries', waited', draw'⟩) = V := ⟨_, rfl⟩
      have hW : judgev 0 50 (Cf.norm ⟨mine', theirs', born', enemy', flag', tries, waited, draw⟩) = ⟨va, vt, vn⟩ := hV
      have hfo : Fm 0 ⟨va, vt, vn⟩ := by rw [← hV]; exact judge_form (by omega) _ _ (by simp only [Cf.norm]; omega)
      have hdd : Cf.ok ⟨mine', theirs', born', enemy', flag', tries, waited, draw⟩ := ⟨hd.1, hd.2.1, hd.2.2.1, hd.2.2.2.1, hc.2.2.2.2.1, hc.2.2.2.2.2.1, hc.2.2.2.2.2.2⟩
      have hj1 := fun W b (M : Mg W b 0 50) => judge_x M hc hV
      have hj2 := fun W b (M : Mg W b 0 50) => judge_x M hd hU
      have hj3 := fun W b (M : Mg W b 0 50) => judge_x M hdd hW
      have hf : ∀ W, Calls Try.prog 11 #[.agg #[.bool va, .bool vt, .int .i64 vn], .int .i64 0] W fun e w' => e = .returned (.bool true) ∧ Keeps (fun _ => False) W w' := fun W => formed_x W (K := 0) (by omega) hfo
      clear hV hU hW hfo hdd
      go_wp2_with fail
      refine (hma _).mono ?_
      clear hma
      rintro e w1 ⟨b, rfl, hb, M1, k1⟩
      have hki := kind_any M1
      go_wp2_with fail
      refine hki.mono ?_
      clear hki
      rintro e w3 ⟨rfl, k3⟩
      have kk := k1.trans k3
      have K3 := K2.trans kk
      have C3 := C2.keep kk
      have O3 := O2.keep kk
      have M3 := M1.keep k3
      clear k1 k3 kk K2 C2 O2 M1 hb
      obtain ⟨c0, c1, c2, c3, c4, c5, c6, c7⟩ := id C3
      obtain ⟨w4, hw4⟩ : ∃ w4, w4 = w3.alloc (.cells #[.int .i64 mine, .int .i64 theirs, .int .i64 born, .int .i64 enemy, .bool flag, .int .i64 tries, .int .i64 waited, .int .i64 draw] 23) := ⟨_, rfl⟩
      have K34 : Keeps (fun _ => False) w3 w4 := by rw [hw4]; exact (Keeps.refl _ w3).alloc _
      have O4 := O3.keep K34
      have D4 : CB w4 w3.heap.size ⟨mine, theirs, born, enemy, flag, tries, waited, draw⟩ := by rw [hw4]; exact CB.mk w3 ⟨mine, theirs, born, enemy, flag, tries, waited, draw⟩
      have zz : ∀ o, w4.frozen? ⟨w3.heap.size, o, none⟩ = false := by intro o; rw [hw4]; simp
      have nb1 : ¬ (w.heap.size + 1 = w3.heap.size) := by have := World.block_lt_of_cell? _ _ O3.1; simp at this; omega
      have nb2 : ¬ (w3.heap.size = w.heap.size + 1) := fun e => nb1 e.symm
      have nb3 : ¬ (w.heap.size = w3.heap.size) := by have := World.block_lt_of_cell? _ _ C3.1; simp at this; omega
      have nb4 : ¬ (w3.heap.size = w.heap.size) := fun e => nb3 e.symm
      have nb5 : ¬ (b = w3.heap.size) := by have := M3.lt; omega
      have z0 := zz 0
      have z1 := zz 1
      have z2 := zz 2
      have z3 := zz 3
      have z4 := zz 4
      have z5 := zz 5
      have z6 := zz 6
      have z7 := zz 7
      obtain ⟨o0, o1, o2, o3, o4, o5, o6, o7⟩ := id O4
      obtain ⟨d0, d1, d2, d3, d4, d5, d6, d7⟩ := D4
      simp only at o0 o1 o2 o3 o4 o5 o6 o7 d0 d1 d2 d3 d4 d5 d6 d7
      obtain ⟨a0, a1, a2, a3, a4, a5, a6, a7⟩ := C3.keep K34
      simp only at a0 a1 a2 a3 a4 a5 a6 a7
      go_wp2_with fail
      rw [← hw4]
      clear hw4
      go_region_held3 (fun w' => w'.cell? ⟨w.heap.size + 1, 0, none⟩ = some (.int .i64 mine') ∧ w'.cell? ⟨w.heap.size + 1, 1, none⟩ = some (.int .i64 theirs') ∧ w'.cell? ⟨w.heap.size + 1, 2, none⟩ = some (.int .i64 born') ∧ w'.cell? ⟨w.heap.size + 1, 3, none⟩ = some (.int .i64 enemy') ∧ w'.cell? ⟨w.heap.size + 1, 4, none⟩ = some (.bool flag')) (go_keep) (fail)
      go_wp2_with fail
      obtain ⟨w5, hw5⟩ : ∃ w5, w5 = (((((w4.setCell ⟨w3.heap.size, 0, none⟩ (.int .i64 mine')).setCell ⟨w3.heap.size, 1, none⟩ (.int .i64 theirs')).setCell ⟨w3.heap.size, 2, none⟩ (.int .i64 born')).setCell ⟨w3.heap.size, 3, none⟩ (.int .i64 enemy')).setCell ⟨w3.heap.size, 4, none⟩ (.bool flag')).drew := ⟨_, rfl⟩
      rw [← hw5]
      have D5 : CB w5 w3.heap.size ⟨mine', theirs', born', enemy', flag', tries, waited, draw⟩ := by
        rw [hw5]
        refine ⟨?_, ?_, ?_, ?_, ?_, ?_, ?_, ?_⟩ <;> go_simp
      have K45 : Keeps (fun k => k = w3.heap.size) w4 w5 := by
        rw [hw5]
        exact ((((((Keeps.refl (fun k => k = w3.heap.size) w4).setCell (p := ⟨w3.heap.size, 0, none⟩) (fun _ => rfl) (.int .i64 mine')).setCell (p := ⟨w3.heap.size, 1, none⟩) (fun _ => rfl) (.int .i64 theirs')).setCell (p := ⟨w3.heap.size, 2, none⟩) (fun _ => rfl) (.int .i64 born')).setCell (p := ⟨w3.heap.size, 3, none⟩) (fun _ => rfl) (.int .i64 enemy')).setCell (p := ⟨w3.heap.size, 4, none⟩) (fun _ => rfl) (.bool flag')).drew
      clear hw5 d0 d1 d2 d3 d4 d5 d6 d7 o0 o1 o2 o3 o4 o5 o6 o7 a0 a1 a2 a3 a4 a5 a6 a7 c0 c1 c2 c3 c4 c5 c6 c7 z0 z1 z2 z3 z4 z5 z6 z7 zz
      have s3 := K3.size
      have K5 : Keeps (fun _ => False) w w5 := (K3.trans K34).trans' K45 (fun _ _ e => e) (fun i hi e => by omega)
      have M5 : Mg w5 b 0 50 := ⟨M3.1, M3.2.1, K45.cell (M3.keep K34).2.2 nb5⟩
      have O5 : CB w5 (w.heap.size + 1) ⟨mine', theirs', born', enemy', flag', tries', waited', draw'⟩ := CB.keepS O4 K45 nb1
      have C5 : CB w5 w.heap.size ⟨mine, theirs, born, enemy, flag, tries, waited, draw⟩ := CB.keepS (C3.keep K34) K45 nb3
      clear K45 K34 O4 C3 O3 M3 K3 nb1 nb2 nb3 nb4 nb5
      refine (hj1 _ b M5).mono ?_
      clear hj1
      rintro e w6 ⟨rfl, k6⟩
      obtain ⟨w7, hw7⟩ : ∃ w7, w7 = w6.alloc (.cells #[.bool va, .bool vt, .int .i64 vn] 28) := ⟨_, rfl⟩
      have k7 : Keeps (fun _ => False) w5 w7 := by rw [hw7]; exact k6.alloc _
      obtain ⟨v0, v1, v2⟩ : VB w7 w6.heap.size ⟨va, vt, vn⟩ := by rw [hw7]; exact VB.mk w6 ⟨va, vt, vn⟩
      have K7 := K5.trans k7
      have M7 := M5.keep k7
      have C7 := C5.keep k7
      have O7 := O5.keep k7
      have D7 := D5.keep k7
      go_wp2_with fail
      rw [← hw7]
      clear hw7 k6 k7 K5 M5 C5 O5 D5
      have V0 := ks_cell v0
      have V1 := ks_cell v1
      have V2 := ks_cell v2
      have e0 := ks_cell O7.1
      have g0 := ks_cell D7.1
      have e1 := ks_cell O7.2.1
      have g1 := ks_cell D7.2.1
      have e2 := ks_cell O7.2.2.1
      have g2 := ks_cell D7.2.2.1
      have e3 := ks_cell O7.2.2.2.1
      have g3 := ks_cell D7.2.2.2.1
      have e4 := ks_cell O7.2.2.2.2.1
      have g4 := ks_cell D7.2.2.2.2.1
      have e5 := ks_cell O7.2.2.2.2.2.1
      have g5 := ks_cell D7.2.2.2.2.2.1
      have e6 := ks_cell O7.2.2.2.2.2.2.1
      have g6 := ks_cell D7.2.2.2.2.2.2.1
      have e7 := ks_cell O7.2.2.2.2.2.2.2
      have g7 := ks_cell D7.2.2.2.2.2.2.2
      simp only at e0 g0 e1 g1 e2 g2 e3 g3 e4 g4 e5 g5 e6 g6 e7 g7 V0 V1 V2
      have hk2 : ∀ U : KS w7, _ := fun U => hj2 U.val b (M7.keep U.property)
      have hk3 : ∀ U : KS w7, _ := fun U => hj3 U.val b (M7.keep U.property)
      have hk1 : ∀ U : KS w7, _ := fun U => hf U.val
      have hNE : Nonempty (KS w7) := ⟨⟨w7, Keeps.refl _ w7⟩⟩
      clear hj2 hj3 hf v0 v1 v2 D7
      refine wp_region_ks (by kernel_rfl) (by kernel_rfl) ?_
      repeat (go_big_quiet_step (first | (go_at_call 11; with_reducible refine (hk1 _).mono ?_; rintro e w9 ⟨rfl, k9⟩; exact ⟨rfl, ⟨_, (KS.property _).trans k9⟩, rfl⟩) | (go_at_call 10; with_reducible refine (hk2 _).mono ?_; rintro e w9 ⟨rfl, k9⟩; exact ⟨rfl, ⟨_, (KS.property _).trans k9⟩, rfl⟩) | (go_at_call 10; with_reducible refine (hk3 _).mono ?_; rintro e w9 ⟨rfl, k9⟩; exact ⟨rfl, ⟨_, (KS.property _).trans k9⟩, rfl⟩)))
      refine wpQuiet_nil ?_
      rintro _ ⟨U, rfl⟩
      have K9 := K7.trans U.property
      have C9 := C7.keep U.property
      have O9 := O7.keep U.property
      clear V0 V1 V2 hk1 hk2 hk3 hNE K7 C7 O7 M7 e0 g0 e1 g1 e2 g2 e3 g3 e4 g4 e5 g5 e6 g6 e7 g7
      generalize U.val = wu at *
      go_wp2_with fail
      go_roundw
      case rel => exact ⟨1, by omega, by go_num, K9, C9, O9⟩
      case measure => simp [intOf]
    | 1, _ =>
      simp only [show ((1 : Nat) : Int) = 1 from rfl]
      have hma : ∀ W, Calls Try.prog 8 #[.int .i64 1, .int .i64 50] W fun e w' => ∃ b, e = .returned (.pointer (some ⟨b, 0, none⟩)) ∧ W.heap.size ≤ b ∧ Mg w' b 1 50 ∧ Keeps (fun _ => False) W w' := fun W => manager_any W (k := 1) (by omega) ⟨by omega, by omega⟩
      obtain ⟨⟨va, vt, vn⟩, hV⟩ : ∃ V, judgev 1 50 (Cf.norm ⟨mine, theirs, born, enemy, flag, tries, waited, draw⟩) = V := ⟨_, rfl⟩
      obtain ⟨⟨ua, ut, un⟩, hU⟩ : ∃ V, judgev 1 50 (Cf.norm ⟨mine', theirs', born', enemy', flag', tries', waited', draw'⟩) = V := ⟨_, rfl⟩
      have hW : judgev 1 50 (Cf.norm ⟨mine, theirs, born', enemy', flag', tries, waited, draw'⟩) = ⟨va, vt, vn⟩ := hV
      have hfo : Fm 1 ⟨va, vt, vn⟩ := by rw [← hV]; exact judge_form (by omega) _ _ (by simp only [Cf.norm]; omega)
      have hdd : Cf.ok ⟨mine, theirs, born', enemy', flag', tries, waited, draw'⟩ := ⟨hc.1, hc.2.1, hd.2.2.1, hd.2.2.2.1, hc.2.2.2.2.1, hc.2.2.2.2.2.1, hd.2.2.2.2.2.2⟩
      have hj1 := fun W b (M : Mg W b 1 50) => judge_x M hc hV
      have hj2 := fun W b (M : Mg W b 1 50) => judge_x M hd hU
      have hj3 := fun W b (M : Mg W b 1 50) => judge_x M hdd hW
      have hf : ∀ W, Calls Try.prog 11 #[.agg #[.bool va, .bool vt, .int .i64 vn], .int .i64 1] W fun e w' => e = .returned (.bool true) ∧ Keeps (fun _ => False) W w' := fun W => formed_x W (K := 1) (by omega) hfo
      clear hV hU hW hfo hdd
      go_wp2_with fail
      refine (hma _).mono ?_
      clear hma
      rintro e w1 ⟨b, rfl, hb, M1, k1⟩
      have hki := kind_any M1
      go_wp2_with fail
      refine hki.mono ?_
      clear hki
      rintro e w3 ⟨rfl, k3⟩
      have kk := k1.trans k3
      have K3 := K2.trans kk
      have C3 := C2.keep kk
      have O3 := O2.keep kk
      have M3 := M1.keep k3
      clear k1 k3 kk K2 C2 O2 M1 hb
      obtain ⟨c0, c1, c2, c3, c4, c5, c6, c7⟩ := id C3
      obtain ⟨w4, hw4⟩ : ∃ w4, w4 = w3.alloc (.cells #[.int .i64 mine, .int .i64 theirs, .int .i64 born, .int .i64 enemy, .bool flag, .int .i64 tries, .int .i64 waited, .int .i64 draw] 23) := ⟨_, rfl⟩
      have K34 : Keeps (fun _ => False) w3 w4 := by rw [hw4]; exact (Keeps.refl _ w3).alloc _
      have O4 := O3.keep K34
      have D4 : CB w4 w3.heap.size ⟨mine, theirs, born, enemy, flag, tries, waited, draw⟩ := by rw [hw4]; exact CB.mk w3 ⟨mine, theirs, born, enemy, flag, tries, waited, draw⟩
      have zz : ∀ o, w4.frozen? ⟨w3.heap.size, o, none⟩ = false := by intro o; rw [hw4]; simp
      have nb1 : ¬ (w.heap.size + 1 = w3.heap.size) := by have := World.block_lt_of_cell? _ _ O3.1; simp at this; omega
      have nb2 : ¬ (w3.heap.size = w.heap.size + 1) := fun e => nb1 e.symm
      have nb3 : ¬ (w.heap.size = w3.heap.size) := by have := World.block_lt_of_cell? _ _ C3.1; simp at this; omega
      have nb4 : ¬ (w3.heap.size = w.heap.size) := fun e => nb3 e.symm
      have nb5 : ¬ (b = w3.heap.size) := by have := M3.lt; omega
      have z0 := zz 0
      have z1 := zz 1
      have z2 := zz 2
      have z3 := zz 3
      have z4 := zz 4
      have z5 := zz 5
      have z6 := zz 6
      have z7 := zz 7
      obtain ⟨o0, o1, o2, o3, o4, o5, o6, o7⟩ := id O4
      obtain ⟨d0, d1, d2, d3, d4, d5, d6, d7⟩ := D4
      simp only at o0 o1 o2 o3 o4 o5 o6 o7 d0 d1 d2 d3 d4 d5 d6 d7
      obtain ⟨a0, a1, a2, a3, a4, a5, a6, a7⟩ := C3.keep K34
      simp only at a0 a1 a2 a3 a4 a5 a6 a7
      go_wp2_with fail
      rw [← hw4]
      clear hw4
      go_region_held3 (fun w' => w'.cell? ⟨w.heap.size + 1, 2, none⟩ = some (.int .i64 born') ∧ w'.cell? ⟨w.heap.size + 1, 3, none⟩ = some (.int .i64 enemy') ∧ w'.cell? ⟨w.heap.size + 1, 4, none⟩ = some (.bool flag')) (go_keep) (fail)
      go_wp2_with fail
      obtain ⟨w5, hw5⟩ : ∃ w5, w5 = ((((w4.setCell ⟨w3.heap.size, 2, none⟩ (.int .i64 born')).setCell ⟨w3.heap.size, 3, none⟩ (.int .i64 enemy')).setCell ⟨w3.heap.size, 4, none⟩ (.bool flag')).setCell ⟨w3.heap.size, 7, none⟩ (.int .i64 draw')).drew := ⟨_, rfl⟩
      rw [← hw5]
      have D5 : CB w5 w3.heap.size ⟨mine, theirs, born', enemy', flag', tries, waited, draw'⟩ := by
        rw [hw5]
        refine ⟨?_, ?_, ?_, ?_, ?_, ?_, ?_, ?_⟩ <;> go_simp
      have K45 : Keeps (fun k => k = w3.heap.size) w4 w5 := by
        rw [hw5]
        exact (((((Keeps.refl (fun k => k = w3.heap.size) w4).setCell (p := ⟨w3.heap.size, 2, none⟩) (fun _ => rfl) (.int .i64 born')).setCell (p := ⟨w3.heap.size, 3, none⟩) (fun _ => rfl) (.int .i64 enemy')).setCell (p := ⟨w3.heap.size, 4, none⟩) (fun _ => rfl) (.bool flag')).setCell (p := ⟨w3.heap.size, 7, none⟩) (fun _ => rfl) (.int .i64 draw')).drew
      clear hw5 d0 d1 d2 d3 d4 d5 d6 d7 o0 o1 o2 o3 o4 o5 o6 o7 a0 a1 a2 a3 a4 a5 a6 a7 c0 c1 c2 c3 c4 c5 c6 c7 z0 z1 z2 z3 z4 z5 z6 z7 zz
      have s3 := K3.size
      have K5 : Keeps (fun _ => False) w w5 := (K3.trans K34).trans' K45 (fun _ _ e => e) (fun i hi e => by omega)
      have M5 : Mg w5 b 1 50 := ⟨M3.1, M3.2.1, K45.cell (M3.keep K34).2.2 nb5⟩
      have O5 : CB w5 (w.heap.size + 1) ⟨mine', theirs', born', enemy', flag', tries', waited', draw'⟩ := CB.keepS O4 K45 nb1
      have C5 : CB w5 w.heap.size ⟨mine, theirs, born, enemy, flag, tries, waited, draw⟩ := CB.keepS (C3.keep K34) K45 nb3
      clear K45 K34 O4 C3 O3 M3 K3 nb1 nb2 nb3 nb4 nb5
      refine (hj1 _ b M5).mono ?_
      clear hj1
      rintro e w6 ⟨rfl, k6⟩
      obtain ⟨w7, hw7⟩ : ∃ w7, w7 = w6.alloc (.cells #[.bool va, .bool vt, .int .i64 vn] 28) := ⟨_, rfl⟩
      have k7 : Keeps (fun _ => False) w5 w7 := by rw [hw7]; exact k6.alloc _
      obtain ⟨v0, v1, v2⟩ : VB w7 w6.heap.size ⟨va, vt, vn⟩ := by rw [hw7]; exact VB.mk w6 ⟨va, vt, vn⟩
      have K7 := K5.trans k7
      have M7 := M5.keep k7
      have C7 := C5.keep k7
      have O7 := O5.keep k7
      have D7 := D5.keep k7
      go_wp2_with fail
      rw [← hw7]
      clear hw7 k6 k7 K5 M5 C5 O5 D5
      have V0 := ks_cell v0
      have V1 := ks_cell v1
      have V2 := ks_cell v2
      have e0 := ks_cell O7.1
      have g0 := ks_cell D7.1
      have e1 := ks_cell O7.2.1
      have g1 := ks_cell D7.2.1
      have e2 := ks_cell O7.2.2.1
      have g2 := ks_cell D7.2.2.1
      have e3 := ks_cell O7.2.2.2.1
      have g3 := ks_cell D7.2.2.2.1
      have e4 := ks_cell O7.2.2.2.2.1
      have g4 := ks_cell D7.2.2.2.2.1
      have e5 := ks_cell O7.2.2.2.2.2.1
      have g5 := ks_cell D7.2.2.2.2.2.1
      have e6 := ks_cell O7.2.2.2.2.2.2.1
      have g6 := ks_cell D7.2.2.2.2.2.2.1
      have e7 := ks_cell O7.2.2.2.2.2.2.2
      have g7 := ks_cell D7.2.2.2.2.2.2.2
      simp only at e0 g0 e1 g1 e2 g2 e3 g3 e4 g4 e5 g5 e6 g6 e7 g7 V0 V1 V2
      have hk2 : ∀ U : KS w7, _ := fun U => hj2 U.val b (M7.keep U.property)
      have hk3 : ∀ U : KS w7, _ := fun U => hj3 U.val b (M7.keep U.property)
      have hk1 : ∀ U : KS w7, _ := fun U => hf U.val
      have hNE : Nonempty (KS w7) := ⟨⟨w7, Keeps.refl _ w7⟩⟩
      clear hj2 hj3 hf v0 v1 v2 D7
      refine wp_region_ks (by kernel_rfl) (by kernel_rfl) ?_
      repeat (go_big_quiet_step (first | (go_at_call 11; with_reducible refine (hk1 _).mono ?_; rintro e w9 ⟨rfl, k9⟩; exact ⟨rfl, ⟨_, (KS.property _).trans k9⟩, rfl⟩) | (go_at_call 10; with_reducible refine (hk2 _).mono ?_; rintro e w9 ⟨rfl, k9⟩; exact ⟨rfl, ⟨_, (KS.property _).trans k9⟩, rfl⟩) | (go_at_call 10; with_reducible refine (hk3 _).mono ?_; rintro e w9 ⟨rfl, k9⟩; exact ⟨rfl, ⟨_, (KS.property _).trans k9⟩, rfl⟩)))
      refine wpQuiet_nil ?_
      rintro _ ⟨U, rfl⟩
      have K9 := K7.trans U.property
      have C9 := C7.keep U.property
      have O9 := O7.keep U.property
      clear V0 V1 V2 hk1 hk2 hk3 hNE K7 C7 O7 M7 e0 g0 e1 g1 e2 g2 e3 g3 e4 g4 e5 g5 e6 g6 e7 g7
      generalize U.val = wu at *
      go_wp2_with fail
      go_roundw
      case rel => exact ⟨2, by omega, by go_num, K9, C9, O9⟩
      case measure => simp [intOf]
    | 2, _ =>
      simp only [show ((2 : Nat) : Int) = 2 from rfl]
      have hma : ∀ W, Calls Try.prog 8 #[.int .i64 2, .int .i64 50] W fun e w' => ∃ b, e = .returned (.pointer (some ⟨b, 0, none⟩)) ∧ W.heap.size ≤ b ∧ Mg w' b 2 50 ∧ Keeps (fun _ => False) W w' := fun W => manager_any W (k := 2) (by omega) ⟨by omega, by omega⟩
      obtain ⟨⟨va, vt, vn⟩, hV⟩ : ∃ V, judgev 2 50 (Cf.norm ⟨mine, theirs, born, enemy, flag, tries, waited, draw⟩) = V := ⟨_, rfl⟩
      obtain ⟨⟨ua, ut, un⟩, hU⟩ : ∃ V, judgev 2 50 (Cf.norm ⟨mine', theirs', born', enemy', flag', tries', waited', draw'⟩) = V := ⟨_, rfl⟩
      have hW : judgev 2 50 (Cf.norm ⟨mine, theirs, born', enemy', flag', tries, waited, draw⟩) = ⟨va, vt, vn⟩ := hV
      have hfo : Fm 2 ⟨va, vt, vn⟩ := by rw [← hV]; exact judge_form (by omega) _ _ (by simp only [Cf.norm]; omega)
      have hdd : Cf.ok ⟨mine, theirs, born', enemy', flag', tries, waited, draw⟩ := ⟨hc.1, hc.2.1, hd.2.2.1, hd.2.2.2.1, hc.2.2.2.2.1, hc.2.2.2.2.2.1, hc.2.2.2.2.2.2⟩
      have hj1 := fun W b (M : Mg W b 2 50) => judge_x M hc hV
      have hj2 := fun W b (M : Mg W b 2 50) => judge_x M hd hU
      have hj3 := fun W b (M : Mg W b 2 50) => judge_x M hdd hW
      have hf : ∀ W, Calls Try.prog 11 #[.agg #[.bool va, .bool vt, .int .i64 vn], .int .i64 2] W fun e w' => e = .returned (.bool true) ∧ Keeps (fun _ => False) W w' := fun W => formed_x W (K := 2) (by omega) hfo
      clear hV hU hW hfo hdd
      go_wp2_with fail
      refine (hma _).mono ?_
      clear hma
      rintro e w1 ⟨b, rfl, hb, M1, k1⟩
      have hki := kind_any M1
      go_wp2_with fail
      refine hki.mono ?_
      clear hki
      rintro e w3 ⟨rfl, k3⟩
      have kk := k1.trans k3
      have K3 := K2.trans kk
      have C3 := C2.keep kk
      have O3 := O2.keep kk
      have M3 := M1.keep k3
      clear k1 k3 kk K2 C2 O2 M1 hb
      obtain ⟨c0, c1, c2, c3, c4, c5, c6, c7⟩ := id C3
      obtain ⟨w4, hw4⟩ : ∃ w4, w4 = w3.alloc (.cells #[.int .i64 mine, .int .i64 theirs, .int .i64 born, .int .i64 enemy, .bool flag, .int .i64 tries, .int .i64 waited, .int .i64 draw] 23) := ⟨_, rfl⟩
      have K34 : Keeps (fun _ => False) w3 w4 := by rw [hw4]; exact (Keeps.refl _ w3).alloc _
      have O4 := O3.keep K34
      have D4 : CB w4 w3.heap.size ⟨mine, theirs, born, enemy, flag, tries, waited, draw⟩ := by rw [hw4]; exact CB.mk w3 ⟨mine, theirs, born, enemy, flag, tries, waited, draw⟩
      have zz : ∀ o, w4.frozen? ⟨w3.heap.size, o, none⟩ = false := by intro o; rw [hw4]; simp
      have nb1 : ¬ (w.heap.size + 1 = w3.heap.size) := by have := World.block_lt_of_cell? _ _ O3.1; simp at this; omega
      have nb2 : ¬ (w3.heap.size = w.heap.size + 1) := fun e => nb1 e.symm
      have nb3 : ¬ (w.heap.size = w3.heap.size) := by have := World.block_lt_of_cell? _ _ C3.1; simp at this; omega
      have nb4 : ¬ (w3.heap.size = w.heap.size) := fun e => nb3 e.symm
      have nb5 : ¬ (b = w3.heap.size) := by have := M3.lt; omega
      have z0 := zz 0
      have z1 := zz 1
      have z2 := zz 2
      have z3 := zz 3
      have z4 := zz 4
      have z5 := zz 5
      have z6 := zz 6
      have z7 := zz 7
      obtain ⟨o0, o1, o2, o3, o4, o5, o6, o7⟩ := id O4
      obtain ⟨d0, d1, d2, d3, d4, d5, d6, d7⟩ := D4
      simp only at o0 o1 o2 o3 o4 o5 o6 o7 d0 d1 d2 d3 d4 d5 d6 d7
      obtain ⟨a0, a1, a2, a3, a4, a5, a6, a7⟩ := C3.keep K34
      simp only at a0 a1 a2 a3 a4 a5 a6 a7
      go_wp2_with fail
      rw [← hw4]
      clear hw4
      go_region_held3 (fun w' => w'.cell? ⟨w.heap.size + 1, 2, none⟩ = some (.int .i64 born') ∧ w'.cell? ⟨w.heap.size + 1, 3, none⟩ = some (.int .i64 enemy') ∧ w'.cell? ⟨w.heap.size + 1, 4, none⟩ = some (.bool flag')) (go_keep) (fail)
      go_wp2_with fail
      obtain ⟨w5, hw5⟩ : ∃ w5, w5 = (((w4.setCell ⟨w3.heap.size, 2, none⟩ (.int .i64 born')).setCell ⟨w3.heap.size, 3, none⟩ (.int .i64 enemy')).setCell ⟨w3.heap.size, 4, none⟩ (.bool flag')).drew := ⟨_, rfl⟩
      rw [← hw5]
      have D5 : CB w5 w3.heap.size ⟨mine, theirs, born', enemy', flag', tries, waited, draw⟩ := by
        rw [hw5]
        refine ⟨?_, ?_, ?_, ?_, ?_, ?_, ?_, ?_⟩ <;> go_simp
      have K45 : Keeps (fun k => k = w3.heap.size) w4 w5 := by
        rw [hw5]
        exact ((((Keeps.refl (fun k => k = w3.heap.size) w4).setCell (p := ⟨w3.heap.size, 2, none⟩) (fun _ => rfl) (.int .i64 born')).setCell (p := ⟨w3.heap.size, 3, none⟩) (fun _ => rfl) (.int .i64 enemy')).setCell (p := ⟨w3.heap.size, 4, none⟩) (fun _ => rfl) (.bool flag')).drew
      clear hw5 d0 d1 d2 d3 d4 d5 d6 d7 o0 o1 o2 o3 o4 o5 o6 o7 a0 a1 a2 a3 a4 a5 a6 a7 c0 c1 c2 c3 c4 c5 c6 c7 z0 z1 z2 z3 z4 z5 z6 z7 zz
      have s3 := K3.size
      have K5 : Keeps (fun _ => False) w w5 := (K3.trans K34).trans' K45 (fun _ _ e => e) (fun i hi e => by omega)
      have M5 : Mg w5 b 2 50 := ⟨M3.1, M3.2.1, K45.cell (M3.keep K34).2.2 nb5⟩
      have O5 : CB w5 (w.heap.size + 1) ⟨mine', theirs', born', enemy', flag', tries', waited', draw'⟩ := CB.keepS O4 K45 nb1
      have C5 : CB w5 w.heap.size ⟨mine, theirs, born, enemy, flag, tries, waited, draw⟩ := CB.keepS (C3.keep K34) K45 nb3
      clear K45 K34 O4 C3 O3 M3 K3 nb1 nb2 nb3 nb4 nb5
      refine (hj1 _ b M5).mono ?_
      clear hj1
      rintro e w6 ⟨rfl, k6⟩
      obtain ⟨w7, hw7⟩ : ∃ w7, w7 = w6.alloc (.cells #[.bool va, .bool vt, .int .i64 vn] 28) := ⟨_, rfl⟩
      have k7 : Keeps (fun _ => False) w5 w7 := by rw [hw7]; exact k6.alloc _
      obtain ⟨v0, v1, v2⟩ : VB w7 w6.heap.size ⟨va, vt, vn⟩ := by rw [hw7]; exact VB.mk w6 ⟨va, vt, vn⟩
      have K7 := K5.trans k7
      have M7 := M5.keep k7
      have C7 := C5.keep k7
      have O7 := O5.keep k7
      have D7 := D5.keep k7
      go_wp2_with fail
      rw [← hw7]
      clear hw7 k6 k7 K5 M5 C5 O5 D5
      have V0 := ks_cell v0
      have V1 := ks_cell v1
      have V2 := ks_cell v2
      have e0 := ks_cell O7.1
      have g0 := ks_cell D7.1
      have e1 := ks_cell O7.2.1
      have g1 := ks_cell D7.2.1
      have e2 := ks_cell O7.2.2.1
      have g2 := ks_cell D7.2.2.1
      have e3 := ks_cell O7.2.2.2.1
      have g3 := ks_cell D7.2.2.2.1
      have e4 := ks_cell O7.2.2.2.2.1
      have g4 := ks_cell D7.2.2.2.2.1
      have e5 := ks_cell O7.2.2.2.2.2.1
      have g5 := ks_cell D7.2.2.2.2.2.1
      have e6 := ks_cell O7.2.2.2.2.2.2.1
      have g6 := ks_cell D7.2.2.2.2.2.2.1
      have e7 := ks_cell O7.2.2.2.2.2.2.2
      have g7 := ks_cell D7.2.2.2.2.2.2.2
      simp only at e0 g0 e1 g1 e2 g2 e3 g3 e4 g4 e5 g5 e6 g6 e7 g7 V0 V1 V2
      have hk2 : ∀ U : KS w7, _ := fun U => hj2 U.val b (M7.keep U.property)
      have hk3 : ∀ U : KS w7, _ := fun U => hj3 U.val b (M7.keep U.property)
      have hk1 : ∀ U : KS w7, _ := fun U => hf U.val
      have hNE : Nonempty (KS w7) := ⟨⟨w7, Keeps.refl _ w7⟩⟩
      clear hj2 hj3 hf v0 v1 v2 D7
      refine wp_region_ks (by kernel_rfl) (by kernel_rfl) ?_
      repeat (go_big_quiet_step (first | (go_at_call 11; with_reducible refine (hk1 _).mono ?_; rintro e w9 ⟨rfl, k9⟩; exact ⟨rfl, ⟨_, (KS.property _).trans k9⟩, rfl⟩) | (go_at_call 10; with_reducible refine (hk2 _).mono ?_; rintro e w9 ⟨rfl, k9⟩; exact ⟨rfl, ⟨_, (KS.property _).trans k9⟩, rfl⟩) | (go_at_call 10; with_reducible refine (hk3 _).mono ?_; rintro e w9 ⟨rfl, k9⟩; exact ⟨rfl, ⟨_, (KS.property _).trans k9⟩, rfl⟩)))
      refine wpQuiet_nil ?_
      rintro _ ⟨U, rfl⟩
      have K9 := K7.trans U.property
      have C9 := C7.keep U.property
      have O9 := O7.keep U.property
      clear V0 V1 V2 hk1 hk2 hk3 hNE K7 C7 O7 M7 e0 g0 e1 g1 e2 g2 e3 g3 e4 g4 e5 g5 e6 g6 e7 g7
      generalize U.val = wu at *
      go_wp2_with fail
      go_roundw
      case rel => exact ⟨3, by omega, by go_num, K9, C9, O9⟩
      case measure => simp [intOf]
    | 3, _ =>
      simp only [show ((3 : Nat) : Int) = 3 from rfl]
      have hma : ∀ W, Calls Try.prog 8 #[.int .i64 3, .int .i64 50] W fun e w' => ∃ b, e = .returned (.pointer (some ⟨b, 0, none⟩)) ∧ W.heap.size ≤ b ∧ Mg w' b 3 50 ∧ Keeps (fun _ => False) W w' := fun W => manager_any W (k := 3) (by omega) ⟨by omega, by omega⟩
      obtain ⟨⟨va, vt, vn⟩, hV⟩ : ∃ V, judgev 3 50 (Cf.norm ⟨mine, theirs, born, enemy, flag, tries, waited, draw⟩) = V := ⟨_, rfl⟩
      obtain ⟨⟨ua, ut, un⟩, hU⟩ : ∃ V, judgev 3 50 (Cf.norm ⟨mine', theirs', born', enemy', flag', tries', waited', draw'⟩) = V := ⟨_, rfl⟩
      have hW : judgev 3 50 (Cf.norm ⟨mine', theirs', born, enemy, flag, tries', waited, draw'⟩) = ⟨va, vt, vn⟩ := hV
      have hfo : Fm 3 ⟨va, vt, vn⟩ := by rw [← hV]; exact judge_form (by omega) _ _ (by simp only [Cf.norm]; omega)
      have hdd : Cf.ok ⟨mine', theirs', born, enemy, flag, tries', waited, draw'⟩ := ⟨hd.1, hd.2.1, hc.2.2.1, hc.2.2.2.1, hd.2.2.2.2.1, hc.2.2.2.2.2.1, hd.2.2.2.2.2.2⟩
      have hj1 := fun W b (M : Mg W b 3 50) => judge_x M hc hV
      have hj2 := fun W b (M : Mg W b 3 50) => judge_x M hd hU
      have hj3 := fun W b (M : Mg W b 3 50) => judge_x M hdd hW
      have hf : ∀ W, Calls Try.prog 11 #[.agg #[.bool va, .bool vt, .int .i64 vn], .int .i64 3] W fun e w' => e = .returned (.bool true) ∧ Keeps (fun _ => False) W w' := fun W => formed_x W (K := 3) (by omega) hfo
      clear hV hU hW hfo hdd
      go_wp2_with fail
      refine (hma _).mono ?_
      clear hma
      rintro e w1 ⟨b, rfl, hb, M1, k1⟩
      have hki := kind_any M1
      go_wp2_with fail
      refine hki.mono ?_
      clear hki
      rintro e w3 ⟨rfl, k3⟩
      have kk := k1.trans k3
      have K3 := K2.trans kk
      have C3 := C2.keep kk
      have O3 := O2.keep kk
      have M3 := M1.keep k3
      clear k1 k3 kk K2 C2 O2 M1 hb
      obtain ⟨c0, c1, c2, c3, c4, c5, c6, c7⟩ := id C3
      obtain ⟨w4, hw4⟩ : ∃ w4, w4 = w3.alloc (.cells #[.int .i64 mine, .int .i64 theirs, .int .i64 born, .int .i64 enemy, .bool flag, .int .i64 tries, .int .i64 waited, .int .i64 draw] 23) := ⟨_, rfl⟩
      have K34 : Keeps (fun _ => False) w3 w4 := by rw [hw4]; exact (Keeps.refl _ w3).alloc _
      have O4 := O3.keep K34
      have D4 : CB w4 w3.heap.size ⟨mine, theirs, born, enemy, flag, tries, waited, draw⟩ := by rw [hw4]; exact CB.mk w3 ⟨mine, theirs, born, enemy, flag, tries, waited, draw⟩
      have zz : ∀ o, w4.frozen? ⟨w3.heap.size, o, none⟩ = false := by intro o; rw [hw4]; simp
      have nb1 : ¬ (w.heap.size + 1 = w3.heap.size) := by have := World.block_lt_of_cell? _ _ O3.1; simp at this; omega
      have nb2 : ¬ (w3.heap.size = w.heap.size + 1) := fun e => nb1 e.symm
      have nb3 : ¬ (w.heap.size = w3.heap.size) := by have := World.block_lt_of_cell? _ _ C3.1; simp at this; omega
      have nb4 : ¬ (w3.heap.size = w.heap.size) := fun e => nb3 e.symm
      have nb5 : ¬ (b = w3.heap.size) := by have := M3.lt; omega
      have z0 := zz 0
      have z1 := zz 1
      have z2 := zz 2
      have z3 := zz 3
      have z4 := zz 4
      have z5 := zz 5
      have z6 := zz 6
      have z7 := zz 7
      obtain ⟨o0, o1, o2, o3, o4, o5, o6, o7⟩ := id O4
      obtain ⟨d0, d1, d2, d3, d4, d5, d6, d7⟩ := D4
      simp only at o0 o1 o2 o3 o4 o5 o6 o7 d0 d1 d2 d3 d4 d5 d6 d7
      obtain ⟨a0, a1, a2, a3, a4, a5, a6, a7⟩ := C3.keep K34
      simp only at a0 a1 a2 a3 a4 a5 a6 a7
      go_wp2_with fail
      rw [← hw4]
      clear hw4
      go_region_held3 (fun w' => w'.cell? ⟨w.heap.size + 1, 0, none⟩ = some (.int .i64 mine') ∧ w'.cell? ⟨w.heap.size + 1, 1, none⟩ = some (.int .i64 theirs') ∧ w'.cell? ⟨w.heap.size + 1, 5, none⟩ = some (.int .i64 tries') ∧ w'.cell? ⟨w.heap.size + 1, 7, none⟩ = some (.int .i64 draw')) (go_keep) (fail)
      go_wp2_with fail
      obtain ⟨w5, hw5⟩ : ∃ w5, w5 = ((((w4.setCell ⟨w3.heap.size, 0, none⟩ (.int .i64 mine')).setCell ⟨w3.heap.size, 1, none⟩ (.int .i64 theirs')).setCell ⟨w3.heap.size, 5, none⟩ (.int .i64 tries')).setCell ⟨w3.heap.size, 7, none⟩ (.int .i64 draw')).drew := ⟨_, rfl⟩
      rw [← hw5]
      have D5 : CB w5 w3.heap.size ⟨mine', theirs', born, enemy, flag, tries', waited, draw'⟩ := by
        rw [hw5]
        refine ⟨?_, ?_, ?_, ?_, ?_, ?_, ?_, ?_⟩ <;> go_simp
      have K45 : Keeps (fun k => k = w3.heap.size) w4 w5 := by
        rw [hw5]
        exact (((((Keeps.refl (fun k => k = w3.heap.size) w4).setCell (p := ⟨w3.heap.size, 0, none⟩) (fun _ => rfl) (.int .i64 mine')).setCell (p := ⟨w3.heap.size, 1, none⟩) (fun _ => rfl) (.int .i64 theirs')).setCell (p := ⟨w3.heap.size, 5, none⟩) (fun _ => rfl) (.int .i64 tries')).setCell (p := ⟨w3.heap.size, 7, none⟩) (fun _ => rfl) (.int .i64 draw')).drew
      clear hw5 d0 d1 d2 d3 d4 d5 d6 d7 o0 o1 o2 o3 o4 o5 o6 o7 a0 a1 a2 a3 a4 a5 a6 a7 c0 c1 c2 c3 c4 c5 c6 c7 z0 z1 z2 z3 z4 z5 z6 z7 zz
      have s3 := K3.size
      have K5 : Keeps (fun _ => False) w w5 := (K3.trans K34).trans' K45 (fun _ _ e => e) (fun i hi e => by omega)
      have M5 : Mg w5 b 3 50 := ⟨M3.1, M3.2.1, K45.cell (M3.keep K34).2.2 nb5⟩
      have O5 : CB w5 (w.heap.size + 1) ⟨mine', theirs', born', enemy', flag', tries', waited', draw'⟩ := CB.keepS O4 K45 nb1
      have C5 : CB w5 w.heap.size ⟨mine, theirs, born, enemy, flag, tries, waited, draw⟩ := CB.keepS (C3.keep K34) K45 nb3
      clear K45 K34 O4 C3 O3 M3 K3 nb1 nb2 nb3 nb4 nb5
      refine (hj1 _ b M5).mono ?_
      clear hj1
      rintro e w6 ⟨rfl, k6⟩
      obtain ⟨w7, hw7⟩ : ∃ w7, w7 = w6.alloc (.cells #[.bool va, .bool vt, .int .i64 vn] 28) := ⟨_, rfl⟩
      have k7 : Keeps (fun _ => False) w5 w7 := by rw [hw7]; exact k6.alloc _
      obtain ⟨v0, v1, v2⟩ : VB w7 w6.heap.size ⟨va, vt, vn⟩ := by rw [hw7]; exact VB.mk w6 ⟨va, vt, vn⟩
      have K7 := K5.trans k7
      have M7 := M5.keep k7
      have C7 := C5.keep k7
      have O7 := O5.keep k7
      have D7 := D5.keep k7
      go_wp2_with fail
      rw [← hw7]
      clear hw7 k6 k7 K5 M5 C5 O5 D5
      have V0 := ks_cell v0
      have V1 := ks_cell v1
      have V2 := ks_cell v2
      have e0 := ks_cell O7.1
      have g0 := ks_cell D7.1
      have e1 := ks_cell O7.2.1
      have g1 := ks_cell D7.2.1
      have e2 := ks_cell O7.2.2.1
      have g2 := ks_cell D7.2.2.1
      have e3 := ks_cell O7.2.2.2.1
      have g3 := ks_cell D7.2.2.2.1
      have e4 := ks_cell O7.2.2.2.2.1
      have g4 := ks_cell D7.2.2.2.2.1
      have e5 := ks_cell O7.2.2.2.2.2.1
      have g5 := ks_cell D7.2.2.2.2.2.1
      have e6 := ks_cell O7.2.2.2.2.2.2.1
      have g6 := ks_cell D7.2.2.2.2.2.2.1
      have e7 := ks_cell O7.2.2.2.2.2.2.2
      have g7 := ks_cell D7.2.2.2.2.2.2.2
      simp only at e0 g0 e1 g1 e2 g2 e3 g3 e4 g4 e5 g5 e6 g6 e7 g7 V0 V1 V2
      have hk2 : ∀ U : KS w7, _ := fun U => hj2 U.val b (M7.keep U.property)
      have hk3 : ∀ U : KS w7, _ := fun U => hj3 U.val b (M7.keep U.property)
      have hk1 : ∀ U : KS w7, _ := fun U => hf U.val
      have hNE : Nonempty (KS w7) := ⟨⟨w7, Keeps.refl _ w7⟩⟩
      clear hj2 hj3 hf v0 v1 v2 D7
      refine wp_region_ks (by kernel_rfl) (by kernel_rfl) ?_
      repeat (go_big_quiet_step (first | (go_at_call 11; with_reducible refine (hk1 _).mono ?_; rintro e w9 ⟨rfl, k9⟩; exact ⟨rfl, ⟨_, (KS.property _).trans k9⟩, rfl⟩) | (go_at_call 10; with_reducible refine (hk2 _).mono ?_; rintro e w9 ⟨rfl, k9⟩; exact ⟨rfl, ⟨_, (KS.property _).trans k9⟩, rfl⟩) | (go_at_call 10; with_reducible refine (hk3 _).mono ?_; rintro e w9 ⟨rfl, k9⟩; exact ⟨rfl, ⟨_, (KS.property _).trans k9⟩, rfl⟩)))
      refine wpQuiet_nil ?_
      rintro _ ⟨U, rfl⟩
      have K9 := K7.trans U.property
      have C9 := C7.keep U.property
      have O9 := O7.keep U.property
      clear V0 V1 V2 hk1 hk2 hk3 hNE K7 C7 O7 M7 e0 g0 e1 g1 e2 g2 e3 g3 e4 g4 e5 g5 e6 g6 e7 g7
      generalize U.val = wu at *
      go_wp2_with fail
      go_roundw
      case rel => exact ⟨4, by omega, by go_num, K9, C9, O9⟩
      case measure => simp [intOf]
    | 4, _ =>
      simp only [show ((4 : Nat) : Int) = 4 from rfl]
      have hma : ∀ W, Calls Try.prog 8 #[.int .i64 4, .int .i64 50] W fun e w' => ∃ b, e = .returned (.pointer (some ⟨b, 0, none⟩)) ∧ W.heap.size ≤ b ∧ Mg w' b 4 50 ∧ Keeps (fun _ => False) W w' := fun W => manager_any W (k := 4) (by omega) ⟨by omega, by omega⟩
      obtain ⟨⟨va, vt, vn⟩, hV⟩ : ∃ V, judgev 4 50 (Cf.norm ⟨mine, theirs, born, enemy, flag, tries, waited, draw⟩) = V := ⟨_, rfl⟩
      obtain ⟨⟨ua, ut, un⟩, hU⟩ : ∃ V, judgev 4 50 (Cf.norm ⟨mine', theirs', born', enemy', flag', tries', waited', draw'⟩) = V := ⟨_, rfl⟩
      have hW : judgev 4 50 (Cf.norm ⟨mine', theirs', born', enemy', flag', tries', waited', draw⟩) = ⟨va, vt, vn⟩ := hV
      have hfo : Fm 4 ⟨va, vt, vn⟩ := by rw [← hV]; exact judge_form (by omega) _ _ (by simp only [Cf.norm]; omega)
      have hdd : Cf.ok ⟨mine', theirs', born', enemy', flag', tries', waited', draw⟩ := ⟨hd.1, hd.2.1, hd.2.2.1, hd.2.2.2.1, hd.2.2.2.2.1, hd.2.2.2.2.2.1, hc.2.2.2.2.2.2⟩
      have hj1 := fun W b (M : Mg W b 4 50) => judge_x M hc hV
      have hj2 := fun W b (M : Mg W b 4 50) => judge_x M hd hU
      have hj3 := fun W b (M : Mg W b 4 50) => judge_x M hdd hW
      have hf : ∀ W, Calls Try.prog 11 #[.agg #[.bool va, .bool vt, .int .i64 vn], .int .i64 4] W fun e w' => e = .returned (.bool true) ∧ Keeps (fun _ => False) W w' := fun W => formed_x W (K := 4) (by omega) hfo
      clear hV hU hW hfo hdd
      go_wp2_with fail
      refine (hma _).mono ?_
      clear hma
      rintro e w1 ⟨b, rfl, hb, M1, k1⟩
      have hki := kind_any M1
      go_wp2_with fail
      refine hki.mono ?_
      clear hki
      rintro e w3 ⟨rfl, k3⟩
      have kk := k1.trans k3
      have K3 := K2.trans kk
      have C3 := C2.keep kk
      have O3 := O2.keep kk
      have M3 := M1.keep k3
      clear k1 k3 kk K2 C2 O2 M1 hb
      obtain ⟨c0, c1, c2, c3, c4, c5, c6, c7⟩ := id C3
      obtain ⟨w4, hw4⟩ : ∃ w4, w4 = w3.alloc (.cells #[.int .i64 mine, .int .i64 theirs, .int .i64 born, .int .i64 enemy, .bool flag, .int .i64 tries, .int .i64 waited, .int .i64 draw] 23) := ⟨_, rfl⟩
      have K34 : Keeps (fun _ => False) w3 w4 := by rw [hw4]; exact (Keeps.refl _ w3).alloc _
      have O4 := O3.keep K34
      have D4 : CB w4 w3.heap.size ⟨mine, theirs, born, enemy, flag, tries, waited, draw⟩ := by rw [hw4]; exact CB.mk w3 ⟨mine, theirs, born, enemy, flag, tries, waited, draw⟩
      have zz : ∀ o, w4.frozen? ⟨w3.heap.size, o, none⟩ = false := by intro o; rw [hw4]; simp
      have nb1 : ¬ (w.heap.size + 1 = w3.heap.size) := by have := World.block_lt_of_cell? _ _ O3.1; simp at this; omega
      have nb2 : ¬ (w3.heap.size = w.heap.size + 1) := fun e => nb1 e.symm
      have nb3 : ¬ (w.heap.size = w3.heap.size) := by have := World.block_lt_of_cell? _ _ C3.1; simp at this; omega
      have nb4 : ¬ (w3.heap.size = w.heap.size) := fun e => nb3 e.symm
      have nb5 : ¬ (b = w3.heap.size) := by have := M3.lt; omega
      have z0 := zz 0
      have z1 := zz 1
      have z2 := zz 2
      have z3 := zz 3
      have z4 := zz 4
      have z5 := zz 5
      have z6 := zz 6
      have z7 := zz 7
      obtain ⟨o0, o1, o2, o3, o4, o5, o6, o7⟩ := id O4
      obtain ⟨d0, d1, d2, d3, d4, d5, d6, d7⟩ := D4
      simp only at o0 o1 o2 o3 o4 o5 o6 o7 d0 d1 d2 d3 d4 d5 d6 d7
      obtain ⟨a0, a1, a2, a3, a4, a5, a6, a7⟩ := C3.keep K34
      simp only at a0 a1 a2 a3 a4 a5 a6 a7
      go_wp2_with fail
      rw [← hw4]
      clear hw4
      go_region_held3 (fun w' => w'.cell? ⟨w.heap.size + 1, 0, none⟩ = some (.int .i64 mine') ∧ w'.cell? ⟨w.heap.size + 1, 1, none⟩ = some (.int .i64 theirs') ∧ w'.cell? ⟨w.heap.size + 1, 2, none⟩ = some (.int .i64 born') ∧ w'.cell? ⟨w.heap.size + 1, 3, none⟩ = some (.int .i64 enemy') ∧ w'.cell? ⟨w.heap.size + 1, 4, none⟩ = some (.bool flag')) (go_keep) (fail)
      go_wp2_with fail
      go_region_held3 (fun w' => w'.cell? ⟨w.heap.size + 1, 5, none⟩ = some (.int .i64 tries') ∧ w'.cell? ⟨w.heap.size + 1, 6, none⟩ = some (.int .i64 waited')) (go_keep) (fail)
      go_wp2_with fail
      obtain ⟨w5, hw5⟩ : ∃ w5, w5 = (((((((w4.setCell ⟨w3.heap.size, 0, none⟩ (.int .i64 mine')).setCell ⟨w3.heap.size, 1, none⟩ (.int .i64 theirs')).setCell ⟨w3.heap.size, 2, none⟩ (.int .i64 born')).setCell ⟨w3.heap.size, 3, none⟩ (.int .i64 enemy')).setCell ⟨w3.heap.size, 4, none⟩ (.bool flag')).setCell ⟨w3.heap.size, 5, none⟩ (.int .i64 tries')).setCell ⟨w3.heap.size, 6, none⟩ (.int .i64 waited')).drew.drew := ⟨_, rfl⟩
      rw [← hw5]
      have D5 : CB w5 w3.heap.size ⟨mine', theirs', born', enemy', flag', tries', waited', draw⟩ := by
        rw [hw5]
        refine ⟨?_, ?_, ?_, ?_, ?_, ?_, ?_, ?_⟩ <;> go_simp
      have K45 : Keeps (fun k => k = w3.heap.size) w4 w5 := by
        rw [hw5]
        exact ((((((((Keeps.refl (fun k => k = w3.heap.size) w4).setCell (p := ⟨w3.heap.size, 0, none⟩) (fun _ => rfl) (.int .i64 mine')).setCell (p := ⟨w3.heap.size, 1, none⟩) (fun _ => rfl) (.int .i64 theirs')).setCell (p := ⟨w3.heap.size, 2, none⟩) (fun _ => rfl) (.int .i64 born')).setCell (p := ⟨w3.heap.size, 3, none⟩) (fun _ => rfl) (.int .i64 enemy')).setCell (p := ⟨w3.heap.size, 4, none⟩) (fun _ => rfl) (.bool flag')).setCell (p := ⟨w3.heap.size, 5, none⟩) (fun _ => rfl) (.int .i64 tries')).setCell (p := ⟨w3.heap.size, 6, none⟩) (fun _ => rfl) (.int .i64 waited')).drew.drew
      clear hw5 d0 d1 d2 d3 d4 d5 d6 d7 o0 o1 o2 o3 o4 o5 o6 o7 a0 a1 a2 a3 a4 a5 a6 a7 c0 c1 c2 c3 c4 c5 c6 c7 z0 z1 z2 z3 z4 z5 z6 z7 zz
      have s3 := K3.size
      have K5 : Keeps (fun _ => False) w w5 := (K3.trans K34).trans' K45 (fun _ _ e => e) (fun i hi e => by omega)
      have M5 : Mg w5 b 4 50 := ⟨M3.1, M3.2.1, K45.cell (M3.keep K34).2.2 nb5⟩
      have O5 : CB w5 (w.heap.size + 1) ⟨mine', theirs', born', enemy', flag', tries', waited', draw'⟩ := CB.keepS O4 K45 nb1
      have C5 : CB w5 w.heap.size ⟨mine, theirs, born, enemy, flag, tries, waited, draw⟩ := CB.keepS (C3.keep K34) K45 nb3
      clear K45 K34 O4 C3 O3 M3 K3 nb1 nb2 nb3 nb4 nb5
      refine (hj1 _ b M5).mono ?_
      clear hj1
      rintro e w6 ⟨rfl, k6⟩
      obtain ⟨w7, hw7⟩ : ∃ w7, w7 = w6.alloc (.cells #[.bool va, .bool vt, .int .i64 vn] 28) := ⟨_, rfl⟩
      have k7 : Keeps (fun _ => False) w5 w7 := by rw [hw7]; exact k6.alloc _
      obtain ⟨v0, v1, v2⟩ : VB w7 w6.heap.size ⟨va, vt, vn⟩ := by rw [hw7]; exact VB.mk w6 ⟨va, vt, vn⟩
      have K7 := K5.trans k7
      have M7 := M5.keep k7
      have C7 := C5.keep k7
      have O7 := O5.keep k7
      have D7 := D5.keep k7
      go_wp2_with fail
      rw [← hw7]
      clear hw7 k6 k7 K5 M5 C5 O5 D5
      have V0 := ks_cell v0
      have V1 := ks_cell v1
      have V2 := ks_cell v2
      have e0 := ks_cell O7.1
      have g0 := ks_cell D7.1
      have e1 := ks_cell O7.2.1
      have g1 := ks_cell D7.2.1
      have e2 := ks_cell O7.2.2.1
      have g2 := ks_cell D7.2.2.1
      have e3 := ks_cell O7.2.2.2.1
      have g3 := ks_cell D7.2.2.2.1
      have e4 := ks_cell O7.2.2.2.2.1
      have g4 := ks_cell D7.2.2.2.2.1
      have e5 := ks_cell O7.2.2.2.2.2.1
      have g5 := ks_cell D7.2.2.2.2.2.1
      have e6 := ks_cell O7.2.2.2.2.2.2.1
      have g6 := ks_cell D7.2.2.2.2.2.2.1
      have e7 := ks_cell O7.2.2.2.2.2.2.2
      have g7 := ks_cell D7.2.2.2.2.2.2.2
      simp only at e0 g0 e1 g1 e2 g2 e3 g3 e4 g4 e5 g5 e6 g6 e7 g7 V0 V1 V2
      have hk2 : ∀ U : KS w7, _ := fun U => hj2 U.val b (M7.keep U.property)
      have hk3 : ∀ U : KS w7, _ := fun U => hj3 U.val b (M7.keep U.property)
      have hk1 : ∀ U : KS w7, _ := fun U => hf U.val
      have hNE : Nonempty (KS w7) := ⟨⟨w7, Keeps.refl _ w7⟩⟩
      clear hj2 hj3 hf v0 v1 v2 D7
      refine wp_region_ks (by kernel_rfl) (by kernel_rfl) ?_
      repeat (go_big_quiet_step (first | (go_at_call 11; with_reducible refine (hk1 _).mono ?_; rintro e w9 ⟨rfl, k9⟩; exact ⟨rfl, ⟨_, (KS.property _).trans k9⟩, rfl⟩) | (go_at_call 10; with_reducible refine (hk2 _).mono ?_; rintro e w9 ⟨rfl, k9⟩; exact ⟨rfl, ⟨_, (KS.property _).trans k9⟩, rfl⟩) | (go_at_call 10; with_reducible refine (hk3 _).mono ?_; rintro e w9 ⟨rfl, k9⟩; exact ⟨rfl, ⟨_, (KS.property _).trans k9⟩, rfl⟩)))
      refine wpQuiet_nil ?_
      rintro _ ⟨U, rfl⟩
      have K9 := K7.trans U.property
      have C9 := C7.keep U.property
      have O9 := O7.keep U.property
      clear V0 V1 V2 hk1 hk2 hk3 hNE K7 C7 O7 M7 e0 g0 e1 g1 e2 g2 e3 g3 e4 g4 e5 g5 e6 g6 e7 g7
      generalize U.val = wu at *
      go_wp2_with fail
      go_roundw
      case rel => exact ⟨5, by omega, by go_num, K9, C9, O9⟩
      case measure => simp [intOf]
    | 5, _ =>
      go_wp2_with fail
      go_ret
      exact ⟨rfl, K2.below (Nat.le_refl _) (fun _ _ e => e)⟩
theorem blindWalk (w : World) (c : Cf) (hc : c.ok) (d : Cf) (hd : d.ok) : Calls Try.prog 3 #[cfv c, cfv d] w fun e w' => e = .returned (.bool true) ∧ Below w.heap.size w w' := blind_walk w hc hd
end Go.Proofs.Ytmcchconnfoffab
