import Derived.Test.YtgjndhbfjofkeaaGreatDoorG21
namespace Go.Proofs.YtgjndhbfjofkeaaGreatDoor.CM
open Go.RowKit
structure JC (w : World) (b : Nat) (p mine theirs born enemy : Int) (flag : Bool) (tries waited draw : Int) : Prop where
  p0 : w.cell? ⟨b, 0, none⟩ = some (.int .i64 p)
  d0 : w.cell? ⟨b + 1, 0, none⟩ = some (.int .i64 mine)
  d1 : w.cell? ⟨b + 1, 1, none⟩ = some (.int .i64 theirs)
  d2 : w.cell? ⟨b + 1, 2, none⟩ = some (.int .i64 born)
  d3 : w.cell? ⟨b + 1, 3, none⟩ = some (.int .i64 enemy)
  d4 : w.cell? ⟨b + 1, 4, none⟩ = some (.bool flag)
  d5 : w.cell? ⟨b + 1, 5, none⟩ = some (.int .i64 tries)
  d6 : w.cell? ⟨b + 1, 6, none⟩ = some (.int .i64 waited)
  d7 : w.cell? ⟨b + 1, 7, none⟩ = some (.int .i64 draw)
  r : R3 w (b + 1 + 1)
theorem JC.keep {w w' : World} {b : Nat} {p mine theirs born enemy : Int} {flag : Bool} {tries waited draw : Int} (h : JC w b p mine theirs born enemy flag tries waited draw) (k : Keeps (fun _ => False) w w') : JC w' b p mine theirs born enemy flag tries waited draw :=
  ⟨k.cell h.p0 id, k.cell h.d0 id, k.cell h.d1 id, k.cell h.d2 id, k.cell h.d3 id, k.cell h.d4 id, k.cell h.d5 id, k.cell h.d6 id, k.cell h.d7 id, h.r.keep k⟩
set_option maxHeartbeats 1600000 in
set_option maxRecDepth 1000000 in
theorem greedy_ab1 {w : World} {p mine theirs born enemy : Int} {flag : Bool} {tries waited draw : Int} (h : born < enemy) :
    Calls Tryz.prog 212 #[.agg #[.int .i64 p], .agg #[.int .i64 mine, .int .i64 theirs, .int .i64 born, .int .i64 enemy, .bool flag, .int .i64 tries, .int .i64 waited, .int .i64 draw]] w fun e w' => e = .returned (vdv (.ab)) ∧ Keeps (fun _ => False) w w' := by
  obtain ⟨w0, hw0⟩ : ∃ w0, w0 = ((w.alloc (.cells #[.int .i64 p] 188)).alloc (.cells #[.int .i64 mine, .int .i64 theirs, .int .i64 born, .int .i64 enemy, .bool flag, .int .i64 tries, .int .i64 waited, .int .i64 draw] 229)).alloc (.cells #[.bool false, .bool false, .int .i64 0] 233) := ⟨_, rfl⟩
  have K0 : Keeps (fun _ => False) w w0 := by rw [hw0]; exact (((Keeps.refl _ w).alloc _).alloc _).alloc _
  have J0 : JC w0 w.heap.size p mine theirs born enemy flag tries waited draw := by
    rw [hw0]
    refine ⟨?_, ?_, ?_, ?_, ?_, ?_, ?_, ?_, ?_, R3.mk1 _ (by simp)⟩ <;> go_simp
  simp only [vdv, Vd.ab]
  go_enter Tryz.func212, Tryz.ntmps212
  go_wp2_with fail
  rw [← hw0]
  clear hw0
  go_wp2_with (go_at_call 175; refine (abort_any _).mono ?_; rintro e w1 ⟨rfl, k1⟩; replace J0 := J0.keep k1; replace K0 := K0.trans k1; clear k1; have ⟨p0, d0, d1, d2, d3, d4, d5, d6, d7, r0⟩ := J0; have ⟨c0, c1, c2, z0, z1, z2⟩ := r0)
  refine bodyPost_ret (v := .agg #[.bool true, .bool false, .int .i64 0]) ?_ rfl ⟨rfl, end3 K0 (by omega) _ _ _⟩
  rw [results_cell1 rfl]
  go_simp
set_option maxHeartbeats 1600000 in
set_option maxRecDepth 1000000 in
theorem greedy_ab2 {w : World} {p mine theirs born enemy : Int} {tries waited draw : Int} (h : ¬ born < enemy) :
    Calls Tryz.prog 212 #[.agg #[.int .i64 p], .agg #[.int .i64 mine, .int .i64 theirs, .int .i64 born, .int .i64 enemy, .bool true, .int .i64 tries, .int .i64 waited, .int .i64 draw]] w fun e w' => e = .returned (vdv (.ab)) ∧ Keeps (fun _ => False) w w' := by
  obtain ⟨w0, hw0⟩ : ∃ w0, w0 = ((w.alloc (.cells #[.int .i64 p] 188)).alloc (.cells #[.int .i64 mine, .int .i64 theirs, .int .i64 born, .int .i64 enemy, .bool true, .int .i64 tries, .int .i64 waited, .int .i64 draw] 229)).alloc (.cells #[.bool false, .bool false, .int .i64 0] 233) := ⟨_, rfl⟩
  have K0 : Keeps (fun _ => False) w w0 := by rw [hw0]; exact (((Keeps.refl _ w).alloc _).alloc _).alloc _
  have J0 : JC w0 w.heap.size p mine theirs born enemy (true) tries waited draw := by
    rw [hw0]
    refine ⟨?_, ?_, ?_, ?_, ?_, ?_, ?_, ?_, ?_, R3.mk1 _ (by simp)⟩ <;> go_simp
  simp only [vdv, Vd.ab]
  go_enter Tryz.func212, Tryz.ntmps212
  go_wp2_with fail
  rw [← hw0]
  clear hw0
  go_wp2_with (go_at_call 175; refine (abort_any _).mono ?_; rintro e w1 ⟨rfl, k1⟩; replace J0 := J0.keep k1; replace K0 := K0.trans k1; clear k1; have ⟨p0, d0, d1, d2, d3, d4, d5, d6, d7, r0⟩ := J0; have ⟨c0, c1, c2, z0, z1, z2⟩ := r0)
  refine bodyPost_ret (v := .agg #[.bool true, .bool false, .int .i64 0]) ?_ rfl ⟨rfl, end3 K0 (by omega) _ _ _⟩
  rw [results_cell1 rfl]
  go_simp
set_option maxHeartbeats 1600000 in
set_option maxRecDepth 1000000 in
theorem greedy_cut {w : World} {p mine theirs born enemy : Int} {tries waited draw : Int} (h : ¬ born < enemy) (hp : 1 ≤ p ∧ p ≤ 4096) (ht : 0 ≤ waited ∧ waited ≤ 9223372036854775807) :
    Calls Tryz.prog 212 #[.agg #[.int .i64 p], .agg #[.int .i64 mine, .int .i64 theirs, .int .i64 born, .int .i64 enemy, .bool false, .int .i64 tries, .int .i64 waited, .int .i64 draw]] w fun e w' => e = .returned (vdv (cutv p 4 waited)) ∧ Keeps (fun _ => False) w w' := by
  obtain ⟨w0, hw0⟩ : ∃ w0, w0 = ((w.alloc (.cells #[.int .i64 p] 188)).alloc (.cells #[.int .i64 mine, .int .i64 theirs, .int .i64 born, .int .i64 enemy, .bool false, .int .i64 tries, .int .i64 waited, .int .i64 draw] 229)).alloc (.cells #[.bool false, .bool false, .int .i64 0] 233) := ⟨_, rfl⟩
  have K0 : Keeps (fun _ => False) w w0 := by rw [hw0]; exact (((Keeps.refl _ w).alloc _).alloc _).alloc _
  have J0 : JC w0 w.heap.size p mine theirs born enemy (false) tries waited draw := by
    rw [hw0]
    refine ⟨?_, ?_, ?_, ?_, ?_, ?_, ?_, ?_, ?_, R3.mk1 _ (by simp)⟩ <;> go_simp
  have hcut := fun W => cut_any W p 4 waited hp ht
  clear hp ht
  generalize cutv p 4 waited = V at *
  obtain ⟨va, vt, vn⟩ := V
  simp only [vdv] at *
  go_enter Tryz.func212, Tryz.ntmps212
  go_wp2_with fail
  rw [← hw0]
  clear hw0
  go_wp2_with (go_at_call 202; refine (hcut _).mono ?_; rintro e w1 ⟨rfl, k1⟩; replace J0 := J0.keep k1; replace K0 := K0.trans k1; clear k1; have ⟨p0, d0, d1, d2, d3, d4, d5, d6, d7, r0⟩ := J0; have ⟨c0, c1, c2, z0, z1, z2⟩ := r0)
  refine bodyPost_ret (v := .agg #[.bool va, .bool vt, .int .i64 vn]) ?_ rfl ⟨rfl, end3 K0 (by omega) _ _ _⟩
  rw [results_cell1 rfl]
  go_simp
set_option maxHeartbeats 1600000 in
set_option maxRecDepth 1000000 in
theorem karma_ab {w : World} {p mine theirs born enemy : Int} {flag : Bool} {tries waited draw : Int} (hc : Cf.ok ⟨mine, theirs, born, enemy, flag, tries, waited, draw⟩) (h : outr ⟨mine, theirs, born, enemy, flag, tries, waited, draw⟩ = true) :
    Calls Tryz.prog 206 #[.agg #[.int .i64 p], .agg #[.int .i64 mine, .int .i64 theirs, .int .i64 born, .int .i64 enemy, .bool flag, .int .i64 tries, .int .i64 waited, .int .i64 draw]] w fun e w' => e = .returned (vdv (.ab)) ∧ Keeps (fun _ => False) w w' := by
  obtain ⟨w0, hw0⟩ : ∃ w0, w0 = ((w.alloc (.cells #[.int .i64 p] 186)).alloc (.cells #[.int .i64 mine, .int .i64 theirs, .int .i64 born, .int .i64 enemy, .bool flag, .int .i64 tries, .int .i64 waited, .int .i64 draw] 229)).alloc (.cells #[.bool false, .bool false, .int .i64 0] 233) := ⟨_, rfl⟩
  have K0 : Keeps (fun _ => False) w w0 := by rw [hw0]; exact (((Keeps.refl _ w).alloc _).alloc _).alloc _
  have J0 : JC w0 w.heap.size p mine theirs born enemy flag tries waited draw := by
    rw [hw0]
    refine ⟨?_, ?_, ?_, ?_, ?_, ?_, ?_, ?_, ?_, R3.mk1 _ (by simp)⟩ <;> go_simp
  have hout := fun W => outranks_any W _ hc
  rw [h] at hout
  clear h hc
  simp only [cfv] at hout
  simp only [vdv, Vd.ab]
  go_enter Tryz.func206, Tryz.ntmps206
  go_wp2_with fail
  rw [← hw0]
  clear hw0
  go_wp2_with (first | (go_at_call 208; refine (hout _).mono ?_; rintro e w1 ⟨rfl, k1⟩; replace J0 := J0.keep k1; replace K0 := K0.trans k1; clear k1; have ⟨p0, d0, d1, d2, d3, d4, d5, d6, d7, r0⟩ := J0; have ⟨c0, c1, c2, z0, z1, z2⟩ := r0) | (go_at_call 175; refine (abort_any _).mono ?_; rintro e w1 ⟨rfl, k1⟩; replace J0 := J0.keep k1; replace K0 := K0.trans k1; clear k1; have ⟨p0, d0, d1, d2, d3, d4, d5, d6, d7, r0⟩ := J0; have ⟨c0, c1, c2, z0, z1, z2⟩ := r0))
  refine bodyPost_ret (v := .agg #[.bool true, .bool false, .int .i64 0]) ?_ rfl ⟨rfl, end3 K0 (by omega) _ _ _⟩
  rw [results_cell1 rfl]
  go_simp
set_option maxHeartbeats 1600000 in
set_option maxRecDepth 1000000 in
theorem polka_ab {w : World} {p mine theirs born enemy : Int} {flag : Bool} {tries waited draw : Int} (hc : Cf.ok ⟨mine, theirs, born, enemy, flag, tries, waited, draw⟩) (h : outr ⟨mine, theirs, born, enemy, flag, tries, waited, draw⟩ = true) :
    Calls Tryz.prog 210 #[.agg #[.int .i64 p], .agg #[.int .i64 mine, .int .i64 theirs, .int .i64 born, .int .i64 enemy, .bool flag, .int .i64 tries, .int .i64 waited, .int .i64 draw]] w fun e w' => e = .returned (vdv (.ab)) ∧ Keeps (fun _ => False) w w' := by
  obtain ⟨w0, hw0⟩ : ∃ w0, w0 = ((w.alloc (.cells #[.int .i64 p] 187)).alloc (.cells #[.int .i64 mine, .int .i64 theirs, .int .i64 born, .int .i64 enemy, .bool flag, .int .i64 tries, .int .i64 waited, .int .i64 draw] 229)).alloc (.cells #[.bool false, .bool false, .int .i64 0] 233) := ⟨_, rfl⟩
  have K0 : Keeps (fun _ => False) w w0 := by rw [hw0]; exact (((Keeps.refl _ w).alloc _).alloc _).alloc _
  have J0 : JC w0 w.heap.size p mine theirs born enemy flag tries waited draw := by
    rw [hw0]
    refine ⟨?_, ?_, ?_, ?_, ?_, ?_, ?_, ?_, ?_, R3.mk1 _ (by simp)⟩ <;> go_simp
  have hout := fun W => outranks_any W _ hc
  rw [h] at hout
  clear h hc
  simp only [cfv] at hout
  simp only [vdv, Vd.ab]
  go_enter Tryz.func210, Tryz.ntmps210
  go_wp2_with fail
  rw [← hw0]
  clear hw0
  go_wp2_with (first | (go_at_call 208; refine (hout _).mono ?_; rintro e w1 ⟨rfl, k1⟩; replace J0 := J0.keep k1; replace K0 := K0.trans k1; clear k1; have ⟨p0, d0, d1, d2, d3, d4, d5, d6, d7, r0⟩ := J0; have ⟨c0, c1, c2, z0, z1, z2⟩ := r0) | (go_at_call 175; refine (abort_any _).mono ?_; rintro e w1 ⟨rfl, k1⟩; replace J0 := J0.keep k1; replace K0 := K0.trans k1; clear k1; have ⟨p0, d0, d1, d2, d3, d4, d5, d6, d7, r0⟩ := J0; have ⟨c0, c1, c2, z0, z1, z2⟩ := r0))
  refine bodyPost_ret (v := .agg #[.bool true, .bool false, .int .i64 0]) ?_ rfl ⟨rfl, end3 K0 (by omega) _ _ _⟩
  rw [results_cell1 rfl]
  go_simp
set_option maxHeartbeats 1600000 in
set_option maxRecDepth 1000000 in
theorem karma_cut {w : World} {p mine theirs born enemy : Int} {flag : Bool} {tries waited draw : Int} (hc : Cf.ok ⟨mine, theirs, born, enemy, flag, tries, waited, draw⟩) (h : outr ⟨mine, theirs, born, enemy, flag, tries, waited, draw⟩ = false) (hp : 1 ≤ p ∧ p ≤ 4096) (ht : 0 ≤ waited ∧ waited ≤ 9223372036854775807) :
    Calls Tryz.prog 206 #[.agg #[.int .i64 p], .agg #[.int .i64 mine, .int .i64 theirs, .int .i64 born, .int .i64 enemy, .bool flag, .int .i64 tries, .int .i64 waited, .int .i64 draw]] w fun e w' => e = .returned (vdv (cutv p 4 waited)) ∧ Keeps (fun _ => False) w w' := by
  obtain ⟨w0, hw0⟩ : ∃ w0, w0 = ((w.alloc (.cells #[.int .i64 p] 186)).alloc (.cells #[.int .i64 mine, .int .i64 theirs, .int .i64 born, .int .i64 enemy, .bool flag, .int .i64 tries, .int .i64 waited, .int .i64 draw] 229)).alloc (.cells #[.bool false, .bool false, .int .i64 0] 233) := ⟨_, rfl⟩
  have K0 : Keeps (fun _ => False) w w0 := by rw [hw0]; exact (((Keeps.refl _ w).alloc _).alloc _).alloc _
  have J0 : JC w0 w.heap.size p mine theirs born enemy flag tries waited draw := by
    rw [hw0]
    refine ⟨?_, ?_, ?_, ?_, ?_, ?_, ?_, ?_, ?_, R3.mk1 _ (by simp)⟩ <;> go_simp
  have hout := fun W => outranks_any W _ hc
  rw [h] at hout
  clear h hc
  simp only [cfv] at hout
  have hcut := fun W => cut_any W p 4 waited hp ht
  clear hp ht
  generalize cutv p 4 waited = V at *
  obtain ⟨va, vt, vn⟩ := V
  simp only [vdv] at *
  go_enter Tryz.func206, Tryz.ntmps206
  go_wp2_with fail
  rw [← hw0]
  clear hw0
  go_wp2_with (first | (go_at_call 208; refine (hout _).mono ?_; rintro e w1 ⟨rfl, k1⟩; replace J0 := J0.keep k1; replace K0 := K0.trans k1; clear k1; have ⟨p0, d0, d1, d2, d3, d4, d5, d6, d7, r0⟩ := J0; have ⟨c0, c1, c2, z0, z1, z2⟩ := r0) | (go_at_call 202; refine (hcut _).mono ?_; rintro e w1 ⟨rfl, k1⟩; replace J0 := J0.keep k1; replace K0 := K0.trans k1; clear k1; have ⟨p0, d0, d1, d2, d3, d4, d5, d6, d7, r0⟩ := J0; have ⟨c0, c1, c2, z0, z1, z2⟩ := r0))
  refine bodyPost_ret (v := .agg #[.bool va, .bool vt, .int .i64 vn]) ?_ rfl ⟨rfl, end3 K0 (by omega) _ _ _⟩
  rw [results_cell1 rfl]
  go_simp
set_option maxHeartbeats 1600000 in
set_option maxRecDepth 1000000 in
theorem polite_ab {w : World} {p mine theirs born enemy : Int} {flag : Bool} {tries waited draw : Int} (h : 8 ≤ tries) :
    Calls Tryz.prog 200 #[.agg #[.int .i64 p], .agg #[.int .i64 mine, .int .i64 theirs, .int .i64 born, .int .i64 enemy, .bool flag, .int .i64 tries, .int .i64 waited, .int .i64 draw]] w fun e w' => e = .returned (vdv (.ab)) ∧ Keeps (fun _ => False) w w' := by
  obtain ⟨w0, hw0⟩ : ∃ w0, w0 = ((w.alloc (.cells #[.int .i64 p] 185)).alloc (.cells #[.int .i64 mine, .int .i64 theirs, .int .i64 born, .int .i64 enemy, .bool flag, .int .i64 tries, .int .i64 waited, .int .i64 draw] 229)).alloc (.cells #[.bool false, .bool false, .int .i64 0] 233) := ⟨_, rfl⟩
  have K0 : Keeps (fun _ => False) w w0 := by rw [hw0]; exact (((Keeps.refl _ w).alloc _).alloc _).alloc _
  have J0 : JC w0 w.heap.size p mine theirs born enemy flag tries waited draw := by
    rw [hw0]
    refine ⟨?_, ?_, ?_, ?_, ?_, ?_, ?_, ?_, ?_, R3.mk1 _ (by simp)⟩ <;> go_simp
  simp only [vdv, Vd.ab]
  go_enter Tryz.func200, Tryz.ntmps200
  go_wp2_with fail
  rw [← hw0]
  clear hw0
  go_wp2_with (go_at_call 175; refine (abort_any _).mono ?_; rintro e w1 ⟨rfl, k1⟩; replace J0 := J0.keep k1; replace K0 := K0.trans k1; clear k1; have ⟨p0, d0, d1, d2, d3, d4, d5, d6, d7, r0⟩ := J0; have ⟨c0, c1, c2, z0, z1, z2⟩ := r0)
  refine bodyPost_ret (v := .agg #[.bool true, .bool false, .int .i64 0]) ?_ rfl ⟨rfl, end3 K0 (by omega) _ _ _⟩
  rw [results_cell1 rfl]
  go_simp
set_option maxHeartbeats 1600000 in
set_option maxRecDepth 1000000 in
theorem polite_cut {w : World} {p mine theirs born enemy : Int} {flag : Bool} {waited draw : Int} {n : Nat} (hn : n ≤ 7) (hp : 1 ≤ p ∧ p ≤ 4096) (ht : 0 ≤ waited ∧ waited ≤ 9223372036854775807) :
    Calls Tryz.prog 200 #[.agg #[.int .i64 p], .agg #[.int .i64 mine, .int .i64 theirs, .int .i64 born, .int .i64 enemy, .bool flag, .int .i64 (n : Int), .int .i64 waited, .int .i64 draw]] w fun e w' => e = .returned (vdv (cutv p (1 + lowz n draw) waited)) ∧ Keeps (fun _ => False) w w' := by
  obtain ⟨w0, hw0⟩ : ∃ w0, w0 = ((w.alloc (.cells #[.int .i64 p] 185)).alloc (.cells #[.int .i64 mine, .int .i64 theirs, .int .i64 born, .int .i64 enemy, .bool flag, .int .i64 (n : Int), .int .i64 waited, .int .i64 draw] 229)).alloc (.cells #[.bool false, .bool false, .int .i64 0] 233) := ⟨_, rfl⟩
  have K0 : Keeps (fun _ => False) w w0 := by rw [hw0]; exact (((Keeps.refl _ w).alloc _).alloc _).alloc _
  have J0 : JC w0 w.heap.size p mine theirs born enemy flag ((n : Int)) waited draw := by
    rw [hw0]
    refine ⟨?_, ?_, ?_, ?_, ?_, ?_, ?_, ?_, ?_, R3.mk1 _ (by simp)⟩ <;> go_simp
  have hcut := fun W => cut_any W p (1 + lowz n draw) waited hp ht
  have hbk := fun W => backOff_any W n hn draw
  have hn1 : decide ((8 : Int) ≤ (n : Int)) = false := by simp; omega
  have hn2 : decide ((8 : Nat) ≤ n) = false := by simp; omega
  clear hp ht
  generalize cutv p (1 + lowz n draw) waited = V at *
  obtain ⟨va, vt, vn⟩ := V
  simp only [vdv] at *
  generalize (1 + lowz n draw) = B at *
  go_enter Tryz.func200, Tryz.ntmps200
  go_wp2_with fail
  rw [← hw0]
  clear hw0
  have ⟨p0, d0, d1, d2, d3, d4, d5, d6, d7, r0⟩ := J0
  have nb1 : ¬ (w.heap.size = w.heap.size + 1 + 1) := by omega
  have nb2 : ¬ (w.heap.size + 1 + 1 = w.heap.size) := by omega
  have nb3 : ¬ (w.heap.size + 1 = w.heap.size + 1 + 1) := by omega
  have nb4 : ¬ (w.heap.size + 1 + 1 = w.heap.size + 1) := by omega
  go_wp2_with fail
  go_region_held3 (fun w' => w'.cell? ⟨w.heap.size, 0, none⟩ = some (.int .i64 p) ∧ w'.cell? ⟨w.heap.size + 1, 5, none⟩ = some (.int .i64 (n : Int)) ∧ w'.cell? ⟨w.heap.size + 1, 6, none⟩ = some (.int .i64 waited) ∧ w'.cell? ⟨w.heap.size + 1, 7, none⟩ = some (.int .i64 draw)) (go_keep) (first | (go_at_call 203; refine (hbk _).mono ?_; rintro e w1 ⟨rfl, rfl⟩) | (go_at_call 202; refine (hcut _).mono ?_; rintro e w1 ⟨rfl, k1⟩; replace J0 := (J0.keep (Keeps.refl _ _).drew).keep k1; replace K0 := K0.drew.trans k1; clear k1; have ⟨p0, d0, d1, d2, d3, d4, d5, d6, d7, r0⟩ := J0; have ⟨c0, c1, c2, z0, z1, z2⟩ := r0))
  go_wp2_with fail
  refine bodyPost_ret (v := .agg #[.bool va, .bool vt, .int .i64 vn]) ?_ rfl ⟨rfl, end3 K0 (by omega) _ _ _⟩
  rw [results_cell1 rfl]
  go_simp
set_option maxHeartbeats 1600000 in
set_option maxRecDepth 1000000 in
theorem polka_cut1 {w : World} {p mine theirs born enemy : Int} {flag : Bool} {tries waited draw : Int} (hc : Cf.ok ⟨mine, theirs, born, enemy, flag, tries, waited, draw⟩) (h : outr ⟨mine, theirs, born, enemy, flag, tries, waited, draw⟩ = false) (h0 : 0 ≤ tries) (hn : tries ≤ 7) (hp : 1 ≤ p ∧ p ≤ 4096) (ht : 0 ≤ waited ∧ waited ≤ 9223372036854775807) :
    Calls Tryz.prog 210 #[.agg #[.int .i64 p], .agg #[.int .i64 mine, .int .i64 theirs, .int .i64 born, .int .i64 enemy, .bool flag, .int .i64 tries, .int .i64 waited, .int .i64 draw]] w fun e w' => e = .returned (vdv (cutv p (1 + lowz tries.toNat draw) waited)) ∧ Keeps (fun _ => False) w w' := by
  obtain ⟨w0, hw0⟩ : ∃ w0, w0 = ((w.alloc (.cells #[.int .i64 p] 187)).alloc (.cells #[.int .i64 mine, .int .i64 theirs, .int .i64 born, .int .i64 enemy, .bool flag, .int .i64 tries, .int .i64 waited, .int .i64 draw] 229)).alloc (.cells #[.bool false, .bool false, .int .i64 0] 233) := ⟨_, rfl⟩
  have K0 : Keeps (fun _ => False) w w0 := by rw [hw0]; exact (((Keeps.refl _ w).alloc _).alloc _).alloc _
  have J0 : JC w0 w.heap.size p mine theirs born enemy flag tries waited draw := by
    rw [hw0]
    refine ⟨?_, ?_, ?_, ?_, ?_, ?_, ?_, ?_, ?_, R3.mk1 _ (by simp)⟩ <;> go_simp
  have hout := fun W => outranks_any W _ hc
  rw [h] at hout
  clear h
  clear hc
  simp only [cfv] at hout
  have hbk : ∀ W, Calls Tryz.prog 203 #[.int .i64 tries, .int .i64 draw] W fun e w' => e = .returned (.int .i64 (1 + lowz tries.toNat draw)) ∧ w' = W := fun W => by
    have := backOff_any W tries.toNat (by omega) draw
    rwa [Int.toNat_of_nonneg h0] at this
  have hn3 : (if 7 < tries then (7 : Int) else tries) = tries := if_neg (by omega)
  clear hn h0
  have hcut := fun W => cut_any W p (1 + lowz tries.toNat draw) waited hp ht
  clear hp ht
  generalize cutv p (1 + lowz tries.toNat draw) waited = V at *
  obtain ⟨va, vt, vn⟩ := V
  simp only [vdv] at *
  generalize (1 + lowz tries.toNat draw) = B at *
  go_enter Tryz.func210, Tryz.ntmps210
  go_wp2_with fail
  rw [← hw0]
  clear hw0
  have ⟨p0, d0, d1, d2, d3, d4, d5, d6, d7, r0⟩ := J0
  have nb1 : ¬ (w.heap.size = w.heap.size + 1 + 1) := by omega
  have nb2 : ¬ (w.heap.size + 1 + 1 = w.heap.size) := by omega
  have nb3 : ¬ (w.heap.size + 1 = w.heap.size + 1 + 1) := by omega
  have nb4 : ¬ (w.heap.size + 1 + 1 = w.heap.size + 1) := by omega
  go_wp2_with (go_at_call 208; refine (hout _).mono ?_; rintro e w1 ⟨rfl, k1⟩; replace J0 := J0.keep k1; replace K0 := K0.trans k1; clear k1; have ⟨p0, d0, d1, d2, d3, d4, d5, d6, d7, r0⟩ := J0; have ⟨c0, c1, c2, z0, z1, z2⟩ := r0)
  clear hout
  go_region_held3 (fun w' => w'.cell? ⟨w.heap.size, 0, none⟩ = some (.int .i64 p) ∧ w'.cell? ⟨w.heap.size + 1, 5, none⟩ = some (.int .i64 tries) ∧ w'.cell? ⟨w.heap.size + 1, 6, none⟩ = some (.int .i64 waited) ∧ w'.cell? ⟨w.heap.size + 1, 7, none⟩ = some (.int .i64 draw)) (go_keep) (first | (go_at_call 203; refine (hbk _).mono ?_; rintro e w1 ⟨rfl, rfl⟩) | (go_at_call 202; refine (hcut _).mono ?_; rintro e w1 ⟨rfl, k1⟩; replace J0 := (J0.keep (Keeps.refl _ _).drew).keep k1; replace K0 := K0.drew.trans k1; clear k1; have ⟨p0, d0, d1, d2, d3, d4, d5, d6, d7, r0⟩ := J0; have ⟨c0, c1, c2, z0, z1, z2⟩ := r0))
  go_wp2_with fail
  refine bodyPost_ret (v := .agg #[.bool va, .bool vt, .int .i64 vn]) ?_ rfl ⟨rfl, end3 K0 (by omega) _ _ _⟩
  rw [results_cell1 rfl]
  go_simp
set_option maxHeartbeats 1600000 in
set_option maxRecDepth 1000000 in
theorem polka_cut2 {w : World} {p mine theirs born enemy : Int} {flag : Bool} {tries waited draw : Int} (hc : Cf.ok ⟨mine, theirs, born, enemy, flag, tries, waited, draw⟩) (h : outr ⟨mine, theirs, born, enemy, flag, tries, waited, draw⟩ = false) (hn : 7 < tries) (hp : 1 ≤ p ∧ p ≤ 4096) (ht : 0 ≤ waited ∧ waited ≤ 9223372036854775807) :
    Calls Tryz.prog 210 #[.agg #[.int .i64 p], .agg #[.int .i64 mine, .int .i64 theirs, .int .i64 born, .int .i64 enemy, .bool flag, .int .i64 tries, .int .i64 waited, .int .i64 draw]] w fun e w' => e = .returned (vdv (cutv p (1 + lowz 7 draw) waited)) ∧ Keeps (fun _ => False) w w' := by
  obtain ⟨w0, hw0⟩ : ∃ w0, w0 = ((w.alloc (.cells #[.int .i64 p] 187)).alloc (.cells #[.int .i64 mine, .int .i64 theirs, .int .i64 born, .int .i64 enemy, .bool flag, .int .i64 tries, .int .i64 waited, .int .i64 draw] 229)).alloc (.cells #[.bool false, .bool false, .int .i64 0] 233) := ⟨_, rfl⟩
  have K0 : Keeps (fun _ => False) w w0 := by rw [hw0]; exact (((Keeps.refl _ w).alloc _).alloc _).alloc _
  have J0 : JC w0 w.heap.size p mine theirs born enemy flag tries waited draw := by
    rw [hw0]
    refine ⟨?_, ?_, ?_, ?_, ?_, ?_, ?_, ?_, ?_, R3.mk1 _ (by simp)⟩ <;> go_simp
  have hout := fun W => outranks_any W _ hc
  rw [h] at hout
  clear h
  clear hc
  simp only [cfv] at hout
  have hbk : ∀ W, Calls Tryz.prog 203 #[.int .i64 7, .int .i64 draw] W fun e w' => e = .returned (.int .i64 (1 + lowz 7 draw)) ∧ w' = W := fun W => backOff_any W 7 (by omega) draw
  have hn1 : decide ((7 : Int) < tries) = true := by simp; omega
  have hcut := fun W => cut_any W p (1 + lowz 7 draw) waited hp ht
  clear hp ht
  generalize cutv p (1 + lowz 7 draw) waited = V at *
  obtain ⟨va, vt, vn⟩ := V
  simp only [vdv] at *
  generalize (1 + lowz 7 draw) = B at *
  go_enter Tryz.func210, Tryz.ntmps210
  go_wp2_with fail
  rw [← hw0]
  clear hw0
  have ⟨p0, d0, d1, d2, d3, d4, d5, d6, d7, r0⟩ := J0
  have nb1 : ¬ (w.heap.size = w.heap.size + 1 + 1) := by omega
  have nb2 : ¬ (w.heap.size + 1 + 1 = w.heap.size) := by omega
  have nb3 : ¬ (w.heap.size + 1 = w.heap.size + 1 + 1) := by omega
  have nb4 : ¬ (w.heap.size + 1 + 1 = w.heap.size + 1) := by omega
  go_wp2_with (go_at_call 208; refine (hout _).mono ?_; rintro e w1 ⟨rfl, k1⟩; replace J0 := J0.keep k1; replace K0 := K0.trans k1; clear k1; have ⟨p0, d0, d1, d2, d3, d4, d5, d6, d7, r0⟩ := J0; have ⟨c0, c1, c2, z0, z1, z2⟩ := r0)
  clear hout
  go_region_held3 (fun w' => w'.cell? ⟨w.heap.size, 0, none⟩ = some (.int .i64 p) ∧ w'.cell? ⟨w.heap.size + 1, 5, none⟩ = some (.int .i64 tries) ∧ w'.cell? ⟨w.heap.size + 1, 6, none⟩ = some (.int .i64 waited) ∧ w'.cell? ⟨w.heap.size + 1, 7, none⟩ = some (.int .i64 draw)) (go_keep) (first | (go_at_call 203; refine (hbk _).mono ?_; rintro e w1 ⟨rfl, rfl⟩) | (go_at_call 202; refine (hcut _).mono ?_; rintro e w1 ⟨rfl, k1⟩; replace J0 := (J0.keep (Keeps.refl _ _).drew).keep k1; replace K0 := K0.drew.trans k1; clear k1; have ⟨p0, d0, d1, d2, d3, d4, d5, d6, d7, r0⟩ := J0; have ⟨c0, c1, c2, z0, z1, z2⟩ := r0))
  go_wp2_with fail
  refine bodyPost_ret (v := .agg #[.bool va, .bool vt, .int .i64 vn]) ?_ rfl ⟨rfl, end3 K0 (by omega) _ _ _⟩
  rw [results_cell1 rfl]
  go_simp
set_option maxHeartbeats 1600000 in
set_option maxRecDepth 1000000 in
theorem oracle_ab {w : World} {p mine theirs born enemy : Int} {flag : Bool} {tries waited draw : Int} (h : lowz 4 draw % 2 = 0) :
    Calls Tryz.prog 214 #[.agg #[.int .i64 p], .agg #[.int .i64 mine, .int .i64 theirs, .int .i64 born, .int .i64 enemy, .bool flag, .int .i64 tries, .int .i64 waited, .int .i64 draw]] w fun e w' => e = .returned (vdv (.ab)) ∧ Keeps (fun _ => False) w w' := by
  obtain ⟨w0, hw0⟩ : ∃ w0, w0 = ((w.alloc (.cells #[.int .i64 p] 190)).alloc (.cells #[.int .i64 mine, .int .i64 theirs, .int .i64 born, .int .i64 enemy, .bool flag, .int .i64 tries, .int .i64 waited, .int .i64 draw] 229)).alloc (.cells #[.bool false, .bool false, .int .i64 0] 233) := ⟨_, rfl⟩
  have K0 : Keeps (fun _ => False) w w0 := by rw [hw0]; exact (((Keeps.refl _ w).alloc _).alloc _).alloc _
  have J0 : JC w0 w.heap.size p mine theirs born enemy flag tries waited draw := by
    rw [hw0]
    refine ⟨?_, ?_, ?_, ?_, ?_, ?_, ?_, ?_, ?_, R3.mk1 _ (by simp)⟩ <;> go_simp
  have hlow : ∀ W, Calls Tryz.prog 205 #[.int .i64 4, .int .i64 draw] W fun e w' => e = .returned (.int .i64 (lowz 4 draw)) ∧ w' = W := fun W => low_any W 4 (by omega) draw
  have l1 := lowz_nn 4 draw
  have l2 := lowz_le7 (n := 4) (by omega) draw
  generalize lowz 4 draw = L at *
  simp only [vdv, Vd.ab]
  go_enter Tryz.func214, Tryz.ntmps214
  go_wp2_with fail
  rw [← hw0]
  clear hw0
  have ⟨p0, d0, d1, d2, d3, d4, d5, d6, d7, r0⟩ := J0
  have nb1 : ¬ (w.heap.size = w.heap.size + 1 + 1) := by omega
  have nb2 : ¬ (w.heap.size + 1 + 1 = w.heap.size) := by omega
  have nb3 : ¬ (w.heap.size + 1 = w.heap.size + 1 + 1) := by omega
  have nb4 : ¬ (w.heap.size + 1 + 1 = w.heap.size + 1) := by omega
  go_wp2_with (first | (go_at_call 205; refine (hlow _).mono ?_; rintro e w1 ⟨rfl, rfl⟩) | (go_at_call 175; refine (abort_any _).mono ?_; rintro e w1 ⟨rfl, k1⟩; replace J0 := J0.keep k1; replace K0 := K0.trans k1; clear k1; have ⟨p0, d0, d1, d2, d3, d4, d5, d6, d7, r0⟩ := J0; have ⟨c0, c1, c2, z0, z1, z2⟩ := r0))
  refine bodyPost_ret (v := .agg #[.bool true, .bool false, .int .i64 0]) ?_ rfl ⟨rfl, end3 K0 (by omega) _ _ _⟩
  rw [results_cell1 rfl]
  go_simp
set_option maxHeartbeats 1600000 in
set_option maxRecDepth 1000000 in
theorem oracle_wt1 {w : World} {p mine theirs born enemy : Int} {flag : Bool} {tries waited draw : Int} (h : ¬ lowz 4 draw % 2 = 0) (hd : draw < 0) :
    Calls Tryz.prog 214 #[.agg #[.int .i64 p], .agg #[.int .i64 mine, .int .i64 theirs, .int .i64 born, .int .i64 enemy, .bool flag, .int .i64 tries, .int .i64 waited, .int .i64 draw]] w fun e w' => e = .returned (vdv (.wt ((lowz 4 draw + 1) / 2 + 8))) ∧ Keeps (fun _ => False) w w' := by
  obtain ⟨w0, hw0⟩ : ∃ w0, w0 = ((w.alloc (.cells #[.int .i64 p] 190)).alloc (.cells #[.int .i64 mine, .int .i64 theirs, .int .i64 born, .int .i64 enemy, .bool flag, .int .i64 tries, .int .i64 waited, .int .i64 draw] 229)).alloc (.cells #[.bool false, .bool false, .int .i64 0] 233) := ⟨_, rfl⟩
  have K0 : Keeps (fun _ => False) w w0 := by rw [hw0]; exact (((Keeps.refl _ w).alloc _).alloc _).alloc _
  have J0 : JC w0 w.heap.size p mine theirs born enemy flag tries waited draw := by
    rw [hw0]
    refine ⟨?_, ?_, ?_, ?_, ?_, ?_, ?_, ?_, ?_, R3.mk1 _ (by simp)⟩ <;> go_simp
  have hlow : ∀ W, Calls Tryz.prog 205 #[.int .i64 4, .int .i64 draw] W fun e w' => e = .returned (.int .i64 (lowz 4 draw)) ∧ w' = W := fun W => low_any W 4 (by omega) draw
  have l1 := lowz_nn 4 draw
  have l2 := lowz_le7 (n := 4) (by omega) draw
  generalize lowz 4 draw = L at *
  have q1 : L.tmod 2 = L % 2 := Int.tmod_eq_emod_of_nonneg l1
  have q2 : (L + 1).tdiv 2 = (L + 1) / 2 := Int.tdiv_eq_ediv_of_nonneg (by omega)
  simp only [vdv, Vd.wt]
  go_enter Tryz.func214, Tryz.ntmps214
  go_wp2_with fail
  rw [← hw0]
  clear hw0
  have ⟨p0, d0, d1, d2, d3, d4, d5, d6, d7, r0⟩ := J0
  have nb1 : ¬ (w.heap.size = w.heap.size + 1 + 1) := by omega
  have nb2 : ¬ (w.heap.size + 1 + 1 = w.heap.size) := by omega
  have nb3 : ¬ (w.heap.size + 1 = w.heap.size + 1 + 1) := by omega
  have nb4 : ¬ (w.heap.size + 1 + 1 = w.heap.size + 1) := by omega
  go_wp2_with (first | (go_at_call 205; refine (hlow _).mono ?_; rintro e w1 ⟨rfl, rfl⟩) | (go_at_call 204; refine (wait_any _ _).mono ?_; rintro e w1 ⟨rfl, k1⟩; replace J0 := J0.keep k1; replace K0 := K0.trans k1; clear k1; have ⟨p0, d0, d1, d2, d3, d4, d5, d6, d7, r0⟩ := J0; have ⟨c0, c1, c2, z0, z1, z2⟩ := r0))
  refine bodyPost_ret (v := .agg #[.bool false, .bool false, .int .i64 ((L + 1) / 2 + 8)]) ?_ rfl ⟨rfl, end3 K0 (by omega) _ _ _⟩
  rw [results_cell1 rfl]
  go_simp
set_option maxHeartbeats 1600000 in
set_option maxRecDepth 1000000 in
theorem oracle_wt2 {w : World} {p mine theirs born enemy : Int} {flag : Bool} {tries waited draw : Int} (h : ¬ lowz 4 draw % 2 = 0) (hd : ¬ draw < 0) :
    Calls Tryz.prog 214 #[.agg #[.int .i64 p], .agg #[.int .i64 mine, .int .i64 theirs, .int .i64 born, .int .i64 enemy, .bool flag, .int .i64 tries, .int .i64 waited, .int .i64 draw]] w fun e w' => e = .returned (vdv (.wt ((lowz 4 draw + 1) / 2))) ∧ Keeps (fun _ => False) w w' := by
  obtain ⟨w0, hw0⟩ : ∃ w0, w0 = ((w.alloc (.cells #[.int .i64 p] 190)).alloc (.cells #[.int .i64 mine, .int .i64 theirs, .int .i64 born, .int .i64 enemy, .bool flag, .int .i64 tries, .int .i64 waited, .int .i64 draw] 229)).alloc (.cells #[.bool false, .bool false, .int .i64 0] 233) := ⟨_, rfl⟩
  have K0 : Keeps (fun _ => False) w w0 := by rw [hw0]; exact (((Keeps.refl _ w).alloc _).alloc _).alloc _
  have J0 : JC w0 w.heap.size p mine theirs born enemy flag tries waited draw := by
    rw [hw0]
    refine ⟨?_, ?_, ?_, ?_, ?_, ?_, ?_, ?_, ?_, R3.mk1 _ (by simp)⟩ <;> go_simp
  have hlow : ∀ W, Calls Tryz.prog 205 #[.int .i64 4, .int .i64 draw] W fun e w' => e = .returned (.int .i64 (lowz 4 draw)) ∧ w' = W := fun W => low_any W 4 (by omega) draw
  have l1 := lowz_nn 4 draw
  have l2 := lowz_le7 (n := 4) (by omega) draw
  generalize lowz 4 draw = L at *
  have q1 : L.tmod 2 = L % 2 := Int.tmod_eq_emod_of_nonneg l1
  have q2 : (L + 1).tdiv 2 = (L + 1) / 2 := Int.tdiv_eq_ediv_of_nonneg (by omega)
  simp only [vdv, Vd.wt]
  go_enter Tryz.func214, Tryz.ntmps214
  go_wp2_with fail
  rw [← hw0]
  clear hw0
  have ⟨p0, d0, d1, d2, d3, d4, d5, d6, d7, r0⟩ := J0
  have nb1 : ¬ (w.heap.size = w.heap.size + 1 + 1) := by omega
  have nb2 : ¬ (w.heap.size + 1 + 1 = w.heap.size) := by omega
  have nb3 : ¬ (w.heap.size + 1 = w.heap.size + 1 + 1) := by omega
  have nb4 : ¬ (w.heap.size + 1 + 1 = w.heap.size + 1) := by omega
  go_wp2_with (first | (go_at_call 205; refine (hlow _).mono ?_; rintro e w1 ⟨rfl, rfl⟩) | (go_at_call 204; refine (wait_any _ _).mono ?_; rintro e w1 ⟨rfl, k1⟩; replace J0 := J0.keep k1; replace K0 := K0.trans k1; clear k1; have ⟨p0, d0, d1, d2, d3, d4, d5, d6, d7, r0⟩ := J0; have ⟨c0, c1, c2, z0, z1, z2⟩ := r0))
  refine bodyPost_ret (v := .agg #[.bool false, .bool false, .int .i64 ((L + 1) / 2)]) ?_ rfl ⟨rfl, end3 K0 (by omega) _ _ _⟩
  rw [results_cell1 rfl]
  go_simp
end Go.Proofs.YtgjndhbfjofkeaaGreatDoor.CM

