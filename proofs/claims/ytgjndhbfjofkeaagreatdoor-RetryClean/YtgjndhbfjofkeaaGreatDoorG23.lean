import Derived.Test.YtgjndhbfjofkeaaGreatDoorG22
namespace Go.Proofs.YtgjndhbfjofkeaaGreatDoor.CM
open Go.RowKit
def Pat (p : Int) : Prop := 1 ≤ p ∧ p ≤ 4096
theorem meth0 (W : World) {p : Int} (hp : Pat p) (c : Cf) (hc : c.ok) (h0 : 0 ≤ c.tries) (h1 : 0 ≤ c.waited) : Calls Tryz.prog 200 #[.agg #[.int .i64 p], cfv c] W fun e w' => e = .returned (vdv (judgev 0 p c)) ∧ Keeps (fun _ => False) W w' := by
  obtain ⟨mine, theirs, born, enemy, flag, tries, waited, draw⟩ := c
  have hw : waited ≤ 9223372036854775807 := hc.2.2.2.2.2.1.2
  by_cases h : 8 ≤ tries
  · rw [show judgev 0 p ⟨mine, theirs, born, enemy, flag, tries, waited, draw⟩ = .ab from if_pos h]
    exact polite_ab h
  · rw [show judgev 0 p ⟨mine, theirs, born, enemy, flag, tries, waited, draw⟩ = cutv p (1 + lowz tries.toNat draw) waited from if_neg h]
    obtain ⟨n, rfl⟩ := Int.eq_ofNat_of_zero_le (show 0 ≤ tries from h0)
    exact polite_cut (n := n) (by omega) hp ⟨h1, hw⟩
theorem meth1 (W : World) {p : Int} (hp : Pat p) (c : Cf) (hc : c.ok) (h0 : 0 ≤ c.tries) (h1 : 0 ≤ c.waited) : Calls Tryz.prog 206 #[.agg #[.int .i64 p], cfv c] W fun e w' => e = .returned (vdv (judgev 1 p c)) ∧ Keeps (fun _ => False) W w' := by
  obtain ⟨mine, theirs, born, enemy, flag, tries, waited, draw⟩ := c
  have hw : waited ≤ 9223372036854775807 := hc.2.2.2.2.2.1.2
  by_cases h : outr ⟨mine, theirs, born, enemy, flag, tries, waited, draw⟩ = true
  · rw [show judgev 1 p ⟨mine, theirs, born, enemy, flag, tries, waited, draw⟩ = .ab from if_pos h]
    exact karma_ab hc h
  · rw [show judgev 1 p ⟨mine, theirs, born, enemy, flag, tries, waited, draw⟩ = cutv p 4 waited from if_neg h]
    exact karma_cut hc (by simpa using h) hp ⟨h1, hw⟩
theorem meth2 (W : World) {p : Int} (hp : Pat p) (c : Cf) (hc : c.ok) (h0 : 0 ≤ c.tries) (h1 : 0 ≤ c.waited) : Calls Tryz.prog 210 #[.agg #[.int .i64 p], cfv c] W fun e w' => e = .returned (vdv (judgev 2 p c)) ∧ Keeps (fun _ => False) W w' := by
  obtain ⟨mine, theirs, born, enemy, flag, tries, waited, draw⟩ := c
  have hw : waited ≤ 9223372036854775807 := hc.2.2.2.2.2.1.2
  by_cases h : outr ⟨mine, theirs, born, enemy, flag, tries, waited, draw⟩ = true
  · rw [show judgev 2 p ⟨mine, theirs, born, enemy, flag, tries, waited, draw⟩ = .ab from if_pos h]
    exact polka_ab hc h
  · rw [show judgev 2 p ⟨mine, theirs, born, enemy, flag, tries, waited, draw⟩ = cutv p (1 + lowz (min tries 7).toNat draw) waited from if_neg h]
    by_cases hn : 7 < tries
    · rw [show min tries 7 = 7 from Int.min_eq_right (Int.le_of_lt hn)]
      exact polka_cut2 hc (by simpa using h) hn hp ⟨h1, hw⟩
    · rw [show min tries 7 = tries from Int.min_eq_left (Int.not_lt.1 hn)]
      exact polka_cut1 hc (by simpa using h) h0 (Int.not_lt.1 hn) hp ⟨h1, hw⟩
theorem meth3 (W : World) {p : Int} (hp : Pat p) (c : Cf) (hc : c.ok) (h0 : 0 ≤ c.tries) (h1 : 0 ≤ c.waited) : Calls Tryz.prog 212 #[.agg #[.int .i64 p], cfv c] W fun e w' => e = .returned (vdv (judgev 3 p c)) ∧ Keeps (fun _ => False) W w' := by
  obtain ⟨mine, theirs, born, enemy, flag, tries, waited, draw⟩ := c
  have hw : waited ≤ 9223372036854775807 := hc.2.2.2.2.2.1.2
  by_cases h : born < enemy
  · rw [show judgev 3 p ⟨mine, theirs, born, enemy, flag, tries, waited, draw⟩ = .ab from if_pos (.inl h)]
    exact greedy_ab1 h
  · cases flag with
    | true =>
      rw [show judgev 3 p ⟨mine, theirs, born, enemy, true, tries, waited, draw⟩ = .ab from if_pos (.inr rfl)]
      exact greedy_ab2 h
    | false =>
      rw [show judgev 3 p ⟨mine, theirs, born, enemy, false, tries, waited, draw⟩ = cutv p 4 waited from if_neg (by simpa using h)]
      exact greedy_cut h hp ⟨h1, hw⟩
theorem meth4 (W : World) {p : Int} (c : Cf) : Calls Tryz.prog 214 #[.agg #[.int .i64 p], cfv c] W fun e w' => e = .returned (vdv (judgev 4 p c)) ∧ Keeps (fun _ => False) W w' := by
  obtain ⟨mine, theirs, born, enemy, flag, tries, waited, draw⟩ := c
  by_cases h : lowz 4 draw % 2 = 0
  · rw [show judgev 4 p ⟨mine, theirs, born, enemy, flag, tries, waited, draw⟩ = .ab from if_pos h]
    exact oracle_ab h
  · rw [show judgev 4 p ⟨mine, theirs, born, enemy, flag, tries, waited, draw⟩ = .wt ((lowz 4 draw + 1) / 2 + if draw < 0 then 8 else 0) from if_neg h]
    by_cases hd : draw < 0
    · rw [if_pos hd]
      exact oracle_wt1 h hd
    · rw [if_neg hd, Int.add_zero]
      exact oracle_wt2 h hd
theorem isNone_no {w : World} {mb : Nat} {t : TypeId} {v : Value} (hm : w.cell? ⟨mb, 0, none⟩ = some (.iface t v)) : Calls Tryz.prog 45 #[.pointer (some ⟨mb, 0, none⟩)] w fun e w' => e = .returned (.bool false) ∧ w' = w := by
  go_enter Tryz.func45, Tryz.ntmps45
  go_wp2
  go_ret
  exact ⟨rfl, rfl⟩
theorem norm_ok {c : Cf} (h : c.ok) : c.norm.ok := by
  obtain ⟨h1, h2, h3, h4, h5, h6, h7⟩ := h
  unfold In64 at *
  refine ⟨h1, h2, h3, h4, ?_, ?_, h7⟩ <;> simp only [Cf.norm, In64] <;> omega
set_option maxHeartbeats 3200000 in
set_option maxRecDepth 1000000 in
theorem judge0 {w : World} {mb : Nat} {p : Int} (hm : w.cell? ⟨mb, 0, none⟩ = some (.iface 185 (.agg #[.int .i64 p]))) (hp : Pat p) (c : Cf) (hc : c.ok) :
    Calls Tryz.prog 164 #[.pointer (some ⟨mb, 0, none⟩), cfv c] w fun e w' => e = .returned (vdv (judgev 0 p c.norm)) ∧ Keeps (fun _ => False) w w' := by
  have hj := fun W => meth0 W hp c.norm (norm_ok hc) (by simp only [Cf.norm]; omega) (by simp only [Cf.norm]; omega)
  obtain ⟨mine, theirs, born, enemy, flag, tries, waited, draw⟩ := c
  have hT : Hid ((if tries < 0 then 0 else tries) = max tries 0) := by show _ = _; split <;> omega
  have hX : Hid ((if waited < 0 then 0 else waited) = max waited 0) := by show _ = _; split <;> omega
  simp only [Cf.norm, cfv] at *
  generalize judgev 0 p _ = V at *
  generalize max tries 0 = T at *
  generalize max waited 0 = X at *
  obtain ⟨va, vt, vn⟩ := V
  simp only [vdv] at *
  have hmb := World.block_lt_of_cell? w _ hm
  obtain ⟨w0, hw0⟩ : ∃ w0, w0 = (w.alloc (.cells #[.int .i64 mine, .int .i64 theirs, .int .i64 born, .int .i64 enemy, .bool flag, .int .i64 tries, .int .i64 waited, .int .i64 draw] 229)).alloc (.cells #[.bool false, .bool false, .int .i64 0] 233) := ⟨_, rfl⟩
  have K0 : Keeps (fun _ => False) w w0 := by rw [hw0]; exact ((Keeps.refl _ w).alloc _).alloc _
  have m0 := K0.cell hm id
  have R0 : R3 w0 (w.heap.size + 1) := by rw [hw0]; exact R3.mk1 _ (by simp)
  have d0 : w0.cell? ⟨w.heap.size, 0, none⟩ = some (.int .i64 mine) := by rw [hw0]; go_simp
  have d1 : w0.cell? ⟨w.heap.size, 1, none⟩ = some (.int .i64 theirs) := by rw [hw0]; go_simp
  have d2 : w0.cell? ⟨w.heap.size, 2, none⟩ = some (.int .i64 born) := by rw [hw0]; go_simp
  have d3 : w0.cell? ⟨w.heap.size, 3, none⟩ = some (.int .i64 enemy) := by rw [hw0]; go_simp
  have d4 : w0.cell? ⟨w.heap.size, 4, none⟩ = some (.bool flag) := by rw [hw0]; go_simp
  have d5 : w0.cell? ⟨w.heap.size, 5, none⟩ = some (.int .i64 tries) := by rw [hw0]; go_simp
  have d6 : w0.cell? ⟨w.heap.size, 6, none⟩ = some (.int .i64 waited) := by rw [hw0]; go_simp
  have d7 : w0.cell? ⟨w.heap.size, 7, none⟩ = some (.int .i64 draw) := by rw [hw0]; go_simp
  have zz : ∀ o, w0.frozen? ⟨w.heap.size, o, none⟩ = false := by intro o; rw [hw0]; go_simp
  have z5 := zz 5
  have z6 := zz 6
  have nb1 : ¬ (mb = w.heap.size) := by show ¬ _; have : mb < w.heap.size := hmb; omega
  have nb2 : ¬ (w.heap.size = mb) := fun e => nb1 e.symm
  have nb3 : ¬ (mb = w.heap.size + 1) := by have : mb < w.heap.size := hmb; omega
  have nb4 : ¬ (w.heap.size + 1 = mb) := fun e => nb3 e.symm
  have nb5 : ¬ (w.heap.size = w.heap.size + 1) := by omega
  have nb6 : ¬ (w.heap.size + 1 = w.heap.size) := by omega
  have hi := isNone_no m0
  clear hm hmb hc
  have hT' := hT.out
  have hX' := hX.out
  go_enter Tryz.func164, Tryz.ntmps164
  go_wp2_with fail
  rw [← hw0]
  clear hw0 zz
  refine hi.mono ?_
  clear hi
  rintro e w1 ⟨rfl, rfl⟩
  go_wp2_with fail
  obtain ⟨w2, hw2⟩ : ∃ w2, w2 = (w1.setCell ⟨w.heap.size, 5, none⟩ (.int .i64 T)).setCell ⟨w.heap.size, 6, none⟩ (.int .i64 X) := ⟨_, rfl⟩
  rw [← hw2]
  have K2 : Keeps (fun _ => False) w w2 := by rw [hw2]; exact (K0.setCell (p := ⟨w.heap.size, 5, none⟩) (fun h => absurd h (Nat.lt_irrefl _)) _).setCell (p := ⟨w.heap.size, 6, none⟩) (fun h => absurd h (Nat.lt_irrefl _)) _
  have R2 : R3 w2 (w.heap.size + 1) := by
    obtain ⟨c0, c1, c2, y0, y1, y2⟩ := R0
    rw [hw2]
    refine ⟨?_, ?_, ?_, ?_, ?_, ?_⟩ <;> go_simp
  have m2 : w2.cell? ⟨mb, 0, none⟩ = some (.iface 185 (.agg #[.int .i64 p])) := by rw [hw2]; go_simp
  have e0 : w2.cell? ⟨w.heap.size, 0, none⟩ = some (.int .i64 mine) := by rw [hw2]; go_simp
  have e1 : w2.cell? ⟨w.heap.size, 1, none⟩ = some (.int .i64 theirs) := by rw [hw2]; go_simp
  have e2 : w2.cell? ⟨w.heap.size, 2, none⟩ = some (.int .i64 born) := by rw [hw2]; go_simp
  have e3 : w2.cell? ⟨w.heap.size, 3, none⟩ = some (.int .i64 enemy) := by rw [hw2]; go_simp
  have e4 : w2.cell? ⟨w.heap.size, 4, none⟩ = some (.bool flag) := by rw [hw2]; go_simp
  have e5 : w2.cell? ⟨w.heap.size, 5, none⟩ = some (.int .i64 T) := by rw [hw2]; go_simp
  have e6 : w2.cell? ⟨w.heap.size, 6, none⟩ = some (.int .i64 X) := by rw [hw2]; go_simp
  have e7 : w2.cell? ⟨w.heap.size, 7, none⟩ = some (.int .i64 draw) := by rw [hw2]; go_simp
  clear hw2 K0 m0 R0 d0 d1 d2 d3 d4 d5 d6 d7 z5 z6 hT hX hT' hX'
  have hme : ∀ w : World, (method 361 185 (.agg #[.int .i64 p]) "braid/cm.judge").run Tryz.prog w = .ok (200, .agg #[.int .i64 p]) w := fun _ => by kernel_rfl
  go_region_held3 (fun w' => w'.cell? ⟨mb, 0, none⟩ = some (.iface 185 (.agg #[.int .i64 p])) ∧ w'.cell? ⟨w.heap.size, 0, none⟩ = some (.int .i64 mine) ∧ w'.cell? ⟨w.heap.size, 1, none⟩ = some (.int .i64 theirs) ∧ w'.cell? ⟨w.heap.size, 2, none⟩ = some (.int .i64 born) ∧ w'.cell? ⟨w.heap.size, 3, none⟩ = some (.int .i64 enemy) ∧ w'.cell? ⟨w.heap.size, 4, none⟩ = some (.bool flag) ∧ w'.cell? ⟨w.heap.size, 5, none⟩ = some (.int .i64 T) ∧ w'.cell? ⟨w.heap.size, 6, none⟩ = some (.int .i64 X) ∧ w'.cell? ⟨w.heap.size, 7, none⟩ = some (.int .i64 draw)) (go_keep) ((go_at_call 200; refine (hj _).mono ?_; rintro e w3 ⟨rfl, k3⟩; have k4 : Keeps (fun _ => False) w2 w3 := ((Keeps.refl _ w2).drew).trans k3; replace K2 := K2.trans k4; obtain ⟨c0, c1, c2, y0, y1, y2⟩ := R2.keep k4; have m3 := k4.cell m2 id; have f0 := k4.cell e0 id; have f1 := k4.cell e1 id; have f2 := k4.cell e2 id; have f3 := k4.cell e3 id; have f4 := k4.cell e4 id; have f5 := k4.cell e5 id; have f6 := k4.cell e6 id; have f7 := k4.cell e7 id))
  go_wp2_with fail
  refine bodyPost_ret (v := .agg #[.bool va, .bool vt, .int .i64 vn]) ?_ rfl ⟨rfl, end3 K2 (by omega) _ _ _⟩
  rw [results_cell1 rfl]
  go_simp
set_option maxHeartbeats 3200000 in
set_option maxRecDepth 1000000 in
theorem judge1 {w : World} {mb : Nat} {p : Int} (hm : w.cell? ⟨mb, 0, none⟩ = some (.iface 186 (.agg #[.int .i64 p]))) (hp : Pat p) (c : Cf) (hc : c.ok) :
    Calls Tryz.prog 164 #[.pointer (some ⟨mb, 0, none⟩), cfv c] w fun e w' => e = .returned (vdv (judgev 1 p c.norm)) ∧ Keeps (fun _ => False) w w' := by
  have hj := fun W => meth1 W hp c.norm (norm_ok hc) (by simp only [Cf.norm]; omega) (by simp only [Cf.norm]; omega)
  obtain ⟨mine, theirs, born, enemy, flag, tries, waited, draw⟩ := c
  have hT : Hid ((if tries < 0 then 0 else tries) = max tries 0) := by show _ = _; split <;> omega
  have hX : Hid ((if waited < 0 then 0 else waited) = max waited 0) := by show _ = _; split <;> omega
  simp only [Cf.norm, cfv] at *
  generalize judgev 1 p _ = V at *
  generalize max tries 0 = T at *
  generalize max waited 0 = X at *
  obtain ⟨va, vt, vn⟩ := V
  simp only [vdv] at *
  have hmb := World.block_lt_of_cell? w _ hm
  obtain ⟨w0, hw0⟩ : ∃ w0, w0 = (w.alloc (.cells #[.int .i64 mine, .int .i64 theirs, .int .i64 born, .int .i64 enemy, .bool flag, .int .i64 tries, .int .i64 waited, .int .i64 draw] 229)).alloc (.cells #[.bool false, .bool false, .int .i64 0] 233) := ⟨_, rfl⟩
  have K0 : Keeps (fun _ => False) w w0 := by rw [hw0]; exact ((Keeps.refl _ w).alloc _).alloc _
  have m0 := K0.cell hm id
  have R0 : R3 w0 (w.heap.size + 1) := by rw [hw0]; exact R3.mk1 _ (by simp)
  have d0 : w0.cell? ⟨w.heap.size, 0, none⟩ = some (.int .i64 mine) := by rw [hw0]; go_simp
  have d1 : w0.cell? ⟨w.heap.size, 1, none⟩ = some (.int .i64 theirs) := by rw [hw0]; go_simp
  have d2 : w0.cell? ⟨w.heap.size, 2, none⟩ = some (.int .i64 born) := by rw [hw0]; go_simp
  have d3 : w0.cell? ⟨w.heap.size, 3, none⟩ = some (.int .i64 enemy) := by rw [hw0]; go_simp
  have d4 : w0.cell? ⟨w.heap.size, 4, none⟩ = some (.bool flag) := by rw [hw0]; go_simp
  have d5 : w0.cell? ⟨w.heap.size, 5, none⟩ = some (.int .i64 tries) := by rw [hw0]; go_simp
  have d6 : w0.cell? ⟨w.heap.size, 6, none⟩ = some (.int .i64 waited) := by rw [hw0]; go_simp
  have d7 : w0.cell? ⟨w.heap.size, 7, none⟩ = some (.int .i64 draw) := by rw [hw0]; go_simp
  have zz : ∀ o, w0.frozen? ⟨w.heap.size, o, none⟩ = false := by intro o; rw [hw0]; go_simp
  have z5 := zz 5
  have z6 := zz 6
  have nb1 : ¬ (mb = w.heap.size) := by show ¬ _; have : mb < w.heap.size := hmb; omega
  have nb2 : ¬ (w.heap.size = mb) := fun e => nb1 e.symm
  have nb3 : ¬ (mb = w.heap.size + 1) := by have : mb < w.heap.size := hmb; omega
  have nb4 : ¬ (w.heap.size + 1 = mb) := fun e => nb3 e.symm
  have nb5 : ¬ (w.heap.size = w.heap.size + 1) := by omega
  have nb6 : ¬ (w.heap.size + 1 = w.heap.size) := by omega
  have hi := isNone_no m0
  clear hm hmb hc
  have hT' := hT.out
  have hX' := hX.out
  go_enter Tryz.func164, Tryz.ntmps164
  go_wp2_with fail
  rw [← hw0]
  clear hw0 zz
  refine hi.mono ?_
  clear hi
  rintro e w1 ⟨rfl, rfl⟩
  go_wp2_with fail
  obtain ⟨w2, hw2⟩ : ∃ w2, w2 = (w1.setCell ⟨w.heap.size, 5, none⟩ (.int .i64 T)).setCell ⟨w.heap.size, 6, none⟩ (.int .i64 X) := ⟨_, rfl⟩
  rw [← hw2]
  have K2 : Keeps (fun _ => False) w w2 := by rw [hw2]; exact (K0.setCell (p := ⟨w.heap.size, 5, none⟩) (fun h => absurd h (Nat.lt_irrefl _)) _).setCell (p := ⟨w.heap.size, 6, none⟩) (fun h => absurd h (Nat.lt_irrefl _)) _
  have R2 : R3 w2 (w.heap.size + 1) := by
    obtain ⟨c0, c1, c2, y0, y1, y2⟩ := R0
    rw [hw2]
    refine ⟨?_, ?_, ?_, ?_, ?_, ?_⟩ <;> go_simp
  have m2 : w2.cell? ⟨mb, 0, none⟩ = some (.iface 186 (.agg #[.int .i64 p])) := by rw [hw2]; go_simp
  have e0 : w2.cell? ⟨w.heap.size, 0, none⟩ = some (.int .i64 mine) := by rw [hw2]; go_simp
  have e1 : w2.cell? ⟨w.heap.size, 1, none⟩ = some (.int .i64 theirs) := by rw [hw2]; go_simp
  have e2 : w2.cell? ⟨w.heap.size, 2, none⟩ = some (.int .i64 born) := by rw [hw2]; go_simp
  have e3 : w2.cell? ⟨w.heap.size, 3, none⟩ = some (.int .i64 enemy) := by rw [hw2]; go_simp
  have e4 : w2.cell? ⟨w.heap.size, 4, none⟩ = some (.bool flag) := by rw [hw2]; go_simp
  have e5 : w2.cell? ⟨w.heap.size, 5, none⟩ = some (.int .i64 T) := by rw [hw2]; go_simp
  have e6 : w2.cell? ⟨w.heap.size, 6, none⟩ = some (.int .i64 X) := by rw [hw2]; go_simp
  have e7 : w2.cell? ⟨w.heap.size, 7, none⟩ = some (.int .i64 draw) := by rw [hw2]; go_simp
  clear hw2 K0 m0 R0 d0 d1 d2 d3 d4 d5 d6 d7 z5 z6 hT hX hT' hX'
  have hme : ∀ w : World, (method 361 186 (.agg #[.int .i64 p]) "braid/cm.judge").run Tryz.prog w = .ok (206, .agg #[.int .i64 p]) w := fun _ => by kernel_rfl
  go_region_held3 (fun w' => w'.cell? ⟨mb, 0, none⟩ = some (.iface 186 (.agg #[.int .i64 p])) ∧ w'.cell? ⟨w.heap.size, 0, none⟩ = some (.int .i64 mine) ∧ w'.cell? ⟨w.heap.size, 1, none⟩ = some (.int .i64 theirs) ∧ w'.cell? ⟨w.heap.size, 2, none⟩ = some (.int .i64 born) ∧ w'.cell? ⟨w.heap.size, 3, none⟩ = some (.int .i64 enemy) ∧ w'.cell? ⟨w.heap.size, 4, none⟩ = some (.bool flag) ∧ w'.cell? ⟨w.heap.size, 5, none⟩ = some (.int .i64 T) ∧ w'.cell? ⟨w.heap.size, 6, none⟩ = some (.int .i64 X) ∧ w'.cell? ⟨w.heap.size, 7, none⟩ = some (.int .i64 draw)) (go_keep) ((go_at_call 206; refine (hj _).mono ?_; rintro e w3 ⟨rfl, k3⟩; have k4 : Keeps (fun _ => False) w2 w3 := ((Keeps.refl _ w2).drew).trans k3; replace K2 := K2.trans k4; obtain ⟨c0, c1, c2, y0, y1, y2⟩ := R2.keep k4; have m3 := k4.cell m2 id; have f0 := k4.cell e0 id; have f1 := k4.cell e1 id; have f2 := k4.cell e2 id; have f3 := k4.cell e3 id; have f4 := k4.cell e4 id; have f5 := k4.cell e5 id; have f6 := k4.cell e6 id; have f7 := k4.cell e7 id))
  go_wp2_with fail
  refine bodyPost_ret (v := .agg #[.bool va, .bool vt, .int .i64 vn]) ?_ rfl ⟨rfl, end3 K2 (by omega) _ _ _⟩
  rw [results_cell1 rfl]
  go_simp
set_option maxHeartbeats 3200000 in
set_option maxRecDepth 1000000 in
theorem judge2 {w : World} {mb : Nat} {p : Int} (hm : w.cell? ⟨mb, 0, none⟩ = some (.iface 187 (.agg #[.int .i64 p]))) (hp : Pat p) (c : Cf) (hc : c.ok) :
    Calls Tryz.prog 164 #[.pointer (some ⟨mb, 0, none⟩), cfv c] w fun e w' => e = .returned (vdv (judgev 2 p c.norm)) ∧ Keeps (fun _ => False) w w' := by
  have hj := fun W => meth2 W hp c.norm (norm_ok hc) (by simp only [Cf.norm]; omega) (by simp only [Cf.norm]; omega)
  obtain ⟨mine, theirs, born, enemy, flag, tries, waited, draw⟩ := c
  have hT : Hid ((if tries < 0 then 0 else tries) = max tries 0) := by show _ = _; split <;> omega
  have hX : Hid ((if waited < 0 then 0 else waited) = max waited 0) := by show _ = _; split <;> omega
  simp only [Cf.norm, cfv] at *
  generalize judgev 2 p _ = V at *
  generalize max tries 0 = T at *
  generalize max waited 0 = X at *
  obtain ⟨va, vt, vn⟩ := V
  simp only [vdv] at *
  have hmb := World.block_lt_of_cell? w _ hm
  obtain ⟨w0, hw0⟩ : ∃ w0, w0 = (w.alloc (.cells #[.int .i64 mine, .int .i64 theirs, .int .i64 born, .int .i64 enemy, .bool flag, .int .i64 tries, .int .i64 waited, .int .i64 draw] 229)).alloc (.cells #[.bool false, .bool false, .int .i64 0] 233) := ⟨_, rfl⟩
  have K0 : Keeps (fun _ => False) w w0 := by rw [hw0]; exact ((Keeps.refl _ w).alloc _).alloc _
  have m0 := K0.cell hm id
  have R0 : R3 w0 (w.heap.size + 1) := by rw [hw0]; exact R3.mk1 _ (by simp)
  have d0 : w0.cell? ⟨w.heap.size, 0, none⟩ = some (.int .i64 mine) := by rw [hw0]; go_simp
  have d1 : w0.cell? ⟨w.heap.size, 1, none⟩ = some (.int .i64 theirs) := by rw [hw0]; go_simp
  have d2 : w0.cell? ⟨w.heap.size, 2, none⟩ = some (.int .i64 born) := by rw [hw0]; go_simp
  have d3 : w0.cell? ⟨w.heap.size, 3, none⟩ = some (.int .i64 enemy) := by rw [hw0]; go_simp
  have d4 : w0.cell? ⟨w.heap.size, 4, none⟩ = some (.bool flag) := by rw [hw0]; go_simp
  have d5 : w0.cell? ⟨w.heap.size, 5, none⟩ = some (.int .i64 tries) := by rw [hw0]; go_simp
  have d6 : w0.cell? ⟨w.heap.size, 6, none⟩ = some (.int .i64 waited) := by rw [hw0]; go_simp
  have d7 : w0.cell? ⟨w.heap.size, 7, none⟩ = some (.int .i64 draw) := by rw [hw0]; go_simp
  have zz : ∀ o, w0.frozen? ⟨w.heap.size, o, none⟩ = false := by intro o; rw [hw0]; go_simp
  have z5 := zz 5
  have z6 := zz 6
  have nb1 : ¬ (mb = w.heap.size) := by show ¬ _; have : mb < w.heap.size := hmb; omega
  have nb2 : ¬ (w.heap.size = mb) := fun e => nb1 e.symm
  have nb3 : ¬ (mb = w.heap.size + 1) := by have : mb < w.heap.size := hmb; omega
  have nb4 : ¬ (w.heap.size + 1 = mb) := fun e => nb3 e.symm
  have nb5 : ¬ (w.heap.size = w.heap.size + 1) := by omega
  have nb6 : ¬ (w.heap.size + 1 = w.heap.size) := by omega
  have hi := isNone_no m0
  clear hm hmb hc
  have hT' := hT.out
  have hX' := hX.out
  go_enter Tryz.func164, Tryz.ntmps164
  go_wp2_with fail
  rw [← hw0]
  clear hw0 zz
  refine hi.mono ?_
  clear hi
  rintro e w1 ⟨rfl, rfl⟩
  go_wp2_with fail
  obtain ⟨w2, hw2⟩ : ∃ w2, w2 = (w1.setCell ⟨w.heap.size, 5, none⟩ (.int .i64 T)).setCell ⟨w.heap.size, 6, none⟩ (.int .i64 X) := ⟨_, rfl⟩
  rw [← hw2]
  have K2 : Keeps (fun _ => False) w w2 := by rw [hw2]; exact (K0.setCell (p := ⟨w.heap.size, 5, none⟩) (fun h => absurd h (Nat.lt_irrefl _)) _).setCell (p := ⟨w.heap.size, 6, none⟩) (fun h => absurd h (Nat.lt_irrefl _)) _
  have R2 : R3 w2 (w.heap.size + 1) := by
    obtain ⟨c0, c1, c2, y0, y1, y2⟩ := R0
    rw [hw2]
    refine ⟨?_, ?_, ?_, ?_, ?_, ?_⟩ <;> go_simp
  have m2 : w2.cell? ⟨mb, 0, none⟩ = some (.iface 187 (.agg #[.int .i64 p])) := by rw [hw2]; go_simp
  have e0 : w2.cell? ⟨w.heap.size, 0, none⟩ = some (.int .i64 mine) := by rw [hw2]; go_simp
  have e1 : w2.cell? ⟨w.heap.size, 1, none⟩ = some (.int .i64 theirs) := by rw [hw2]; go_simp
  have e2 : w2.cell? ⟨w.heap.size, 2, none⟩ = some (.int .i64 born) := by rw [hw2]; go_simp
  have e3 : w2.cell? ⟨w.heap.size, 3, none⟩ = some (.int .i64 enemy) := by rw [hw2]; go_simp
  have e4 : w2.cell? ⟨w.heap.size, 4, none⟩ = some (.bool flag) := by rw [hw2]; go_simp
  have e5 : w2.cell? ⟨w.heap.size, 5, none⟩ = some (.int .i64 T) := by rw [hw2]; go_simp
  have e6 : w2.cell? ⟨w.heap.size, 6, none⟩ = some (.int .i64 X) := by rw [hw2]; go_simp
  have e7 : w2.cell? ⟨w.heap.size, 7, none⟩ = some (.int .i64 draw) := by rw [hw2]; go_simp
  clear hw2 K0 m0 R0 d0 d1 d2 d3 d4 d5 d6 d7 z5 z6 hT hX hT' hX'
  have hme : ∀ w : World, (method 361 187 (.agg #[.int .i64 p]) "braid/cm.judge").run Tryz.prog w = .ok (210, .agg #[.int .i64 p]) w := fun _ => by kernel_rfl
  go_region_held3 (fun w' => w'.cell? ⟨mb, 0, none⟩ = some (.iface 187 (.agg #[.int .i64 p])) ∧ w'.cell? ⟨w.heap.size, 0, none⟩ = some (.int .i64 mine) ∧ w'.cell? ⟨w.heap.size, 1, none⟩ = some (.int .i64 theirs) ∧ w'.cell? ⟨w.heap.size, 2, none⟩ = some (.int .i64 born) ∧ w'.cell? ⟨w.heap.size, 3, none⟩ = some (.int .i64 enemy) ∧ w'.cell? ⟨w.heap.size, 4, none⟩ = some (.bool flag) ∧ w'.cell? ⟨w.heap.size, 5, none⟩ = some (.int .i64 T) ∧ w'.cell? ⟨w.heap.size, 6, none⟩ = some (.int .i64 X) ∧ w'.cell? ⟨w.heap.size, 7, none⟩ = some (.int .i64 draw)) (go_keep) ((go_at_call 210; refine (hj _).mono ?_; rintro e w3 ⟨rfl, k3⟩; have k4 : Keeps (fun _ => False) w2 w3 := ((Keeps.refl _ w2).drew).trans k3; replace K2 := K2.trans k4; obtain ⟨c0, c1, c2, y0, y1, y2⟩ := R2.keep k4; have m3 := k4.cell m2 id; have f0 := k4.cell e0 id; have f1 := k4.cell e1 id; have f2 := k4.cell e2 id; have f3 := k4.cell e3 id; have f4 := k4.cell e4 id; have f5 := k4.cell e5 id; have f6 := k4.cell e6 id; have f7 := k4.cell e7 id))
  go_wp2_with fail
  refine bodyPost_ret (v := .agg #[.bool va, .bool vt, .int .i64 vn]) ?_ rfl ⟨rfl, end3 K2 (by omega) _ _ _⟩
  rw [results_cell1 rfl]
  go_simp
set_option maxHeartbeats 3200000 in
set_option maxRecDepth 1000000 in
theorem judge3 {w : World} {mb : Nat} {p : Int} (hm : w.cell? ⟨mb, 0, none⟩ = some (.iface 188 (.agg #[.int .i64 p]))) (hp : Pat p) (c : Cf) (hc : c.ok) :
    Calls Tryz.prog 164 #[.pointer (some ⟨mb, 0, none⟩), cfv c] w fun e w' => e = .returned (vdv (judgev 3 p c.norm)) ∧ Keeps (fun _ => False) w w' := by
  have hj := fun W => meth3 W hp c.norm (norm_ok hc) (by simp only [Cf.norm]; omega) (by simp only [Cf.norm]; omega)
  obtain ⟨mine, theirs, born, enemy, flag, tries, waited, draw⟩ := c
  have hT : Hid ((if tries < 0 then 0 else tries) = max tries 0) := by show _ = _; split <;> omega
  have hX : Hid ((if waited < 0 then 0 else waited) = max waited 0) := by show _ = _; split <;> omega
  simp only [Cf.norm, cfv] at *
  generalize judgev 3 p _ = V at *
  generalize max tries 0 = T at *
  generalize max waited 0 = X at *
  obtain ⟨va, vt, vn⟩ := V
  simp only [vdv] at *
  have hmb := World.block_lt_of_cell? w _ hm
  obtain ⟨w0, hw0⟩ : ∃ w0, w0 = (w.alloc (.cells #[.int .i64 mine, .int .i64 theirs, .int .i64 born, .int .i64 enemy, .bool flag, .int .i64 tries, .int .i64 waited, .int .i64 draw] 229)).alloc (.cells #[.bool false, .bool false, .int .i64 0] 233) := ⟨_, rfl⟩
  have K0 : Keeps (fun _ => False) w w0 := by rw [hw0]; exact ((Keeps.refl _ w).alloc _).alloc _
  have m0 := K0.cell hm id
  have R0 : R3 w0 (w.heap.size + 1) := by rw [hw0]; exact R3.mk1 _ (by simp)
  have d0 : w0.cell? ⟨w.heap.size, 0, none⟩ = some (.int .i64 mine) := by rw [hw0]; go_simp
  have d1 : w0.cell? ⟨w.heap.size, 1, none⟩ = some (.int .i64 theirs) := by rw [hw0]; go_simp
  have d2 : w0.cell? ⟨w.heap.size, 2, none⟩ = some (.int .i64 born) := by rw [hw0]; go_simp
  have d3 : w0.cell? ⟨w.heap.size, 3, none⟩ = some (.int .i64 enemy) := by rw [hw0]; go_simp
  have d4 : w0.cell? ⟨w.heap.size, 4, none⟩ = some (.bool flag) := by rw [hw0]; go_simp
  have d5 : w0.cell? ⟨w.heap.size, 5, none⟩ = some (.int .i64 tries) := by rw [hw0]; go_simp
  have d6 : w0.cell? ⟨w.heap.size, 6, none⟩ = some (.int .i64 waited) := by rw [hw0]; go_simp
  have d7 : w0.cell? ⟨w.heap.size, 7, none⟩ = some (.int .i64 draw) := by rw [hw0]; go_simp
  have zz : ∀ o, w0.frozen? ⟨w.heap.size, o, none⟩ = false := by intro o; rw [hw0]; go_simp
  have z5 := zz 5
  have z6 := zz 6
  have nb1 : ¬ (mb = w.heap.size) := by show ¬ _; have : mb < w.heap.size := hmb; omega
  have nb2 : ¬ (w.heap.size = mb) := fun e => nb1 e.symm
  have nb3 : ¬ (mb = w.heap.size + 1) := by have : mb < w.heap.size := hmb; omega
  have nb4 : ¬ (w.heap.size + 1 = mb) := fun e => nb3 e.symm
  have nb5 : ¬ (w.heap.size = w.heap.size + 1) := by omega
  have nb6 : ¬ (w.heap.size + 1 = w.heap.size) := by omega
  have hi := isNone_no m0
  clear hm hmb hc
  have hT' := hT.out
  have hX' := hX.out
  go_enter Tryz.func164, Tryz.ntmps164
  go_wp2_with fail
  rw [← hw0]
  clear hw0 zz
  refine hi.mono ?_
  clear hi
  rintro e w1 ⟨rfl, rfl⟩
  go_wp2_with fail
  obtain ⟨w2, hw2⟩ : ∃ w2, w2 = (w1.setCell ⟨w.heap.size, 5, none⟩ (.int .i64 T)).setCell ⟨w.heap.size, 6, none⟩ (.int .i64 X) := ⟨_, rfl⟩
  rw [← hw2]
  have K2 : Keeps (fun _ => False) w w2 := by rw [hw2]; exact (K0.setCell (p := ⟨w.heap.size, 5, none⟩) (fun h => absurd h (Nat.lt_irrefl _)) _).setCell (p := ⟨w.heap.size, 6, none⟩) (fun h => absurd h (Nat.lt_irrefl _)) _
  have R2 : R3 w2 (w.heap.size + 1) := by
    obtain ⟨c0, c1, c2, y0, y1, y2⟩ := R0
    rw [hw2]
    refine ⟨?_, ?_, ?_, ?_, ?_, ?_⟩ <;> go_simp
  have m2 : w2.cell? ⟨mb, 0, none⟩ = some (.iface 188 (.agg #[.int .i64 p])) := by rw [hw2]; go_simp
  have e0 : w2.cell? ⟨w.heap.size, 0, none⟩ = some (.int .i64 mine) := by rw [hw2]; go_simp
  have e1 : w2.cell? ⟨w.heap.size, 1, none⟩ = some (.int .i64 theirs) := by rw [hw2]; go_simp
  have e2 : w2.cell? ⟨w.heap.size, 2, none⟩ = some (.int .i64 born) := by rw [hw2]; go_simp
  have e3 : w2.cell? ⟨w.heap.size, 3, none⟩ = some (.int .i64 enemy) := by rw [hw2]; go_simp
  have e4 : w2.cell? ⟨w.heap.size, 4, none⟩ = some (.bool flag) := by rw [hw2]; go_simp
  have e5 : w2.cell? ⟨w.heap.size, 5, none⟩ = some (.int .i64 T) := by rw [hw2]; go_simp
  have e6 : w2.cell? ⟨w.heap.size, 6, none⟩ = some (.int .i64 X) := by rw [hw2]; go_simp
  have e7 : w2.cell? ⟨w.heap.size, 7, none⟩ = some (.int .i64 draw) := by rw [hw2]; go_simp
  clear hw2 K0 m0 R0 d0 d1 d2 d3 d4 d5 d6 d7 z5 z6 hT hX hT' hX'
  have hme : ∀ w : World, (method 361 188 (.agg #[.int .i64 p]) "braid/cm.judge").run Tryz.prog w = .ok (212, .agg #[.int .i64 p]) w := fun _ => by kernel_rfl
  go_region_held3 (fun w' => w'.cell? ⟨mb, 0, none⟩ = some (.iface 188 (.agg #[.int .i64 p])) ∧ w'.cell? ⟨w.heap.size, 0, none⟩ = some (.int .i64 mine) ∧ w'.cell? ⟨w.heap.size, 1, none⟩ = some (.int .i64 theirs) ∧ w'.cell? ⟨w.heap.size, 2, none⟩ = some (.int .i64 born) ∧ w'.cell? ⟨w.heap.size, 3, none⟩ = some (.int .i64 enemy) ∧ w'.cell? ⟨w.heap.size, 4, none⟩ = some (.bool flag) ∧ w'.cell? ⟨w.heap.size, 5, none⟩ = some (.int .i64 T) ∧ w'.cell? ⟨w.heap.size, 6, none⟩ = some (.int .i64 X) ∧ w'.cell? ⟨w.heap.size, 7, none⟩ = some (.int .i64 draw)) (go_keep) ((go_at_call 212; refine (hj _).mono ?_; rintro e w3 ⟨rfl, k3⟩; have k4 : Keeps (fun _ => False) w2 w3 := ((Keeps.refl _ w2).drew).trans k3; replace K2 := K2.trans k4; obtain ⟨c0, c1, c2, y0, y1, y2⟩ := R2.keep k4; have m3 := k4.cell m2 id; have f0 := k4.cell e0 id; have f1 := k4.cell e1 id; have f2 := k4.cell e2 id; have f3 := k4.cell e3 id; have f4 := k4.cell e4 id; have f5 := k4.cell e5 id; have f6 := k4.cell e6 id; have f7 := k4.cell e7 id))
  go_wp2_with fail
  refine bodyPost_ret (v := .agg #[.bool va, .bool vt, .int .i64 vn]) ?_ rfl ⟨rfl, end3 K2 (by omega) _ _ _⟩
  rw [results_cell1 rfl]
  go_simp
set_option maxHeartbeats 3200000 in
set_option maxRecDepth 1000000 in
theorem judge4 {w : World} {mb : Nat} {p : Int} (hm : w.cell? ⟨mb, 0, none⟩ = some (.iface 190 (.agg #[.int .i64 p]))) (_hp : Pat p) (c : Cf) (hc : c.ok) :
    Calls Tryz.prog 164 #[.pointer (some ⟨mb, 0, none⟩), cfv c] w fun e w' => e = .returned (vdv (judgev 4 p c.norm)) ∧ Keeps (fun _ => False) w w' := by
  have hj := fun W => meth4 W (p := p) c.norm
  obtain ⟨mine, theirs, born, enemy, flag, tries, waited, draw⟩ := c
  have hT : Hid ((if tries < 0 then 0 else tries) = max tries 0) := by show _ = _; split <;> omega
  have hX : Hid ((if waited < 0 then 0 else waited) = max waited 0) := by show _ = _; split <;> omega
  simp only [Cf.norm, cfv] at *
  generalize judgev 4 p _ = V at *
  generalize max tries 0 = T at *
  generalize max waited 0 = X at *
  obtain ⟨va, vt, vn⟩ := V
  simp only [vdv] at *
  have hmb := World.block_lt_of_cell? w _ hm
  obtain ⟨w0, hw0⟩ : ∃ w0, w0 = (w.alloc (.cells #[.int .i64 mine, .int .i64 theirs, .int .i64 born, .int .i64 enemy, .bool flag, .int .i64 tries, .int .i64 waited, .int .i64 draw] 229)).alloc (.cells #[.bool false, .bool false, .int .i64 0] 233) := ⟨_, rfl⟩
  have K0 : Keeps (fun _ => False) w w0 := by rw [hw0]; exact ((Keeps.refl _ w).alloc _).alloc _
  have m0 := K0.cell hm id
  have R0 : R3 w0 (w.heap.size + 1) := by rw [hw0]; exact R3.mk1 _ (by simp)
  have d0 : w0.cell? ⟨w.heap.size, 0, none⟩ = some (.int .i64 mine) := by rw [hw0]; go_simp
  have d1 : w0.cell? ⟨w.heap.size, 1, none⟩ = some (.int .i64 theirs) := by rw [hw0]; go_simp
  have d2 : w0.cell? ⟨w.heap.size, 2, none⟩ = some (.int .i64 born) := by rw [hw0]; go_simp
  have d3 : w0.cell? ⟨w.heap.size, 3, none⟩ = some (.int .i64 enemy) := by rw [hw0]; go_simp
  have d4 : w0.cell? ⟨w.heap.size, 4, none⟩ = some (.bool flag) := by rw [hw0]; go_simp
  have d5 : w0.cell? ⟨w.heap.size, 5, none⟩ = some (.int .i64 tries) := by rw [hw0]; go_simp
  have d6 : w0.cell? ⟨w.heap.size, 6, none⟩ = some (.int .i64 waited) := by rw [hw0]; go_simp
  have d7 : w0.cell? ⟨w.heap.size, 7, none⟩ = some (.int .i64 draw) := by rw [hw0]; go_simp
  have zz : ∀ o, w0.frozen? ⟨w.heap.size, o, none⟩ = false := by intro o; rw [hw0]; go_simp
  have z5 := zz 5
  have z6 := zz 6
  have nb1 : ¬ (mb = w.heap.size) := by show ¬ _; have : mb < w.heap.size := hmb; omega
  have nb2 : ¬ (w.heap.size = mb) := fun e => nb1 e.symm
  have nb3 : ¬ (mb = w.heap.size + 1) := by have : mb < w.heap.size := hmb; omega
  have nb4 : ¬ (w.heap.size + 1 = mb) := fun e => nb3 e.symm
  have nb5 : ¬ (w.heap.size = w.heap.size + 1) := by omega
  have nb6 : ¬ (w.heap.size + 1 = w.heap.size) := by omega
  have hi := isNone_no m0
  clear hm hmb hc
  have hT' := hT.out
  have hX' := hX.out
  go_enter Tryz.func164, Tryz.ntmps164
  go_wp2_with fail
  rw [← hw0]
  clear hw0 zz
  refine hi.mono ?_
  clear hi
  rintro e w1 ⟨rfl, rfl⟩
  go_wp2_with fail
  obtain ⟨w2, hw2⟩ : ∃ w2, w2 = (w1.setCell ⟨w.heap.size, 5, none⟩ (.int .i64 T)).setCell ⟨w.heap.size, 6, none⟩ (.int .i64 X) := ⟨_, rfl⟩
  rw [← hw2]
  have K2 : Keeps (fun _ => False) w w2 := by rw [hw2]; exact (K0.setCell (p := ⟨w.heap.size, 5, none⟩) (fun h => absurd h (Nat.lt_irrefl _)) _).setCell (p := ⟨w.heap.size, 6, none⟩) (fun h => absurd h (Nat.lt_irrefl _)) _
  have R2 : R3 w2 (w.heap.size + 1) := by
    obtain ⟨c0, c1, c2, y0, y1, y2⟩ := R0
    rw [hw2]
    refine ⟨?_, ?_, ?_, ?_, ?_, ?_⟩ <;> go_simp
  have m2 : w2.cell? ⟨mb, 0, none⟩ = some (.iface 190 (.agg #[.int .i64 p])) := by rw [hw2]; go_simp
  have e0 : w2.cell? ⟨w.heap.size, 0, none⟩ = some (.int .i64 mine) := by rw [hw2]; go_simp
  have e1 : w2.cell? ⟨w.heap.size, 1, none⟩ = some (.int .i64 theirs) := by rw [hw2]; go_simp
  have e2 : w2.cell? ⟨w.heap.size, 2, none⟩ = some (.int .i64 born) := by rw [hw2]; go_simp
  have e3 : w2.cell? ⟨w.heap.size, 3, none⟩ = some (.int .i64 enemy) := by rw [hw2]; go_simp
  have e4 : w2.cell? ⟨w.heap.size, 4, none⟩ = some (.bool flag) := by rw [hw2]; go_simp
  have e5 : w2.cell? ⟨w.heap.size, 5, none⟩ = some (.int .i64 T) := by rw [hw2]; go_simp
  have e6 : w2.cell? ⟨w.heap.size, 6, none⟩ = some (.int .i64 X) := by rw [hw2]; go_simp
  have e7 : w2.cell? ⟨w.heap.size, 7, none⟩ = some (.int .i64 draw) := by rw [hw2]; go_simp
  clear hw2 K0 m0 R0 d0 d1 d2 d3 d4 d5 d6 d7 z5 z6 hT hX hT' hX'
  have hme : ∀ w : World, (method 361 190 (.agg #[.int .i64 p]) "braid/cm.judge").run Tryz.prog w = .ok (214, .agg #[.int .i64 p]) w := fun _ => by kernel_rfl
  go_region_held3 (fun w' => w'.cell? ⟨mb, 0, none⟩ = some (.iface 190 (.agg #[.int .i64 p])) ∧ w'.cell? ⟨w.heap.size, 0, none⟩ = some (.int .i64 mine) ∧ w'.cell? ⟨w.heap.size, 1, none⟩ = some (.int .i64 theirs) ∧ w'.cell? ⟨w.heap.size, 2, none⟩ = some (.int .i64 born) ∧ w'.cell? ⟨w.heap.size, 3, none⟩ = some (.int .i64 enemy) ∧ w'.cell? ⟨w.heap.size, 4, none⟩ = some (.bool flag) ∧ w'.cell? ⟨w.heap.size, 5, none⟩ = some (.int .i64 T) ∧ w'.cell? ⟨w.heap.size, 6, none⟩ = some (.int .i64 X) ∧ w'.cell? ⟨w.heap.size, 7, none⟩ = some (.int .i64 draw)) (go_keep) ((go_at_call 214; refine (hj _).mono ?_; rintro e w3 ⟨rfl, k3⟩; have k4 : Keeps (fun _ => False) w2 w3 := ((Keeps.refl _ w2).drew).trans k3; replace K2 := K2.trans k4; obtain ⟨c0, c1, c2, y0, y1, y2⟩ := R2.keep k4; have m3 := k4.cell m2 id; have f0 := k4.cell e0 id; have f1 := k4.cell e1 id; have f2 := k4.cell e2 id; have f3 := k4.cell e3 id; have f4 := k4.cell e4 id; have f5 := k4.cell e5 id; have f6 := k4.cell e6 id; have f7 := k4.cell e7 id))
  go_wp2_with fail
  refine bodyPost_ret (v := .agg #[.bool va, .bool vt, .int .i64 vn]) ?_ rfl ⟨rfl, end3 K2 (by omega) _ _ _⟩
  rw [results_cell1 rfl]
  go_simp
def kt (k : Nat) : TypeId := match k with | 0 => 185 | 1 => 186 | 2 => 187 | 3 => 188 | _ => 190
def Mg (w : World) (b k : Nat) (p : Int) : Prop := k < 5 ∧ Pat p ∧ w.cell? ⟨b, 0, none⟩ = some (.iface (kt k) (.agg #[.int .i64 p]))
theorem Mg.keep {w w' : World} {b k : Nat} {p : Int} (h : Mg w b k p) (K : Keeps (fun _ => False) w w') : Mg w' b k p := ⟨h.1, h.2.1, K.cell h.2.2 id⟩
theorem judge_any {w : World} {mb k : Nat} {p : Int} (h : Mg w mb k p) (c : Cf) (hc : c.ok) :
    Calls Tryz.prog 164 #[.pointer (some ⟨mb, 0, none⟩), cfv c] w fun e w' => e = .returned (vdv (judgev k p c.norm)) ∧ Keeps (fun _ => False) w w' := by
  obtain ⟨hk, hp, hm⟩ := h
  match k, hk with
  | 0, _ => exact judge0 hm hp c hc
  | 1, _ => exact judge1 hm hp c hc
  | 2, _ => exact judge2 hm hp c hc
  | 3, _ => exact judge3 hm hp c hc
  | 4, _ => exact judge4 hm hp c hc
end Go.Proofs.YtgjndhbfjofkeaaGreatDoor.CM

