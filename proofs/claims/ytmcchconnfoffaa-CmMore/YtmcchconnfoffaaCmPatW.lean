import Derived.Test.YtmcchconnfoffaaCmP
import Derived.Test.YtmcchconnfoffaaCmOpen
namespace Go.Proofs.Ytmcchconnfoffaa
open Go.RowKit
/-- A number's lowest three bits, as a kind. -/
theorem and7 (a : Int) : ∃ n : Nat, n < 8 ∧ bits .and .i64 a 7 = (n : Int) := by
  have h := low_and 3 (by omega) a
  have h1 := lowz_nn 3 a
  have h2 := lowz_lt 3 a
  exact ⟨(lowz 3 a).toNat, by omega, by rw [Int.toNat_of_nonneg h1]; exact h⟩
/-- A conflict in a block, a verdict in a block. -/
def CB (w : World) (b : Nat) (c : Cf) : Prop :=
  w.cell? ⟨b, 0, none⟩ = some (.int .i64 c.mine) ∧ w.cell? ⟨b, 1, none⟩ = some (.int .i64 c.theirs) ∧ w.cell? ⟨b, 2, none⟩ = some (.int .i64 c.born) ∧ w.cell? ⟨b, 3, none⟩ = some (.int .i64 c.enemy) ∧ w.cell? ⟨b, 4, none⟩ = some (.bool c.flag) ∧ w.cell? ⟨b, 5, none⟩ = some (.int .i64 c.tries) ∧ w.cell? ⟨b, 6, none⟩ = some (.int .i64 c.waited) ∧ w.cell? ⟨b, 7, none⟩ = some (.int .i64 c.draw)
theorem CB.keep {w w' : World} {b : Nat} {c : Cf} (h : CB w b c) (k : Keeps (fun _ => False) w w') : CB w' b c :=
  ⟨k.cell h.1 id, k.cell h.2.1 id, k.cell h.2.2.1 id, k.cell h.2.2.2.1 id, k.cell h.2.2.2.2.1 id, k.cell h.2.2.2.2.2.1 id, k.cell h.2.2.2.2.2.2.1 id, k.cell h.2.2.2.2.2.2.2 id⟩
theorem CB.mk (w : World) (c : Cf) : CB (w.alloc (.cells #[.int .i64 c.mine, .int .i64 c.theirs, .int .i64 c.born, .int .i64 c.enemy, .bool c.flag, .int .i64 c.tries, .int .i64 c.waited, .int .i64 c.draw] 25)) w.heap.size c := by
  refine ⟨?_, ?_, ?_, ?_, ?_, ?_, ?_, ?_⟩ <;> simp
def VB (w : World) (b : Nat) (v : Vd) : Prop :=
  w.cell? ⟨b, 0, none⟩ = some (.bool v.a) ∧ w.cell? ⟨b, 1, none⟩ = some (.bool v.t) ∧ w.cell? ⟨b, 2, none⟩ = some (.int .i64 v.n)
theorem VB.keep {w w' : World} {b : Nat} {v : Vd} (h : VB w b v) (k : Keeps (fun _ => False) w w') : VB w' b v := ⟨k.cell h.1 id, k.cell h.2.1 id, k.cell h.2.2 id⟩
theorem VB.mk (w : World) (v : Vd) : VB (w.alloc (.cells #[.bool v.a, .bool v.t, .int .i64 v.n] 27)) w.heap.size v := by
  refine ⟨?_, ?_, ?_⟩ <;> simp
theorem judge_x {W : World} {b K : Nat} {p : Int} (M : Mg W b K p) {mine theirs born enemy : Int} {flag : Bool} {tries waited draw : Int} (hc : Cf.ok ⟨mine, theirs, born, enemy, flag, tries, waited, draw⟩) {va vt : Bool} {vn : Int} (hv : judgev K p (Cf.norm ⟨mine, theirs, born, enemy, flag, tries, waited, draw⟩) = ⟨va, vt, vn⟩) :
    Calls Try.prog 8 #[.pointer (some ⟨b, 0, none⟩), .agg #[.int .i64 mine, .int .i64 theirs, .int .i64 born, .int .i64 enemy, .bool flag, .int .i64 tries, .int .i64 waited, .int .i64 draw]] W fun e w' => e = .returned (.agg #[.bool va, .bool vt, .int .i64 vn]) ∧ Keeps (fun _ => False) W w' := by
  have h := judge_any M _ hc
  rw [hv] at h
  exact h
theorem formed_x (W : World) {K : Nat} (hK : K < 5) {va vt : Bool} {vn : Int} (hv : Fm K ⟨va, vt, vn⟩) :
    Calls Try.prog 11 #[.agg #[.bool va, .bool vt, .int .i64 vn], .int .i64 (K : Int)] W fun e w' => e = .returned (.bool true) ∧ Keeps (fun _ => False) W w' := by
  have h := formed_ok W hK hv
  simp only [vdv] at h
  exact h
/-- What patience does. -/
theorem patient_law {K : Nat} (hK : K < 5) (p : Int) (c : Cf) : (judgev K 4096 (Cf.norm { c with waited := 0 }) = .ab ∧ judgev K p c.norm = .ab) ∨ (K = 4 ∧ ∃ n, judgev K 4096 (Cf.norm { c with waited := 0 }) = .wt n ∧ judgev K p c.norm = .wt n) ∨ (K < 4 ∧ ∃ n, 1 ≤ n ∧ n ≤ 128 ∧ judgev K 4096 (Cf.norm { c with waited := 0 }) = .wt n ∧ judgev K p c.norm = cutv p n (max c.waited 0)) := by
  rw [judge_rul hK, judge_rul hK]
  have e1 : rulv K (Cf.norm { c with waited := 0 }) = rulv K c.norm := (rul_waited hK c.norm 0)
  rw [e1]
  cases hr : rulv K c.norm with
  | none => exact .inl ⟨rfl, rfl⟩
  | some n =>
    have hn := rul_form hK (by simp only [Cf.norm]; omega) hr
    have hl : lng K ≤ 128 := by match K, hK with | 0, _ | 1, _ | 2, _ | 3, _ | 4, _ => simp [lng]
    by_cases h4 : K < 4
    · refine .inr (.inr ⟨h4, n, hn.1, by omega, ?_, ?_⟩)
      · simp only [h4, if_true]
        rw [cut_wt (by simp [Cf.norm])]
        congr 1
        simp [Cf.norm]
        omega
      · simp only [h4, if_true, Cf.norm]
    · refine .inr (.inl ⟨by omega, n, ?_, ?_⟩) <;> simp [h4]

theorem pat_pre {K : Nat} (hK : K < 5) (p : Int) (c : Cf) : ∃ V U : Vd, judgev K 4096 (Cf.norm { c with waited := 0 }) = V ∧ judgev K p c.norm = U ∧ Fm K V ∧ Hid ((V = .ab ∧ U = .ab) ∨ (K = 4 ∧ ∃ n, V = .wt n ∧ U = .wt n) ∨ (K < 4 ∧ ∃ n, 1 ≤ n ∧ n ≤ 128 ∧ V = .wt n ∧ U = cutv p n (max c.waited 0))) :=
  ⟨_, _, rfl, rfl, judge_form hK _ _ (by simp only [Cf.norm]; omega), patient_law hK p c⟩
set_option maxHeartbeats 8000000 in
set_option maxRecDepth 1000000 in
theorem patientWalk0 {ki pa : Int} {kk K : Nat} {p : Int} (ek : bits .and .i64 ki 7 = (kk : Int)) (hK : K < 5) (hkk : (4 < kk ∧ K = 1) ∨ (kk ≤ 4 ∧ K = kk)) (hp : Pat p) (hpp : pa < 1 ∧ p = 7 ∨ (¬ pa < 1 ∧ 4096 < pa) ∧ p = 7 ∨ (¬ pa < 1 ∧ ¬ 4096 < pa) ∧ p = pa) {mine theirs born enemy : Int} {flag : Bool} {tries waited draw : Int} (hc : Cf.ok ⟨mine, theirs, born, enemy, flag, tries, waited, draw⟩) (w : World) : Calls Try.prog 6 #[.int .i64 ki, .int .i64 pa, .agg #[.int .i64 mine, .int .i64 theirs, .int .i64 born, .int .i64 enemy, .bool flag, .int .i64 tries, .int .i64 waited, .int .i64 draw]] w fun e w' => e = .returned (.bool true) ∧ Below w.heap.size w w' := by
  have hm1 := fun W => manager_any W (k := K) (p := 4096) hK ⟨by omega, by omega⟩
  have hm2 := fun W => manager_any W hK hp
  obtain ⟨⟨va, vt, vn⟩, ⟨ua, ut, un⟩, hV, hU, hfo, HC⟩ := pat_pre hK p ⟨mine, theirs, born, enemy, flag, tries, waited, draw⟩
  have hwt : I64 waited := hc.2.2.2.2.2.1
  have hc0 : Cf.ok ⟨mine, theirs, born, enemy, flag, tries, 0, draw⟩ := ⟨hc.1, hc.2.1, hc.2.2.1, hc.2.2.2.1, hc.2.2.2.2.1, ⟨by simp, by simp⟩, hc.2.2.2.2.2.2⟩
  have hj1 := fun W b (M : Mg W b K 4096) => judge_x M hc0 hV
  have hj2 := fun W b (M : Mg W b K p) => judge_x M hc hU
  have hf := fun W => formed_x W hK hfo
  clear hV hU hfo hc hp hc0
  obtain ⟨w0, hw0⟩ : ∃ w0, w0 = w.alloc (.cells #[.int .i64 mine, .int .i64 theirs, .int .i64 born, .int .i64 enemy, .bool flag, .int .i64 tries, .int .i64 waited, .int .i64 draw] 25) := ⟨_, rfl⟩
  have C0 : CB w0 w.heap.size ⟨mine, theirs, born, enemy, flag, tries, waited, draw⟩ := by rw [hw0]; exact CB.mk w ⟨mine, theirs, born, enemy, flag, tries, waited, draw⟩
  have K0 : Keeps (fun _ => False) w w0 := by rw [hw0]; exact (Keeps.refl _ w).alloc _
  rcases hkk with ⟨h4, rfl⟩ | ⟨h4, rfl⟩
  · simp only [show ((1 : Nat) : Int) = 1 from rfl] at hm1 hm2 hf
    rcases hpp with ⟨h, rfl⟩ | ⟨⟨h, h2⟩, rfl⟩ | ⟨⟨h, h2⟩, rfl⟩
    · go_enter Try.func6, Try.ntmps6
      go_wp2_with fail
      rw [← hw0]
      clear hw0
      refine (hm1 _).mono ?_
      clear hm1
      rintro e w1 ⟨b1, rfl, hb1, M1, k1⟩
      go_wp2_with fail
      refine (hm2 _).mono ?_
      clear hm2
      rintro e w2 ⟨b2, rfl, hb2, M2, k2⟩
      have hpt := patience_any M2
      have C2 := (C0.keep k1).keep k2
      have K2 := (K0.trans k1).trans k2
      replace M1 := M1.keep k2
      clear C0 K0 k1 k2 hb1 hb2
      go_wp2_with fail
      refine hpt.mono ?_
      clear hpt
      rintro e w3 ⟨rfl, k3⟩
      replace C2 := C2.keep k3
      replace K2 := K2.trans k3
      replace M1 := M1.keep k3
      replace M2 := M2.keep k3
      clear k3
      have ⟨d0, d1, d2, d3, d4, d5, d6, d7⟩ := C2
      go_wp2_with fail
      refine (hj1 _ b1 (M1.keep ((Keeps.refl _ w3).alloc _))).mono ?_
      clear hj1 d0 d1 d2 d3 d4 d5 d6 d7
      rintro e w5 ⟨rfl, k5⟩
      have k5' := ((Keeps.refl (fun _ => False) w3).alloc _).trans k5
      have C5 := C2.keep k5'
      have K5 := K2.trans k5'
      have M5 := M2.keep k5'
      clear C2 K2 M2 M1 k5 k5'
      have d0 := fun ob => (C5.keep ((Keeps.refl _ w5).alloc ob)).1
      have d1 := fun ob => (C5.keep ((Keeps.refl _ w5).alloc ob)).2.1
      have d2 := fun ob => (C5.keep ((Keeps.refl _ w5).alloc ob)).2.2.1
      have d3 := fun ob => (C5.keep ((Keeps.refl _ w5).alloc ob)).2.2.2.1
      have d4 := fun ob => (C5.keep ((Keeps.refl _ w5).alloc ob)).2.2.2.2.1
      have d5 := fun ob => (C5.keep ((Keeps.refl _ w5).alloc ob)).2.2.2.2.2.1
      have d6 := fun ob => (C5.keep ((Keeps.refl _ w5).alloc ob)).2.2.2.2.2.2.1
      have d7 := fun ob => (C5.keep ((Keeps.refl _ w5).alloc ob)).2.2.2.2.2.2.2
      go_wp2_with fail
      refine (hj2 _ b2 (M5.keep ((Keeps.refl _ w5).alloc _))).mono ?_
      clear hj2 d0 d1 d2 d3 d4 d5 d6 d7
      rintro e w7 ⟨rfl, k7⟩
      have V7 := (VB.mk w5 ⟨va, vt, vn⟩).keep k7
      have k7' := ((Keeps.refl (fun _ => False) w5).alloc _).trans k7
      have C7 := C5.keep k7'
      have K7 := K5.trans k7'
      clear C5 K5 M5 k7 k7'
      have e0 := fun ob => (V7.keep ((Keeps.refl _ w7).alloc ob)).1
      have e1 := fun ob => (V7.keep ((Keeps.refl _ w7).alloc ob)).2.1
      have e2 := fun ob => (V7.keep ((Keeps.refl _ w7).alloc ob)).2.2
      go_wp2_with fail
      refine (hf _).mono ?_
      clear hf e0 e1 e2
      rintro e w9 ⟨rfl, k9⟩
      have U9 := (VB.mk w7 ⟨ua, ut, un⟩).keep k9
      have k9' := ((Keeps.refl (fun _ => False) w7).alloc _).trans k9
      have V9 := V7.keep k9'
      have C9 := (C7.keep k9').2.2.2.2.2.2.1
      have K9 := K7.trans k9'
      clear C7 V7 K7 k9 k9'
      obtain ⟨u0, u1, u2⟩ := U9
      obtain ⟨v0, v1, v2⟩ := V9
      have hw1 := hwt.1
      have hw2 := hwt.2
      have BB := K9.below (Nat.le_refl _) (fun _ _ e => e)
      clear hwt K9
      simp only at u0 u1 u2 v0 v1 v2 C9
      rcases HC.out with ⟨q1, q2⟩ | ⟨q3, n, q1, q2⟩ | ⟨q3, n, n1, n2, q1, q2⟩
      · clear HC
        simp only [Vd.ab, Vd.mk.injEq] at q1 q2
        obtain ⟨rfl, rfl, rfl⟩ := q1
        obtain ⟨rfl, rfl, rfl⟩ := q2
        by_cases hx : 0 < waited
        · go_wp2_with fail
          go_ret
          exact ⟨rfl, BB⟩
        · go_wp2_with fail
          go_ret
          exact ⟨rfl, BB⟩
      · clear HC
        exact absurd q3 (by omega)
      · clear HC
        skip
        simp only [Vd.wt, Vd.mk.injEq] at q1
        obtain ⟨rfl, rfl, rfl⟩ := q1
        by_cases hx : 0 < waited
        · rw [show max waited 0 = waited by omega] at q2
          by_cases hy : 7 - waited < 1
          · rw [cut_out hy] at q2
            simp only [Vd.out, Vd.mk.injEq] at q2
            obtain ⟨rfl, rfl, rfl⟩ := q2
            have hz : 7 - waited ≤ 0 := by omega
            go_wp2_with fail
            go_ret
            exact ⟨rfl, BB⟩
          · rw [cut_wt (by omega)] at q2
            have hz : ¬ 7 - waited ≤ 0 := by omega
            by_cases hm : vn < 7 - waited
            · rw [show min vn (7 - waited) = vn by omega] at q2
              simp only [Vd.wt, Vd.mk.injEq] at q2
              obtain ⟨rfl, rfl, rfl⟩ := q2
              go_wp2_with fail
              go_ret
              exact ⟨rfl, BB⟩
            · rw [show min vn (7 - waited) = 7 - waited by omega] at q2
              simp only [Vd.wt, Vd.mk.injEq] at q2
              obtain ⟨rfl, rfl, rfl⟩ := q2
              go_wp2_with fail
              go_ret
              exact ⟨rfl, BB⟩
        · rw [show max waited 0 = 0 by omega] at q2
          rw [cut_wt (by omega)] at q2
          by_cases hm : vn < 7
          · rw [show min vn (7 - 0) = vn by omega] at q2
            simp only [Vd.wt, Vd.mk.injEq] at q2
            obtain ⟨rfl, rfl, rfl⟩ := q2
            go_wp2_with fail
            go_ret
            exact ⟨rfl, BB⟩
          · rw [show min vn (7 - 0) = 7 by omega] at q2
            simp only [Vd.wt, Vd.mk.injEq] at q2
            obtain ⟨rfl, rfl, rfl⟩ := q2
            go_wp2_with fail
            go_ret
            exact ⟨rfl, BB⟩
    · go_enter Try.func6, Try.ntmps6
      go_wp2_with fail
      rw [← hw0]
      clear hw0
      refine (hm1 _).mono ?_
      clear hm1
      rintro e w1 ⟨b1, rfl, hb1, M1, k1⟩
      go_wp2_with fail
      refine (hm2 _).mono ?_
      clear hm2
      rintro e w2 ⟨b2, rfl, hb2, M2, k2⟩
      have hpt := patience_any M2
      have C2 := (C0.keep k1).keep k2
      have K2 := (K0.trans k1).trans k2
      replace M1 := M1.keep k2
      clear C0 K0 k1 k2 hb1 hb2
      go_wp2_with fail
      refine hpt.mono ?_
      clear hpt
      rintro e w3 ⟨rfl, k3⟩
      replace C2 := C2.keep k3
      replace K2 := K2.trans k3
      replace M1 := M1.keep k3
      replace M2 := M2.keep k3
      clear k3
      have ⟨d0, d1, d2, d3, d4, d5, d6, d7⟩ := C2
      go_wp2_with fail
      refine (hj1 _ b1 (M1.keep ((Keeps.refl _ w3).alloc _))).mono ?_
      clear hj1 d0 d1 d2 d3 d4 d5 d6 d7
      rintro e w5 ⟨rfl, k5⟩
      have k5' := ((Keeps.refl (fun _ => False) w3).alloc _).trans k5
      have C5 := C2.keep k5'
      have K5 := K2.trans k5'
      have M5 := M2.keep k5'
      clear C2 K2 M2 M1 k5 k5'
      have d0 := fun ob => (C5.keep ((Keeps.refl _ w5).alloc ob)).1
      have d1 := fun ob => (C5.keep ((Keeps.refl _ w5).alloc ob)).2.1
      have d2 := fun ob => (C5.keep ((Keeps.refl _ w5).alloc ob)).2.2.1
      have d3 := fun ob => (C5.keep ((Keeps.refl _ w5).alloc ob)).2.2.2.1
      have d4 := fun ob => (C5.keep ((Keeps.refl _ w5).alloc ob)).2.2.2.2.1
      have d5 := fun ob => (C5.keep ((Keeps.refl _ w5).alloc ob)).2.2.2.2.2.1
      have d6 := fun ob => (C5.keep ((Keeps.refl _ w5).alloc ob)).2.2.2.2.2.2.1
      have d7 := fun ob => (C5.keep ((Keeps.refl _ w5).alloc ob)).2.2.2.2.2.2.2
      go_wp2_with fail
      refine (hj2 _ b2 (M5.keep ((Keeps.refl _ w5).alloc _))).mono ?_
      clear hj2 d0 d1 d2 d3 d4 d5 d6 d7
      rintro e w7 ⟨rfl, k7⟩
      have V7 := (VB.mk w5 ⟨va, vt, vn⟩).keep k7
      have k7' := ((Keeps.refl (fun _ => False) w5).alloc _).trans k7
      have C7 := C5.keep k7'
      have K7 := K5.trans k7'
      clear C5 K5 M5 k7 k7'
      have e0 := fun ob => (V7.keep ((Keeps.refl _ w7).alloc ob)).1
      have e1 := fun ob => (V7.keep ((Keeps.refl _ w7).alloc ob)).2.1
      have e2 := fun ob => (V7.keep ((Keeps.refl _ w7).alloc ob)).2.2
      go_wp2_with fail
      refine (hf _).mono ?_
      clear hf e0 e1 e2
      rintro e w9 ⟨rfl, k9⟩
      have U9 := (VB.mk w7 ⟨ua, ut, un⟩).keep k9
      have k9' := ((Keeps.refl (fun _ => False) w7).alloc _).trans k9
      have V9 := V7.keep k9'
      have C9 := (C7.keep k9').2.2.2.2.2.2.1
      have K9 := K7.trans k9'
      clear C7 V7 K7 k9 k9'
      obtain ⟨u0, u1, u2⟩ := U9
      obtain ⟨v0, v1, v2⟩ := V9
      have hw1 := hwt.1
      have hw2 := hwt.2
      have BB := K9.below (Nat.le_refl _) (fun _ _ e => e)
      clear hwt K9
      simp only at u0 u1 u2 v0 v1 v2 C9
      rcases HC.out with ⟨q1, q2⟩ | ⟨q3, n, q1, q2⟩ | ⟨q3, n, n1, n2, q1, q2⟩
      · clear HC
        simp only [Vd.ab, Vd.mk.injEq] at q1 q2
        obtain ⟨rfl, rfl, rfl⟩ := q1
        obtain ⟨rfl, rfl, rfl⟩ := q2
        by_cases hx : 0 < waited
        · go_wp2_with fail
          go_ret
          exact ⟨rfl, BB⟩
        · go_wp2_with fail
          go_ret
          exact ⟨rfl, BB⟩
      · clear HC
        exact absurd q3 (by omega)
      · clear HC
        skip
        simp only [Vd.wt, Vd.mk.injEq] at q1
        obtain ⟨rfl, rfl, rfl⟩ := q1
        by_cases hx : 0 < waited
        · rw [show max waited 0 = waited by omega] at q2
          by_cases hy : 7 - waited < 1
          · rw [cut_out hy] at q2
            simp only [Vd.out, Vd.mk.injEq] at q2
            obtain ⟨rfl, rfl, rfl⟩ := q2
            have hz : 7 - waited ≤ 0 := by omega
            go_wp2_with fail
            go_ret
            exact ⟨rfl, BB⟩
          · rw [cut_wt (by omega)] at q2
            have hz : ¬ 7 - waited ≤ 0 := by omega
            by_cases hm : vn < 7 - waited
            · rw [show min vn (7 - waited) = vn by omega] at q2
              simp only [Vd.wt, Vd.mk.injEq] at q2
              obtain ⟨rfl, rfl, rfl⟩ := q2
              go_wp2_with fail
              go_ret
              exact ⟨rfl, BB⟩
            · rw [show min vn (7 - waited) = 7 - waited by omega] at q2
              simp only [Vd.wt, Vd.mk.injEq] at q2
              obtain ⟨rfl, rfl, rfl⟩ := q2
              go_wp2_with fail
              go_ret
              exact ⟨rfl, BB⟩
        · rw [show max waited 0 = 0 by omega] at q2
          rw [cut_wt (by omega)] at q2
          by_cases hm : vn < 7
          · rw [show min vn (7 - 0) = vn by omega] at q2
            simp only [Vd.wt, Vd.mk.injEq] at q2
            obtain ⟨rfl, rfl, rfl⟩ := q2
            go_wp2_with fail
            go_ret
            exact ⟨rfl, BB⟩
          · rw [show min vn (7 - 0) = 7 by omega] at q2
            simp only [Vd.wt, Vd.mk.injEq] at q2
            obtain ⟨rfl, rfl, rfl⟩ := q2
            go_wp2_with fail
            go_ret
            exact ⟨rfl, BB⟩
    · go_enter Try.func6, Try.ntmps6
      go_wp2_with fail
      rw [← hw0]
      clear hw0
      refine (hm1 _).mono ?_
      clear hm1
      rintro e w1 ⟨b1, rfl, hb1, M1, k1⟩
      go_wp2_with fail
      refine (hm2 _).mono ?_
      clear hm2
      rintro e w2 ⟨b2, rfl, hb2, M2, k2⟩
      have hpt := patience_any M2
      have C2 := (C0.keep k1).keep k2
      have K2 := (K0.trans k1).trans k2
      replace M1 := M1.keep k2
      clear C0 K0 k1 k2 hb1 hb2
      go_wp2_with fail
      refine hpt.mono ?_
      clear hpt
      rintro e w3 ⟨rfl, k3⟩
      replace C2 := C2.keep k3
      replace K2 := K2.trans k3
      replace M1 := M1.keep k3
      replace M2 := M2.keep k3
      clear k3
      have ⟨d0, d1, d2, d3, d4, d5, d6, d7⟩ := C2
      go_wp2_with fail
      refine (hj1 _ b1 (M1.keep ((Keeps.refl _ w3).alloc _))).mono ?_
      clear hj1 d0 d1 d2 d3 d4 d5 d6 d7
      rintro e w5 ⟨rfl, k5⟩
      have k5' := ((Keeps.refl (fun _ => False) w3).alloc _).trans k5
      have C5 := C2.keep k5'
      have K5 := K2.trans k5'
      have M5 := M2.keep k5'
      clear C2 K2 M2 M1 k5 k5'
      have d0 := fun ob => (C5.keep ((Keeps.refl _ w5).alloc ob)).1
      have d1 := fun ob => (C5.keep ((Keeps.refl _ w5).alloc ob)).2.1
      have d2 := fun ob => (C5.keep ((Keeps.refl _ w5).alloc ob)).2.2.1
      have d3 := fun ob => (C5.keep ((Keeps.refl _ w5).alloc ob)).2.2.2.1
      have d4 := fun ob => (C5.keep ((Keeps.refl _ w5).alloc ob)).2.2.2.2.1
      have d5 := fun ob => (C5.keep ((Keeps.refl _ w5).alloc ob)).2.2.2.2.2.1
      have d6 := fun ob => (C5.keep ((Keeps.refl _ w5).alloc ob)).2.2.2.2.2.2.1
      have d7 := fun ob => (C5.keep ((Keeps.refl _ w5).alloc ob)).2.2.2.2.2.2.2
      go_wp2_with fail
      refine (hj2 _ b2 (M5.keep ((Keeps.refl _ w5).alloc _))).mono ?_
      clear hj2 d0 d1 d2 d3 d4 d5 d6 d7
      rintro e w7 ⟨rfl, k7⟩
      have V7 := (VB.mk w5 ⟨va, vt, vn⟩).keep k7
      have k7' := ((Keeps.refl (fun _ => False) w5).alloc _).trans k7
      have C7 := C5.keep k7'
      have K7 := K5.trans k7'
      clear C5 K5 M5 k7 k7'
      have e0 := fun ob => (V7.keep ((Keeps.refl _ w7).alloc ob)).1
      have e1 := fun ob => (V7.keep ((Keeps.refl _ w7).alloc ob)).2.1
      have e2 := fun ob => (V7.keep ((Keeps.refl _ w7).alloc ob)).2.2
      go_wp2_with fail
      refine (hf _).mono ?_
      clear hf e0 e1 e2
      rintro e w9 ⟨rfl, k9⟩
      have U9 := (VB.mk w7 ⟨ua, ut, un⟩).keep k9
      have k9' := ((Keeps.refl (fun _ => False) w7).alloc _).trans k9
      have V9 := V7.keep k9'
      have C9 := (C7.keep k9').2.2.2.2.2.2.1
      have K9 := K7.trans k9'
      clear C7 V7 K7 k9 k9'
      obtain ⟨u0, u1, u2⟩ := U9
      obtain ⟨v0, v1, v2⟩ := V9
      have hw1 := hwt.1
      have hw2 := hwt.2
      have BB := K9.below (Nat.le_refl _) (fun _ _ e => e)
      clear hwt K9
      simp only at u0 u1 u2 v0 v1 v2 C9
      rcases HC.out with ⟨q1, q2⟩ | ⟨q3, n, q1, q2⟩ | ⟨q3, n, n1, n2, q1, q2⟩
      · clear HC
        simp only [Vd.ab, Vd.mk.injEq] at q1 q2
        obtain ⟨rfl, rfl, rfl⟩ := q1
        obtain ⟨rfl, rfl, rfl⟩ := q2
        by_cases hx : 0 < waited
        · go_wp2_with fail
          go_ret
          exact ⟨rfl, BB⟩
        · go_wp2_with fail
          go_ret
          exact ⟨rfl, BB⟩
      · clear HC
        exact absurd q3 (by omega)
      · clear HC
        skip
        simp only [Vd.wt, Vd.mk.injEq] at q1
        obtain ⟨rfl, rfl, rfl⟩ := q1
        by_cases hx : 0 < waited
        · rw [show max waited 0 = waited by omega] at q2
          by_cases hy : p - waited < 1
          · rw [cut_out hy] at q2
            simp only [Vd.out, Vd.mk.injEq] at q2
            obtain ⟨rfl, rfl, rfl⟩ := q2
            have hz : p - waited ≤ 0 := by omega
            go_wp2_with fail
            go_ret
            exact ⟨rfl, BB⟩
          · rw [cut_wt (by omega)] at q2
            have hz : ¬ p - waited ≤ 0 := by omega
            by_cases hm : vn < p - waited
            · rw [show min vn (p - waited) = vn by omega] at q2
              simp only [Vd.wt, Vd.mk.injEq] at q2
              obtain ⟨rfl, rfl, rfl⟩ := q2
              go_wp2_with fail
              go_ret
              exact ⟨rfl, BB⟩
            · rw [show min vn (p - waited) = p - waited by omega] at q2
              simp only [Vd.wt, Vd.mk.injEq] at q2
              obtain ⟨rfl, rfl, rfl⟩ := q2
              go_wp2_with fail
              go_ret
              exact ⟨rfl, BB⟩
        · rw [show max waited 0 = 0 by omega] at q2
          rw [cut_wt (by omega)] at q2
          by_cases hm : vn < p
          · rw [show min vn (p - 0) = vn by omega] at q2
            simp only [Vd.wt, Vd.mk.injEq] at q2
            obtain ⟨rfl, rfl, rfl⟩ := q2
            go_wp2_with fail
            go_ret
            exact ⟨rfl, BB⟩
          · rw [show min vn (p - 0) = p by omega] at q2
            simp only [Vd.wt, Vd.mk.injEq] at q2
            obtain ⟨rfl, rfl, rfl⟩ := q2
            go_wp2_with fail
            go_ret
            exact ⟨rfl, BB⟩
  · rcases hpp with ⟨h, rfl⟩ | ⟨⟨h, h2⟩, rfl⟩ | ⟨⟨h, h2⟩, rfl⟩
    · go_enter Try.func6, Try.ntmps6
      go_wp2_with fail
      rw [← hw0]
      clear hw0
      refine (hm1 _).mono ?_
      clear hm1
      rintro e w1 ⟨b1, rfl, hb1, M1, k1⟩
      go_wp2_with fail
      refine (hm2 _).mono ?_
      clear hm2
      rintro e w2 ⟨b2, rfl, hb2, M2, k2⟩
      have hpt := patience_any M2
      have C2 := (C0.keep k1).keep k2
      have K2 := (K0.trans k1).trans k2
      replace M1 := M1.keep k2
      clear C0 K0 k1 k2 hb1 hb2
      go_wp2_with fail
      refine hpt.mono ?_
      clear hpt
      rintro e w3 ⟨rfl, k3⟩
      replace C2 := C2.keep k3
      replace K2 := K2.trans k3
      replace M1 := M1.keep k3
      replace M2 := M2.keep k3
      clear k3
      have ⟨d0, d1, d2, d3, d4, d5, d6, d7⟩ := C2
      go_wp2_with fail
      refine (hj1 _ b1 (M1.keep ((Keeps.refl _ w3).alloc _))).mono ?_
      clear hj1 d0 d1 d2 d3 d4 d5 d6 d7
      rintro e w5 ⟨rfl, k5⟩
      have k5' := ((Keeps.refl (fun _ => False) w3).alloc _).trans k5
      have C5 := C2.keep k5'
      have K5 := K2.trans k5'
      have M5 := M2.keep k5'
      clear C2 K2 M2 M1 k5 k5'
      have d0 := fun ob => (C5.keep ((Keeps.refl _ w5).alloc ob)).1
      have d1 := fun ob => (C5.keep ((Keeps.refl _ w5).alloc ob)).2.1
      have d2 := fun ob => (C5.keep ((Keeps.refl _ w5).alloc ob)).2.2.1
      have d3 := fun ob => (C5.keep ((Keeps.refl _ w5).alloc ob)).2.2.2.1
      have d4 := fun ob => (C5.keep ((Keeps.refl _ w5).alloc ob)).2.2.2.2.1
      have d5 := fun ob => (C5.keep ((Keeps.refl _ w5).alloc ob)).2.2.2.2.2.1
      have d6 := fun ob => (C5.keep ((Keeps.refl _ w5).alloc ob)).2.2.2.2.2.2.1
      have d7 := fun ob => (C5.keep ((Keeps.refl _ w5).alloc ob)).2.2.2.2.2.2.2
      go_wp2_with fail
      refine (hj2 _ b2 (M5.keep ((Keeps.refl _ w5).alloc _))).mono ?_
      clear hj2 d0 d1 d2 d3 d4 d5 d6 d7
      rintro e w7 ⟨rfl, k7⟩
      have V7 := (VB.mk w5 ⟨va, vt, vn⟩).keep k7
      have k7' := ((Keeps.refl (fun _ => False) w5).alloc _).trans k7
      have C7 := C5.keep k7'
      have K7 := K5.trans k7'
      clear C5 K5 M5 k7 k7'
      have e0 := fun ob => (V7.keep ((Keeps.refl _ w7).alloc ob)).1
      have e1 := fun ob => (V7.keep ((Keeps.refl _ w7).alloc ob)).2.1
      have e2 := fun ob => (V7.keep ((Keeps.refl _ w7).alloc ob)).2.2
      go_wp2_with fail
      refine (hf _).mono ?_
      clear hf e0 e1 e2
      rintro e w9 ⟨rfl, k9⟩
      have U9 := (VB.mk w7 ⟨ua, ut, un⟩).keep k9
      have k9' := ((Keeps.refl (fun _ => False) w7).alloc _).trans k9
      have V9 := V7.keep k9'
      have C9 := (C7.keep k9').2.2.2.2.2.2.1
      have K9 := K7.trans k9'
      clear C7 V7 K7 k9 k9'
      obtain ⟨u0, u1, u2⟩ := U9
      obtain ⟨v0, v1, v2⟩ := V9
      have hw1 := hwt.1
      have hw2 := hwt.2
      have BB := K9.below (Nat.le_refl _) (fun _ _ e => e)
      clear hwt K9
      simp only at u0 u1 u2 v0 v1 v2 C9
      rcases HC.out with ⟨q1, q2⟩ | ⟨q3, n, q1, q2⟩ | ⟨q3, n, n1, n2, q1, q2⟩
      · clear HC
        simp only [Vd.ab, Vd.mk.injEq] at q1 q2
        obtain ⟨rfl, rfl, rfl⟩ := q1
        obtain ⟨rfl, rfl, rfl⟩ := q2
        by_cases hx : 0 < waited
        · go_wp2_with fail
          go_ret
          exact ⟨rfl, BB⟩
        · go_wp2_with fail
          go_ret
          exact ⟨rfl, BB⟩
      · clear HC
        have q5 : ((K : Int) == 4) = true := by simp; omega
        simp only [Vd.wt, Vd.mk.injEq] at q1 q2
        obtain ⟨rfl, rfl, rfl⟩ := q1
        obtain ⟨rfl, rfl, rfl⟩ := q2
        by_cases hx : 0 < waited
        · go_wp2_with fail
          go_ret
          exact ⟨rfl, BB⟩
        · go_wp2_with fail
          go_ret
          exact ⟨rfl, BB⟩
      · clear HC
        have q5 : ((K : Int) == 4) = false := by simp; omega
        simp only [Vd.wt, Vd.mk.injEq] at q1
        obtain ⟨rfl, rfl, rfl⟩ := q1
        by_cases hx : 0 < waited
        · rw [show max waited 0 = waited by omega] at q2
          by_cases hy : 7 - waited < 1
          · rw [cut_out hy] at q2
            simp only [Vd.out, Vd.mk.injEq] at q2
            obtain ⟨rfl, rfl, rfl⟩ := q2
            have hz : 7 - waited ≤ 0 := by omega
            go_wp2_with fail
            go_ret
            exact ⟨rfl, BB⟩
          · rw [cut_wt (by omega)] at q2
            have hz : ¬ 7 - waited ≤ 0 := by omega
            by_cases hm : vn < 7 - waited
            · rw [show min vn (7 - waited) = vn by omega] at q2
              simp only [Vd.wt, Vd.mk.injEq] at q2
              obtain ⟨rfl, rfl, rfl⟩ := q2
              go_wp2_with fail
              go_ret
              exact ⟨rfl, BB⟩
            · rw [show min vn (7 - waited) = 7 - waited by omega] at q2
              simp only [Vd.wt, Vd.mk.injEq] at q2
              obtain ⟨rfl, rfl, rfl⟩ := q2
              go_wp2_with fail
              go_ret
              exact ⟨rfl, BB⟩
        · rw [show max waited 0 = 0 by omega] at q2
          rw [cut_wt (by omega)] at q2
          by_cases hm : vn < 7
          · rw [show min vn (7 - 0) = vn by omega] at q2
            simp only [Vd.wt, Vd.mk.injEq] at q2
            obtain ⟨rfl, rfl, rfl⟩ := q2
            go_wp2_with fail
            go_ret
            exact ⟨rfl, BB⟩
          · rw [show min vn (7 - 0) = 7 by omega] at q2
            simp only [Vd.wt, Vd.mk.injEq] at q2
            obtain ⟨rfl, rfl, rfl⟩ := q2
            go_wp2_with fail
            go_ret
            exact ⟨rfl, BB⟩
    · go_enter Try.func6, Try.ntmps6
      go_wp2_with fail
      rw [← hw0]
      clear hw0
      refine (hm1 _).mono ?_
      clear hm1
      rintro e w1 ⟨b1, rfl, hb1, M1, k1⟩
      go_wp2_with fail
      refine (hm2 _).mono ?_
      clear hm2
      rintro e w2 ⟨b2, rfl, hb2, M2, k2⟩
      have hpt := patience_any M2
      have C2 := (C0.keep k1).keep k2
      have K2 := (K0.trans k1).trans k2
      replace M1 := M1.keep k2
      clear C0 K0 k1 k2 hb1 hb2
      go_wp2_with fail
      refine hpt.mono ?_
      clear hpt
      rintro e w3 ⟨rfl, k3⟩
      replace C2 := C2.keep k3
      replace K2 := K2.trans k3
      replace M1 := M1.keep k3
      replace M2 := M2.keep k3
      clear k3
      have ⟨d0, d1, d2, d3, d4, d5, d6, d7⟩ := C2
      go_wp2_with fail
      refine (hj1 _ b1 (M1.keep ((Keeps.refl _ w3).alloc _))).mono ?_
      clear hj1 d0 d1 d2 d3 d4 d5 d6 d7
      rintro e w5 ⟨rfl, k5⟩
      have k5' := ((Keeps.refl (fun _ => False) w3).alloc _).trans k5
      have C5 := C2.keep k5'
      have K5 := K2.trans k5'
      have M5 := M2.keep k5'
      clear C2 K2 M2 M1 k5 k5'
      have d0 := fun ob => (C5.keep ((Keeps.refl _ w5).alloc ob)).1
      have d1 := fun ob => (C5.keep ((Keeps.refl _ w5).alloc ob)).2.1
      have d2 := fun ob => (C5.keep ((Keeps.refl _ w5).alloc ob)).2.2.1
      have d3 := fun ob => (C5.keep ((Keeps.refl _ w5).alloc ob)).2.2.2.1
      have d4 := fun ob => (C5.keep ((Keeps.refl _ w5).alloc ob)).2.2.2.2.1
      have d5 := fun ob => (C5.keep ((Keeps.refl _ w5).alloc ob)).2.2.2.2.2.1
      have d6 := fun ob => (C5.keep ((Keeps.refl _ w5).alloc ob)).2.2.2.2.2.2.1
      have d7 := fun ob => (C5.keep ((Keeps.refl _ w5).alloc ob)).2.2.2.2.2.2.2
      go_wp2_with fail
      refine (hj2 _ b2 (M5.keep ((Keeps.refl _ w5).alloc _))).mono ?_
      clear hj2 d0 d1 d2 d3 d4 d5 d6 d7
      rintro e w7 ⟨rfl, k7⟩
      have V7 := (VB.mk w5 ⟨va, vt, vn⟩).keep k7
      have k7' := ((Keeps.refl (fun _ => False) w5).alloc _).trans k7
      have C7 := C5.keep k7'
      have K7 := K5.trans k7'
      clear C5 K5 M5 k7 k7'
      have e0 := fun ob => (V7.keep ((Keeps.refl _ w7).alloc ob)).1
      have e1 := fun ob => (V7.keep ((Keeps.refl _ w7).alloc ob)).2.1
      have e2 := fun ob => (V7.keep ((Keeps.refl _ w7).alloc ob)).2.2
      go_wp2_with fail
      refine (hf _).mono ?_
      clear hf e0 e1 e2
      rintro e w9 ⟨rfl, k9⟩
      have U9 := (VB.mk w7 ⟨ua, ut, un⟩).keep k9
      have k9' := ((Keeps.refl (fun _ => False) w7).alloc _).trans k9
      have V9 := V7.keep k9'
      have C9 := (C7.keep k9').2.2.2.2.2.2.1
      have K9 := K7.trans k9'
      clear C7 V7 K7 k9 k9'
      obtain ⟨u0, u1, u2⟩ := U9
      obtain ⟨v0, v1, v2⟩ := V9
      have hw1 := hwt.1
      have hw2 := hwt.2
      have BB := K9.below (Nat.le_refl _) (fun _ _ e => e)
      clear hwt K9
      simp only at u0 u1 u2 v0 v1 v2 C9
      rcases HC.out with ⟨q1, q2⟩ | ⟨q3, n, q1, q2⟩ | ⟨q3, n, n1, n2, q1, q2⟩
      · clear HC
        simp only [Vd.ab, Vd.mk.injEq] at q1 q2
        obtain ⟨rfl, rfl, rfl⟩ := q1
        obtain ⟨rfl, rfl, rfl⟩ := q2
        by_cases hx : 0 < waited
        · go_wp2_with fail
          go_ret
          exact ⟨rfl, BB⟩
        · go_wp2_with fail
          go_ret
          exact ⟨rfl, BB⟩
      · clear HC
        have q5 : ((K : Int) == 4) = true := by simp; omega
        simp only [Vd.wt, Vd.mk.injEq] at q1 q2
        obtain ⟨rfl, rfl, rfl⟩ := q1
        obtain ⟨rfl, rfl, rfl⟩ := q2
        by_cases hx : 0 < waited
        · go_wp2_with fail
          go_ret
          exact ⟨rfl, BB⟩
        · go_wp2_with fail
          go_ret
          exact ⟨rfl, BB⟩
      · clear HC
        have q5 : ((K : Int) == 4) = false := by simp; omega
        simp only [Vd.wt, Vd.mk.injEq] at q1
        obtain ⟨rfl, rfl, rfl⟩ := q1
        by_cases hx : 0 < waited
        · rw [show max waited 0 = waited by omega] at q2
          by_cases hy : 7 - waited < 1
          · rw [cut_out hy] at q2
            simp only [Vd.out, Vd.mk.injEq] at q2
            obtain ⟨rfl, rfl, rfl⟩ := q2
            have hz : 7 - waited ≤ 0 := by omega
            go_wp2_with fail
            go_ret
            exact ⟨rfl, BB⟩
          · rw [cut_wt (by omega)] at q2
            have hz : ¬ 7 - waited ≤ 0 := by omega
            by_cases hm : vn < 7 - waited
            · rw [show min vn (7 - waited) = vn by omega] at q2
              simp only [Vd.wt, Vd.mk.injEq] at q2
              obtain ⟨rfl, rfl, rfl⟩ := q2
              go_wp2_with fail
              go_ret
              exact ⟨rfl, BB⟩
            · rw [show min vn (7 - waited) = 7 - waited by omega] at q2
              simp only [Vd.wt, Vd.mk.injEq] at q2
              obtain ⟨rfl, rfl, rfl⟩ := q2
              go_wp2_with fail
              go_ret
              exact ⟨rfl, BB⟩
        · rw [show max waited 0 = 0 by omega] at q2
          rw [cut_wt (by omega)] at q2
          by_cases hm : vn < 7
          · rw [show min vn (7 - 0) = vn by omega] at q2
            simp only [Vd.wt, Vd.mk.injEq] at q2
            obtain ⟨rfl, rfl, rfl⟩ := q2
            go_wp2_with fail
            go_ret
            exact ⟨rfl, BB⟩
          · rw [show min vn (7 - 0) = 7 by omega] at q2
            simp only [Vd.wt, Vd.mk.injEq] at q2
            obtain ⟨rfl, rfl, rfl⟩ := q2
            go_wp2_with fail
            go_ret
            exact ⟨rfl, BB⟩
    · go_enter Try.func6, Try.ntmps6
      go_wp2_with fail
      rw [← hw0]
      clear hw0
      refine (hm1 _).mono ?_
      clear hm1
      rintro e w1 ⟨b1, rfl, hb1, M1, k1⟩
      go_wp2_with fail
      refine (hm2 _).mono ?_
      clear hm2
      rintro e w2 ⟨b2, rfl, hb2, M2, k2⟩
      have hpt := patience_any M2
      have C2 := (C0.keep k1).keep k2
      have K2 := (K0.trans k1).trans k2
      replace M1 := M1.keep k2
      clear C0 K0 k1 k2 hb1 hb2
      go_wp2_with fail
      refine hpt.mono ?_
      clear hpt
      rintro e w3 ⟨rfl, k3⟩
      replace C2 := C2.keep k3
      replace K2 := K2.trans k3
      replace M1 := M1.keep k3
      replace M2 := M2.keep k3
      clear k3
      have ⟨d0, d1, d2, d3, d4, d5, d6, d7⟩ := C2
      go_wp2_with fail
      refine (hj1 _ b1 (M1.keep ((Keeps.refl _ w3).alloc _))).mono ?_
      clear hj1 d0 d1 d2 d3 d4 d5 d6 d7
      rintro e w5 ⟨rfl, k5⟩
      have k5' := ((Keeps.refl (fun _ => False) w3).alloc _).trans k5
      have C5 := C2.keep k5'
      have K5 := K2.trans k5'
      have M5 := M2.keep k5'
      clear C2 K2 M2 M1 k5 k5'
      have d0 := fun ob => (C5.keep ((Keeps.refl _ w5).alloc ob)).1
      have d1 := fun ob => (C5.keep ((Keeps.refl _ w5).alloc ob)).2.1
      have d2 := fun ob => (C5.keep ((Keeps.refl _ w5).alloc ob)).2.2.1
      have d3 := fun ob => (C5.keep ((Keeps.refl _ w5).alloc ob)).2.2.2.1
      have d4 := fun ob => (C5.keep ((Keeps.refl _ w5).alloc ob)).2.2.2.2.1
      have d5 := fun ob => (C5.keep ((Keeps.refl _ w5).alloc ob)).2.2.2.2.2.1
      have d6 := fun ob => (C5.keep ((Keeps.refl _ w5).alloc ob)).2.2.2.2.2.2.1
      have d7 := fun ob => (C5.keep ((Keeps.refl _ w5).alloc ob)).2.2.2.2.2.2.2
      go_wp2_with fail
      refine (hj2 _ b2 (M5.keep ((Keeps.refl _ w5).alloc _))).mono ?_
      clear hj2 d0 d1 d2 d3 d4 d5 d6 d7
      rintro e w7 ⟨rfl, k7⟩
      have V7 := (VB.mk w5 ⟨va, vt, vn⟩).keep k7
      have k7' := ((Keeps.refl (fun _ => False) w5).alloc _).trans k7
      have C7 := C5.keep k7'
      have K7 := K5.trans k7'
      clear C5 K5 M5 k7 k7'
      have e0 := fun ob => (V7.keep ((Keeps.refl _ w7).alloc ob)).1
      have e1 := fun ob => (V7.keep ((Keeps.refl _ w7).alloc ob)).2.1
      have e2 := fun ob => (V7.keep ((Keeps.refl _ w7).alloc ob)).2.2
      go_wp2_with fail
      refine (hf _).mono ?_
      clear hf e0 e1 e2
      rintro e w9 ⟨rfl, k9⟩
      have U9 := (VB.mk w7 ⟨ua, ut, un⟩).keep k9
      have k9' := ((Keeps.refl (fun _ => False) w7).alloc _).trans k9
      have V9 := V7.keep k9'
      have C9 := (C7.keep k9').2.2.2.2.2.2.1
      have K9 := K7.trans k9'
      clear C7 V7 K7 k9 k9'
      obtain ⟨u0, u1, u2⟩ := U9
      obtain ⟨v0, v1, v2⟩ := V9
      have hw1 := hwt.1
      have hw2 := hwt.2
      have BB := K9.below (Nat.le_refl _) (fun _ _ e => e)
      clear hwt K9
      simp only at u0 u1 u2 v0 v1 v2 C9
      rcases HC.out with ⟨q1, q2⟩ | ⟨q3, n, q1, q2⟩ | ⟨q3, n, n1, n2, q1, q2⟩
      · clear HC
        simp only [Vd.ab, Vd.mk.injEq] at q1 q2
        obtain ⟨rfl, rfl, rfl⟩ := q1
        obtain ⟨rfl, rfl, rfl⟩ := q2
        by_cases hx : 0 < waited
        · go_wp2_with fail
          go_ret
          exact ⟨rfl, BB⟩
        · go_wp2_with fail
          go_ret
          exact ⟨rfl, BB⟩
      · clear HC
        have q5 : ((K : Int) == 4) = true := by simp; omega
        simp only [Vd.wt, Vd.mk.injEq] at q1 q2
        obtain ⟨rfl, rfl, rfl⟩ := q1
        obtain ⟨rfl, rfl, rfl⟩ := q2
        by_cases hx : 0 < waited
        · go_wp2_with fail
          go_ret
          exact ⟨rfl, BB⟩
        · go_wp2_with fail
          go_ret
          exact ⟨rfl, BB⟩
      · clear HC
        have q5 : ((K : Int) == 4) = false := by simp; omega
        simp only [Vd.wt, Vd.mk.injEq] at q1
        obtain ⟨rfl, rfl, rfl⟩ := q1
        by_cases hx : 0 < waited
        · rw [show max waited 0 = waited by omega] at q2
          by_cases hy : p - waited < 1
          · rw [cut_out hy] at q2
            simp only [Vd.out, Vd.mk.injEq] at q2
            obtain ⟨rfl, rfl, rfl⟩ := q2
            have hz : p - waited ≤ 0 := by omega
            go_wp2_with fail
            go_ret
            exact ⟨rfl, BB⟩
          · rw [cut_wt (by omega)] at q2
            have hz : ¬ p - waited ≤ 0 := by omega
            by_cases hm : vn < p - waited
            · rw [show min vn (p - waited) = vn by omega] at q2
              simp only [Vd.wt, Vd.mk.injEq] at q2
              obtain ⟨rfl, rfl, rfl⟩ := q2
              go_wp2_with fail
              go_ret
              exact ⟨rfl, BB⟩
            · rw [show min vn (p - waited) = p - waited by omega] at q2
              simp only [Vd.wt, Vd.mk.injEq] at q2
              obtain ⟨rfl, rfl, rfl⟩ := q2
              go_wp2_with fail
              go_ret
              exact ⟨rfl, BB⟩
        · rw [show max waited 0 = 0 by omega] at q2
          rw [cut_wt (by omega)] at q2
          by_cases hm : vn < p
          · rw [show min vn (p - 0) = vn by omega] at q2
            simp only [Vd.wt, Vd.mk.injEq] at q2
            obtain ⟨rfl, rfl, rfl⟩ := q2
            go_wp2_with fail
            go_ret
            exact ⟨rfl, BB⟩
          · rw [show min vn (p - 0) = p by omega] at q2
            simp only [Vd.wt, Vd.mk.injEq] at q2
            obtain ⟨rfl, rfl, rfl⟩ := q2
            go_wp2_with fail
            go_ret
            exact ⟨rfl, BB⟩
end Go.Proofs.Ytmcchconnfoffaa
