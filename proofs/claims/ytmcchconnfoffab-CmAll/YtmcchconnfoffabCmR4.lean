import Derived.Test.YtmcchconnfoffabCmR3
namespace Go.Proofs.Ytmcchconnfoffab
open Go.RowKit
theorem max_in {a : Int} (h : In64 a) : In64 (max a 0) := by unfold In64 at *; omega
/-- The verdict out of the rule's answer. -/
theorem judge_cases {k : Nat} (hk : k < 5) {p : Int} {mine theirs born enemy : Int} {flag : Bool} {tr waited draw : Int} :
    ∃ n : Int, rnum (rulv k ⟨mine, theirs, born, enemy, flag, max tr 0, waited, draw⟩) = n ∧ Hid ((n = 0 ∧ judgev k p (Cf.norm ⟨mine, theirs, born, enemy, flag, tr, waited, draw⟩) = .ab) ∨ (1 ≤ n ∧ n ≤ 128 ∧ k = 4 ∧ judgev k p (Cf.norm ⟨mine, theirs, born, enemy, flag, tr, waited, draw⟩) = .wt n) ∨ (1 ≤ n ∧ n ≤ 128 ∧ k < 4 ∧ judgev k p (Cf.norm ⟨mine, theirs, born, enemy, flag, tr, waited, draw⟩) = cutv p n (max waited 0))) := by
  refine ⟨_, rfl, ?_⟩
  show _ ∨ _
  rw [judge_rul hk]
  have e : rulv k (Cf.norm ⟨mine, theirs, born, enemy, flag, tr, waited, draw⟩) = rulv k ⟨mine, theirs, born, enemy, flag, max tr 0, waited, draw⟩ := rul_waited hk ⟨mine, theirs, born, enemy, flag, max tr 0, waited, draw⟩ (max waited 0)
  rw [e]
  cases hr : rulv k ⟨mine, theirs, born, enemy, flag, max tr 0, waited, draw⟩ with
  | none => exact .inl ⟨rfl, rfl⟩
  | some n =>
    have hn := rul_form hk (by simp only; omega) hr
    have hl : lng k ≤ 128 := by match k, hk with | 0, _ | 1, _ | 2, _ | 3, _ | 4, _ => simp [lng]
    simp only [rnum]
    by_cases h4 : k < 4
    · exact .inr (.inr ⟨hn.1, by omega, h4, by simp only [h4, if_true, Cf.norm]⟩)
    · exact .inr (.inl ⟨hn.1, by omega, by omega, by simp [h4]⟩)
set_option maxHeartbeats 3200000 in
set_option maxRecDepth 1000000 in
theorem rjudge_x (w : World) {k : Nat} (hk : k < 5) {p : Int} (hp : Pat p) {mine theirs born enemy : Int} {flag : Bool} {tr waited draw : Int} (hc : Cf.ok ⟨mine, theirs, born, enemy, flag, tr, waited, draw⟩) {va vt : Bool} {vn : Int} (hv : judgev k p (Cf.norm ⟨mine, theirs, born, enemy, flag, tr, waited, draw⟩) = ⟨va, vt, vn⟩) :
    Calls Try.prog 21 #[.int .i64 (k : Int), .int .i64 p, .agg #[.int .i64 mine, .int .i64 theirs, .int .i64 born, .int .i64 enemy, .bool flag, .int .i64 tr, .int .i64 waited, .int .i64 draw]] w fun e w' => e = .returned (.agg #[.bool va, .bool vt, .int .i64 vn]) ∧ Keeps (fun _ => False) w w' := by
  have hr := fun W => rrule_any (w := W) hk hc (max_in hc.2.2.2.2.1) (show 0 ≤ max tr 0 by omega)
  obtain ⟨n, hn, HC⟩ := judge_cases hk (p := p) (mine := mine) (theirs := theirs) (born := born) (enemy := enemy) (flag := flag) (tr := tr) (waited := waited) (draw := draw)
  rw [hn] at hr
  rw [hv] at HC
  have hw1 := hc.2.2.2.2.2.1
  have x1 : waited ≤ 9223372036854775807 := hw1.2
  have p1 := hp.1
  have p2 := hp.2
  obtain ⟨w0, hw0⟩ : ∃ w0, w0 = (w.alloc (.cells #[.int .i64 mine, .int .i64 theirs, .int .i64 born, .int .i64 enemy, .bool flag, .int .i64 tr, .int .i64 waited, .int .i64 draw] 23)).alloc (.cells #[.bool false, .bool false, .int .i64 0] 28) := ⟨_, rfl⟩
  have K0 : Keeps (fun _ => False) w w0 := by rw [hw0]; exact ((Keeps.refl _ w).alloc _).alloc _
  have R0 : R3 w0 (w.heap.size + 1) := by rw [hw0]; exact R3.mk1 _ (by simp)
  clear hn hv hw1 hc hp
  obtain ⟨T, hT, hTd⟩ : ∃ T, max tr 0 = T ∧ (tr < 0 ∧ T = 0 ∨ ¬ tr < 0 ∧ T = tr) := ⟨_, rfl, by omega⟩
  obtain ⟨X, hX, hXd⟩ : ∃ X, max waited 0 = X ∧ (waited < 0 ∧ X = 0 ∨ ¬ waited < 0 ∧ X = waited) := ⟨_, rfl, by omega⟩
  rw [hT] at hr
  rw [hX] at HC
  clear hT hX
  rcases hXd with ⟨t2, rfl⟩ | ⟨t2, rfl⟩
  · rcases hTd with ⟨t1, rfl⟩ | ⟨t1, rfl⟩
    all_goals
      go_enter Try.func21, Try.ntmps21
      go_wp2_with fail
      rw [← hw0]
      clear hw0
      refine (hr _).mono ?_
      clear hr
      rintro e w1 ⟨rfl, k1⟩
      replace K0 := K0.trans k1
      obtain ⟨c0, c1, c2, z0, z1, z2⟩ := R0.keep k1
      clear k1 R0
      rcases HC.out with ⟨q0, q⟩ | ⟨q0, q1, q2, q⟩ | ⟨q0, q1, q2, q⟩
      · clear HC
        subst q0
        simp only [Vd.ab, Vd.mk.injEq] at q
        obtain ⟨rfl, rfl, rfl⟩ := q
        go_wp2_with fail
        refine bodyPost_ret (v := .agg #[.bool true, .bool false, .int .i64 0]) ?_ rfl ⟨rfl, end3 K0 (by omega) _ _ _⟩
        rw [results_cell1 rfl]
        go_simp
      · clear HC
        simp only [Vd.wt, Vd.mk.injEq] at q
        obtain ⟨rfl, rfl, rfl⟩ := q
        have g1 : (vn == 0) = false := by simp; omega
        have g2 : ((k : Int) == 4) = true := by simp; omega
        go_wp2_with fail
        refine bodyPost_ret (v := .agg #[.bool false, .bool false, .int .i64 vn]) ?_ rfl ⟨rfl, end3 K0 (by omega) _ _ _⟩
        rw [results_cell1 rfl]
        go_simp
      · clear HC
        have g1 : (n == 0) = false := by simp; omega
        have g2 : ((k : Int) == 4) = false := by simp; omega
        by_cases h : p - 0 < 1
        · exfalso; omega
        · rw [cut_wt (by omega)] at q
          have g3 : decide (p ≤ 0) = false := by simp; omega
          by_cases hm : p - 0 < n
          · rw [show min n (p - 0) = p - 0 by omega] at q
            simp only [Vd.wt, Vd.mk.injEq] at q
            obtain ⟨rfl, rfl, rfl⟩ := q
            go_wp2_with fail
            refine bodyPost_ret (v := .agg #[.bool false, .bool false, .int .i64 (p - 0)]) ?_ rfl ⟨rfl, end3 K0 (by omega) _ _ _⟩
            rw [results_cell1 rfl]
            go_simp
          · rw [show min n (p - 0) = n by omega] at q
            simp only [Vd.wt, Vd.mk.injEq] at q
            obtain ⟨rfl, rfl, rfl⟩ := q
            go_wp2_with fail
            refine bodyPost_ret (v := .agg #[.bool false, .bool false, .int .i64 vn]) ?_ rfl ⟨rfl, end3 K0 (by omega) _ _ _⟩
            rw [results_cell1 rfl]
            go_simp
  · rcases hTd with ⟨t1, rfl⟩ | ⟨t1, rfl⟩
    all_goals
      go_enter Try.func21, Try.ntmps21
      go_wp2_with fail
      rw [← hw0]
      clear hw0
      refine (hr _).mono ?_
      clear hr
      rintro e w1 ⟨rfl, k1⟩
      replace K0 := K0.trans k1
      obtain ⟨c0, c1, c2, z0, z1, z2⟩ := R0.keep k1
      clear k1 R0
      rcases HC.out with ⟨q0, q⟩ | ⟨q0, q1, q2, q⟩ | ⟨q0, q1, q2, q⟩
      · clear HC
        subst q0
        simp only [Vd.ab, Vd.mk.injEq] at q
        obtain ⟨rfl, rfl, rfl⟩ := q
        go_wp2_with fail
        refine bodyPost_ret (v := .agg #[.bool true, .bool false, .int .i64 0]) ?_ rfl ⟨rfl, end3 K0 (by omega) _ _ _⟩
        rw [results_cell1 rfl]
        go_simp
      · clear HC
        simp only [Vd.wt, Vd.mk.injEq] at q
        obtain ⟨rfl, rfl, rfl⟩ := q
        have g1 : (vn == 0) = false := by simp; omega
        have g2 : ((k : Int) == 4) = true := by simp; omega
        go_wp2_with fail
        refine bodyPost_ret (v := .agg #[.bool false, .bool false, .int .i64 vn]) ?_ rfl ⟨rfl, end3 K0 (by omega) _ _ _⟩
        rw [results_cell1 rfl]
        go_simp
      · clear HC
        have g1 : (n == 0) = false := by simp; omega
        have g2 : ((k : Int) == 4) = false := by simp; omega
        by_cases h : p - X < 1
        · rw [cut_out h] at q
          simp only [Vd.out, Vd.mk.injEq] at q
          obtain ⟨rfl, rfl, rfl⟩ := q
          have g3 : decide (p ≤ X) = true := by simp; omega
          go_wp2_with fail
          refine bodyPost_ret (v := .agg #[.bool true, .bool true, .int .i64 0]) ?_ rfl ⟨rfl, end3 K0 (by omega) _ _ _⟩
          rw [results_cell1 rfl]
          go_simp
        · rw [cut_wt (by omega)] at q
          have g3 : decide (p ≤ X) = false := by simp; omega
          by_cases hm : p - X < n
          · rw [show min n (p - X) = p - X by omega] at q
            simp only [Vd.wt, Vd.mk.injEq] at q
            obtain ⟨rfl, rfl, rfl⟩ := q
            go_wp2_with fail
            refine bodyPost_ret (v := .agg #[.bool false, .bool false, .int .i64 (p - X)]) ?_ rfl ⟨rfl, end3 K0 (by omega) _ _ _⟩
            rw [results_cell1 rfl]
            go_simp
          · rw [show min n (p - X) = n by omega] at q
            simp only [Vd.wt, Vd.mk.injEq] at q
            obtain ⟨rfl, rfl, rfl⟩ := q
            go_wp2_with fail
            refine bodyPost_ret (v := .agg #[.bool false, .bool false, .int .i64 vn]) ?_ rfl ⟨rfl, end3 K0 (by omega) _ _ _⟩
            rw [results_cell1 rfl]
            go_simp
end Go.Proofs.Ytmcchconnfoffab
