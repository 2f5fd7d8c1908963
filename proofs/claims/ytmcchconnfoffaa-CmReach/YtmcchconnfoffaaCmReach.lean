import Derived.Test.YtmcchconnfoffaaCmE
namespace Go.Proofs.Ytmcchconnfoffaa
open Go.RowKit
theorem orac_wt {w : World} {b : Nat} {p : Int} (M : Mg w b 4 p) {k : Int} (h1 : 1 ≤ k) (h8 : k ≤ 8) : Calls Try.prog 8 #[.pointer (some ⟨b, 0, none⟩), .agg #[.int .i64 0, .int .i64 0, .int .i64 0, .int .i64 0, .bool false, .int .i64 0, .int .i64 0, .int .i64 (2 * k - 1)]] w fun e w' => e = .returned (.agg #[.bool false, .bool false, .int .i64 k]) ∧ Keeps (fun _ => False) w w' := by
  have j := judge_any M ⟨0, 0, 0, 0, false, 0, 0, 2 * k - 1⟩ (by simp [Cf.ok, In64]; omega)
  have e : judgev 4 p (Cf.norm ⟨0, 0, 0, 0, false, 0, 0, 2 * k - 1⟩) = .wt k := by
    have l : lowz 4 (2 * k - 1) = 2 * k - 1 := by unfold lowz; omega
    show (if lowz 4 (2 * k - 1) % 2 = 0 then Vd.ab else .wt ((lowz 4 (2 * k - 1) + 1) / 2 + if 2 * k - 1 < 0 then 8 else 0)) = _
    rw [l, if_neg (by omega), if_neg (by omega)]
    congr 1
    omega
  rw [e] at j
  exact j
theorem orac_wt2 {w : World} {b : Nat} {p : Int} (M : Mg w b 4 p) {k : Int} (h1 : 1 ≤ k) (h8 : k ≤ 8) : Calls Try.prog 8 #[.pointer (some ⟨b, 0, none⟩), .agg #[.int .i64 0, .int .i64 0, .int .i64 0, .int .i64 0, .bool false, .int .i64 0, .int .i64 0, .int .i64 (2 * k - 17)]] w fun e w' => e = .returned (.agg #[.bool false, .bool false, .int .i64 (k + 8)]) ∧ Keeps (fun _ => False) w w' := by
  have j := judge_any M ⟨0, 0, 0, 0, false, 0, 0, 2 * k - 17⟩ (by simp [Cf.ok, In64]; omega)
  have e : judgev 4 p (Cf.norm ⟨0, 0, 0, 0, false, 0, 0, 2 * k - 17⟩) = .wt (k + 8) := by
    have l : lowz 4 (2 * k - 17) = 2 * k - 1 := by unfold lowz; omega
    show (if lowz 4 (2 * k - 17) % 2 = 0 then Vd.ab else .wt ((lowz 4 (2 * k - 17) + 1) / 2 + if 2 * k - 17 < 0 then 8 else 0)) = _
    rw [l, if_neg (by omega), if_pos (by omega)]
    congr 1
    omega
  rw [e] at j
  exact j
theorem orac_ab {w : World} {b : Nat} {p : Int} (M : Mg w b 4 p) : Calls Try.prog 8 #[.pointer (some ⟨b, 0, none⟩), .agg #[.int .i64 0, .int .i64 0, .int .i64 0, .int .i64 0, .bool false, .int .i64 0, .int .i64 0, .int .i64 0]] w fun e w' => e = .returned (.agg #[.bool true, .bool false, .int .i64 0]) ∧ Keeps (fun _ => False) w w' :=
  judge_any M ⟨0, 0, 0, 0, false, 0, 0, 0⟩ (by simp [Cf.ok, In64])
set_option maxHeartbeats 3200000 in
set_option maxRecDepth 1000000 in
theorem reachWalk (pa : Int) (_ : I64 pa) (w : World) : Calls Try.prog 4 #[.int .i64 pa] w fun e w' => e = .returned (.bool true) ∧ Below w.heap.size w w' := by
  obtain ⟨p, hp, he⟩ : ∃ p, Pat p ∧ (pa < 1 ∧ p = 1 ∨ (¬ pa < 1 ∧ 4096 < pa) ∧ p = 1 ∨ (¬ pa < 1 ∧ ¬ 4096 < pa) ∧ p = pa) := by
    by_cases h : pa < 1
    · exact ⟨1, ⟨by omega, by omega⟩, .inl ⟨h, rfl⟩⟩
    · by_cases h2 : 4096 < pa
      · exact ⟨1, ⟨by omega, by omega⟩, .inr (.inl ⟨⟨h, h2⟩, rfl⟩)⟩
      · exact ⟨pa, ⟨by omega, by omega⟩, .inr (.inr ⟨⟨h, h2⟩, rfl⟩)⟩
  have hm : ∀ W, Calls Try.prog 7 #[.int .i64 4, .int .i64 p] W fun e w' => ∃ b, e = .returned (.pointer (some ⟨b, 0, none⟩)) ∧ W.heap.size ≤ b ∧ Mg w' b 4 p ∧ Keeps (fun _ => False) W w' := fun W => manager_any W (k := 4) (by omega) hp
  clear hp
  rcases he with ⟨h, rfl⟩ | ⟨⟨h, h2⟩, rfl⟩ | ⟨⟨h, h2⟩, rfl⟩
  all_goals
    go_enter Try.func4, Try.ntmps4
    go_wp2_with (first | (go_at_call 7; refine (hm _).mono ?_; rintro e w1 ⟨b, rfl, hb, M1, k1⟩; clear hm; have hj := orac_ab M1) | (go_at_call 8; refine hj.mono ?_; clear hj; rintro e w2 ⟨rfl, k2⟩))
    have M2 := M1.keep k2
    have K2 := k1.trans k2
    clear M1 k1 k2 h hb
    go_loopw [5] (fun iv W => ∃ k : Nat, 1 ≤ k ∧ k ≤ 9 ∧ iv = .int .i64 (k : Int) ∧ Mg W b 4 _ ∧ Keeps (fun _ => False) w W) (fun iv _ => 9 - (intOf iv).toNat)
    case atStart => exact ⟨1, by omega, by omega, rfl, M2, K2⟩
    case round =>
      obtain ⟨k, k1, k9, rfl, M3, K3⟩ := hrel
      clear M2 K2
      by_cases hlt : k ≤ 8
      · have a1 : (1 : Int) ≤ k := by omega
        have a2 : (k : Int) ≤ 8 := by omega
        have hj1 := orac_wt M3 a1 a2
        go_wp2_with (go_at_call 8; refine hj1.mono ?_; clear hj1; rintro e w4 ⟨rfl, k4⟩; have M4 := (M3.keep k4).keep ((Keeps.refl _ w4).alloc (.cells #[.bool false, .bool false, .int .i64 (k : Int)] 27)); have K4 := (K3.trans k4).alloc (.cells #[.bool false, .bool false, .int .i64 (k : Int)] 27); clear M3 K3 k4)
        refine (orac_wt2 M4 a1 a2).mono ?_
        rintro e w5 ⟨rfl, k5⟩
        have f0 := fun ob => (k5.alloc ob).cell (p := ⟨w4.heap.size, 0, none⟩) (v := .bool false) (by simp) id
        have f1 := fun ob => (k5.alloc ob).cell (p := ⟨w4.heap.size, 1, none⟩) (v := .bool false) (by simp) id
        have f2 := fun ob => (k5.alloc ob).cell (p := ⟨w4.heap.size, 2, none⟩) (v := .int .i64 (k : Int)) (by simp) id
        have n1 : ¬ (w4.heap.size = w5.heap.size) := by
          have := k5.size
          simp at this
          omega
        have n2 : ¬ (w5.heap.size = w4.heap.size) := fun e => n1 e.symm
        have M5 := (M4.keep k5).keep ((Keeps.refl _ w5).alloc (.cells #[.bool false, .bool false, .int .i64 ((k : Int) + 8)] 27))
        have K5 := (K4.trans k5).alloc (.cells #[.bool false, .bool false, .int .i64 ((k : Int) + 8)] 27)
        clear M4 K4 k5
        go_wp2_with fail
        go_roundw
        case rel => exact ⟨k + 1, by omega, by omega, by go_num, M5, K5⟩
        case measure => simp [intOf]; omega
      · have e9 : k = 9 := by omega
        subst e9
        go_wp2_with fail
        go_ret
        exact ⟨rfl, K3.below (Nat.le_refl _) (fun _ _ e => e)⟩
end Go.Proofs.Ytmcchconnfoffaa
