import Derived.Test.YtmcchconnfoffabCmD
namespace Go.Proofs.Ytmcchconnfoffab
open Go.RowKit
/-- A verdict's form. -/
def Fm (k : Nat) (v : Vd) : Prop := v = .ab ∨ (v = .out ∧ k ≠ 4) ∨ ∃ n, v = .wt n ∧ 1 ≤ n ∧ n ≤ lng k
theorem cut_form {p n t : Int} (hn : 1 ≤ n) : cutv p n t = .out ∨ ∃ m, cutv p n t = .wt m ∧ 1 ≤ m ∧ m ≤ n := by
  unfold cutv
  split
  · exact .inl rfl
  · exact .inr ⟨_, rfl, by omega, by omega⟩
theorem judge_form {k : Nat} (hk : k < 5) (p : Int) (c : Cf) (h0 : 0 ≤ c.tries) : Fm k (judgev k p c) := by
  have cc : ∀ {n t : Int}, k ≠ 4 → 1 ≤ n → n ≤ lng k → Fm k (cutv p n t) := fun h4 h1 h2 =>
    (cut_form h1).elim (fun e => .inr (.inl ⟨e, h4⟩)) (fun ⟨m, e, a, b⟩ => .inr (.inr ⟨m, e, a, Int.le_trans b h2⟩))
  match k, hk with
  | 0, _ =>
    by_cases h : 8 ≤ c.tries
    · rw [show judgev 0 p c = .ab from if_pos h]; exact .inl rfl
    · rw [show judgev 0 p c = _ from if_neg h]
      have a := lowz_nn c.tries.toNat c.draw
      have b := lowz_le7 (n := c.tries.toNat) (by omega) c.draw
      exact cc (by omega) (by omega) (by simp only [lng]; omega)
  | 1, _ =>
    by_cases h : outr c = true
    · rw [show judgev 1 p c = .ab from if_pos h]; exact .inl rfl
    · rw [show judgev 1 p c = _ from if_neg h]; exact cc (by omega) (by omega) (by simp [lng])
  | 2, _ =>
    by_cases h : outr c = true
    · rw [show judgev 2 p c = .ab from if_pos h]; exact .inl rfl
    · rw [show judgev 2 p c = _ from if_neg h]
      have a := lowz_nn (min c.tries 7).toNat c.draw
      have b := lowz_le7 (n := (min c.tries 7).toNat) (by omega) c.draw
      exact cc (by omega) (by omega) (by simp only [lng]; omega)
  | 3, _ =>
    by_cases h : c.born < c.enemy ∨ c.flag = true
    · rw [show judgev 3 p c = .ab from if_pos h]; exact .inl rfl
    · rw [show judgev 3 p c = _ from if_neg h]; exact cc (by omega) (by omega) (by simp [lng])
  | 4, _ =>
    by_cases h : lowz 4 c.draw % 2 = 0
    · rw [show judgev 4 p c = .ab from if_pos h]; exact .inl rfl
    · rw [show judgev 4 p c = _ from if_neg h]
      have a := lowz_nn 4 c.draw
      have b : lowz 4 c.draw < 16 := lowz_lt 4 c.draw
      exact .inr (.inr ⟨_, rfl, by split <;> omega, by simp only [lng]; split <;> omega⟩)
set_option maxHeartbeats 1600000 in
set_option maxRecDepth 1000000 in
theorem formed_ok (w : World) {k : Nat} (hk : k < 5) {v : Vd} (hv : Fm k v) : Calls Try.prog 11 #[vdv v, .int .i64 (k : Int)] w fun e w' => e = .returned (.bool true) ∧ Keeps (fun _ => False) w w' := by
  have hl := fun W => longest_any W hk
  rcases hv with rfl | ⟨rfl, h4⟩ | ⟨n, rfl, h1, h2⟩
  · simp only [vdv, Vd.ab]
    go_enter Try.func11, Try.ntmps11
    go_wp2_with fail
    go_ret
    exact ⟨rfl, (Keeps.refl _ w).alloc _⟩
  · have h5 : ((k : Int) != 4) = true := by simp; omega
    simp only [vdv, Vd.out]
    go_enter Try.func11, Try.ntmps11
    go_wp2_with fail
    go_ret
    exact ⟨rfl, (Keeps.refl _ w).alloc _⟩
  · simp only [vdv, Vd.wt]
    generalize lng k = L at *
    obtain ⟨w0, hw0⟩ : ∃ w0, w0 = w.alloc (.cells #[.bool false, .bool false, .int .i64 n] 28) := ⟨_, rfl⟩
    have K0 : Keeps (fun _ => False) w w0 := by rw [hw0]; exact (Keeps.refl _ w).alloc _
    have d1 := ks_cell (show w0.cell? ⟨w.heap.size, 1, none⟩ = some (.bool false) by rw [hw0]; simp)
    have d2 := ks_cell (show w0.cell? ⟨w.heap.size, 2, none⟩ = some (.int .i64 n) by rw [hw0]; simp)
    have hNE : Nonempty (KS w0) := ⟨⟨w0, Keeps.refl _ w0⟩⟩
    have g1 : decide (1 ≤ n) = true := by simpa using h1
    have g2 : decide (n ≤ L) = true := by simpa using h2
    clear h1 h2 hk
    go_enter Try.func11, Try.ntmps11
    go_wp2_with fail
    rw [← hw0]
    clear hw0
    refine wp_region_ks (by kernel_rfl) (by kernel_rfl) ?_
    repeat (go_big_quiet_step ((go_at_call 18; refine (hl _).mono ?_; rintro e w2 ⟨rfl, rfl⟩; exact ⟨rfl, _, rfl⟩)))
    refine wpQuiet_nil ?_
    rintro _ ⟨U, rfl⟩
    go_wp2_with fail
    go_ret
    exact ⟨rfl, K0.trans U.property⟩
end Go.Proofs.Ytmcchconnfoffab
