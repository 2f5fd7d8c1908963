import Derived.Test.YtmcchconnfoffabKeepSt
import Derived.Test.YtmcchconnfoffabSatAdd
import Derived.Test.YtmcchconnfoffabCmSt
namespace Go.Proofs.Ytmcchconnfoffab
open Go.RowKit

theorem results_cell1 {fn : Func} {p : Tmp} {ty : TypeId} (h : fn.results = #[.cell p ty]) (tmps : Array Value) (P : Program) (w : World) :
    (results fn tmps).run P w = ((asAddr (tmps.getD p undef)).run P w).andThen fun a w₁ => (loadVar ty a).run P w₁ := by
  simp only [results, h]
  simp [Sem.run_bind, Result.andThen]
/-- A block for a verdict. -/
structure R3 (w : World) (b : Nat) : Prop where
  c0 : w.cell? ⟨b, 0, none⟩ = some (.bool false)
  c1 : w.cell? ⟨b, 1, none⟩ = some (.bool false)
  c2 : w.cell? ⟨b, 2, none⟩ = some (.int .i64 0)
  z0 : w.frozen? ⟨b, 0, none⟩ = false
  z1 : w.frozen? ⟨b, 1, none⟩ = false
  z2 : w.frozen? ⟨b, 2, none⟩ = false
theorem R3.keep {w w' : World} {b : Nat} (h : R3 w b) (k : Keeps (fun _ => False) w w') : R3 w' b :=
  have hl := World.block_lt_of_cell? w _ h.c0
  ⟨k.cell h.c0 id, k.cell h.c1 id, k.cell h.c2 id, (k.frozen (p := ⟨b, 0, none⟩) hl id).trans h.z0, (k.frozen (p := ⟨b, 1, none⟩) hl id).trans h.z1, (k.frozen (p := ⟨b, 2, none⟩) hl id).trans h.z2⟩
theorem R3.mk1 (w : World) {b : Nat} (hb : w.heap.size = b) : R3 (w.alloc (.cells #[.bool false, .bool false, .int .i64 0] 28)) b := by
  subst hb
  refine ⟨?_, ?_, ?_, ?_, ?_, ?_⟩ <;> simp
theorem end3 {w w1 : World} {b : Nat} (k : Keeps (fun _ => False) w w1) (hb : w.heap.size ≤ b) (v0 v1 v2 : Value) : Keeps (fun _ => False) w (((w1.setCell ⟨b, 0, none⟩ v0).setCell ⟨b, 1, none⟩ v1).setCell ⟨b, 2, none⟩ v2) :=
  ((k.setCell (fun h => absurd hb (Nat.not_le.2 h)) _).setCell (fun h => absurd hb (Nat.not_le.2 h)) _).setCell (fun h => absurd hb (Nat.not_le.2 h)) _

theorem abort_any (w : World) : Calls Try.prog 17 #[] w fun e w' => e = .returned (.agg #[.bool true, .bool false, .int .i64 0]) ∧ Keeps (fun _ => False) w w' := by
  go_enter Try.func17, Try.ntmps17
  go_wp2
  refine bodyPost_ret (v := .agg #[.bool true, .bool false, .int .i64 0]) ?_ rfl ⟨rfl, (Keeps.refl _ w).alloc _⟩
  rw [results_cell1 rfl]
  go_simp
theorem wait_any (w : World) (n : Int) : Calls Try.prog 49 #[.int .i64 n] w fun e w' => e = .returned (.agg #[.bool false, .bool false, .int .i64 n]) ∧ Keeps (fun _ => False) w w' := by
  go_enter Try.func49, Try.ntmps49
  go_wp2
  refine bodyPost_ret (v := .agg #[.bool false, .bool false, .int .i64 n]) ?_ rfl ⟨rfl, (Keeps.refl _ w).alloc _⟩
  rw [results_cell1 rfl]
  go_simp
theorem low_any (w : World) (n : Nat) (hn : n ≤ 62) (d : Int) : Calls Try.prog 50 #[.int .i64 n, .int .i64 d] w fun e w' => e = .returned (.int .i64 (lowz n d)) ∧ w' = w := by
  have h1 : (1 : Int) ≤ 2 ^ n := by have := Int.pow_pos (n := 2) (m := n) (by omega); omega
  have h2 : (2 : Int) ^ n ≤ 4611686018427387904 := by
    have e : ((2 ^ n : Nat) : Int) ≤ ((2 ^ 62 : Nat) : Int) := Int.ofNat_le.2 (Nat.pow_le_pow_right (by omega) hn)
    simpa using e
  have hs : wrap64 (2 ^ n) = 2 ^ n := wrap_id ⟨by omega, by omega⟩
  have hs2 : wrap64 (2 ^ n - 1) = 2 ^ n - 1 := wrap_id ⟨by omega, by omega⟩
  have hl : Hid (_ = _) := low_and n hn d
  clear h1 h2
  go_enter Try.func50, Try.ntmps50
  go_wp2
  go_ret
  refine ⟨?_, rfl⟩
  rw [← hl.out]
  (try simp only [hs, hs2])
  rfl
theorem backOff_any (w : World) (n : Nat) (hn : n ≤ 7) (d : Int) : Calls Try.prog 48 #[.int .i64 n, .int .i64 d] w fun e w' => e = .returned (.int .i64 (1 + lowz n d)) ∧ w' = w := by
  have h1 := lowz_nn n d
  have h2 := lowz_le7 hn d
  have hl := low_any w n (by omega) d
  generalize lowz n d = L at *
  go_enter Try.func48, Try.ntmps48
  go_wp2_with (go_at_call 50; refine hl.mono ?_; rintro e w' ⟨rfl, rfl⟩)
  go_ret
  exact ⟨rfl, rfl⟩
theorem cut_any (w : World) (p n t : Int) (hp : 1 ≤ p ∧ p ≤ 4096) (ht : 0 ≤ t ∧ t ≤ 9223372036854775807) : Calls Try.prog 47 #[.agg #[.int .i64 p], .int .i64 n, .int .i64 t] w fun e w' => e = .returned (vdv (cutv p n t)) ∧ Keeps (fun _ => False) w w' := by
  obtain ⟨hp1, hp2⟩ := hp
  obtain ⟨ht1, ht2⟩ := ht
  by_cases h : p - t < 1
  · have e : cutv p n t = .out := if_pos h
    rw [e]
    clear e
    go_enter Try.func47, Try.ntmps47
    go_wp2
    refine bodyPost_ret (v := vdv .out) ?_ rfl ⟨rfl, ?_⟩
    · rw [results_cell1 rfl]
      go_simp
      rfl
    · exact ((Keeps.refl _ w).alloc _).alloc _
  · have e : cutv p n t = .wt (min n (p - t)) := if_neg h
    have r0 := R3.mk1 (w.alloc (Obj.cells #[.int .i64 p] 63)) (b := w.heap.size + 1) (by simp)
    by_cases hm : p - t < n
    · rw [e, show min n (p - t) = p - t by omega]
      clear e
      go_enter Try.func47, Try.ntmps47
      go_wp2_with (go_at_call 49; refine (wait_any _ _).mono ?_; rintro e w' ⟨rfl, k1⟩; obtain ⟨c0, c1, c2, z0, z1, z2⟩ := r0.keep k1; clear r0)
      refine bodyPost_ret (v := vdv (.wt (p - t))) ?_ rfl ⟨rfl, end3 ((((Keeps.refl _ w).alloc _).alloc _).trans k1) (by omega) _ _ _⟩
      rw [results_cell1 rfl]
      go_simp
      rfl
    · rw [e, show min n (p - t) = n by omega]
      clear e
      go_enter Try.func47, Try.ntmps47
      go_wp2_with (go_at_call 49; refine (wait_any _ _).mono ?_; rintro e w' ⟨rfl, k1⟩; obtain ⟨c0, c1, c2, z0, z1, z2⟩ := r0.keep k1; clear r0)
      refine bodyPost_ret (v := vdv (.wt n)) ?_ rfl ⟨rfl, end3 ((((Keeps.refl _ w).alloc _).alloc _).trans k1) (by omega) _ _ _⟩
      rw [results_cell1 rfl]
      go_simp
      rfl
theorem outranks_any (w : World) (c : Cf) (hc : c.ok) : Calls Try.prog 53 #[cfv c] w fun e w' => e = .returned (.bool (outr c)) ∧ Keeps (fun _ => False) w w' := by
  obtain ⟨mine, theirs, born, enemy, flag, tries, waited, draw⟩ := c
  have hs := fun W => satAdd_any mine tries hc.1 hc.2.2.2.2.1 W
  clear hc
  simp only [cfv, outr]
  generalize clamp (mine + tries) = C at *
  obtain ⟨w0, hw0⟩ : ∃ w0, w0 = w.alloc (.cells #[.int .i64 mine, .int .i64 theirs, .int .i64 born, .int .i64 enemy, .bool flag, .int .i64 tries, .int .i64 waited, .int .i64 draw] 23) := ⟨_, rfl⟩
  have K0 : Keeps (fun _ => False) w w0 := by rw [hw0]; exact (Keeps.refl _ w).alloc _
  have d0 := ks_cell (show w0.cell? ⟨w.heap.size, 0, none⟩ = some (.int .i64 mine) by rw [hw0]; simp)
  have d1 := ks_cell (show w0.cell? ⟨w.heap.size, 1, none⟩ = some (.int .i64 theirs) by rw [hw0]; simp)
  have d5 := ks_cell (show w0.cell? ⟨w.heap.size, 5, none⟩ = some (.int .i64 tries) by rw [hw0]; simp)
  have hNE : Nonempty (KS w0) := ⟨⟨w0, Keeps.refl _ w0⟩⟩
  go_enter Try.func53, Try.ntmps53
  go_wp2_with fail
  rw [← hw0]
  clear hw0
  refine wp_region_ks (by kernel_rfl) (by kernel_rfl) ?_
  repeat (go_big_quiet_step ((go_at_call 54; refine (hs _).mono ?_; rintro e w2 ⟨rfl, rfl⟩; exact ⟨rfl, _, rfl⟩)))
  refine wpQuiet_nil ?_
  rintro _ ⟨U, rfl⟩
  go_wp2_with fail
  go_ret
  exact ⟨rfl, K0.trans U.property⟩
end Go.Proofs.Ytmcchconnfoffab
