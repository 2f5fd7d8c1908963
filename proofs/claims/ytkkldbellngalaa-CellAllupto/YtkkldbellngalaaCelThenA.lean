import Derived.Test.YtkkldbellngalaaCelSrch
namespace Go.Proofs.Ytkkldbellngalaa
open Go.RowKit Go.Shelf
attribute [local go_sem] Oper.semAt_some

/-- So many rows up to a step. -/
def Upto (L : List Rw) (step : Int) (N : Nat) : Prop := N ≤ L.length ∧ (∀ i, i < N → (ra L i).step ≤ step) ∧ (∀ i, N ≤ i → i < L.length → step < (ra L i).step)

set_option maxRecDepth 100000 in
set_option maxHeartbeats 3200000 in
/-- back's iterator. -/
theorem back1_in (n : Nat) (hn : 1 ≤ n) (l B1 B2 mb : Nat) (step : Int) (a : Option Addr) (cap : Nat) (L : List Rw) (hL : L.length ≤ 4611686018427387903) (hR : Rises L) (n₀ : Nat) (J Jx : List Rw → World → Prop)
    (hY : ∀ pre x W, J pre W → pre.length < L.length → YieldAt Fence.wide (n - 1) Try.prog l (benc x) W fun e W' =>
      (e = .returned (.bool true) ∧ J (pre ++ [x]) W' ∧ Below n₀ W W') ∨ (e = .returned (.bool false) ∧ Jx (pre ++ [x]) W'))
    (W : World) (hJ : AbidesFrom W.heap.size J) (hn₀ : n₀ ≤ W.heap.size) (l1 : B1 < n₀) (l2 : mb < n₀) (l3 : ∀ g, a = some ⟨g, 0, none⟩ → g < n₀) (hB1 : W.cell? ⟨B1, 0, none⟩ = some (.pointer (some ⟨mb, 0, none⟩))) (hB2 : W.cell? ⟨B2, 0, none⟩ = some (.int .i64 step)) (hl : W.cell? ⟨mb, 1, none⟩ = some (.slice a L.length cap)) (hr : RowsAt W a L) (h0 : J [] W) :
    CallsIn Fence.wide n Try.prog 53 #[.func (.yield l) #[] #[], .pointer (some ⟨B1, 0, none⟩), .pointer (some ⟨B2, 0, none⟩)] W fun e W' => (∃ v, e = .returned v) ∧
      ((∃ ys, (∃ N, Upto L step N ∧ ys = upto (brs L N) N) ∧ J ys W') ∨ (∃ pre, (∃ N, Upto L step N ∧ ∃ k, 0 < k ∧ k ≤ N ∧ pre = upto (brs L N) k) ∧ Jx pre W')) := by
  have hmf : ∀ (fn : Fn) (first cap : Array Value) (w : World), (Instr.makeFunc fn first cap).run Try.prog w = .ok (.func fn first cap) w := fun _ _ _ _ => rfl
  have hS := callsIn_wide (n := n - 1).2 (search_any hB1 hB2 hl hr hL hR)
  refine callsIn_of_wp Try.func53 rfl trivial ?_
  simp only [Try.ntmps53, List.size_toArray, List.length_cons, List.length_nil, Nat.reduceAdd, Nat.reduceSub, Array.replicate_succ, Array.replicate_zero, List.push_toArray, List.append_toArray, List.nil_append, List.cons_append]
  gi_wp2_with (refine ⟨trivial, ?_⟩; gi_at_call 54; refine hS.mono ?_; rintro e W2 ⟨N, rfl, hN, hlo, hhi, K2⟩)
  have hU : Upto L step N := ⟨hN, hlo, hhi⟩
  have J2 : J [] W2 := hJ [] W W2 none h0 ⟨K2.os, K2.tape, K2.output, K2.size, fun k hk _ => K2.block k hk (fun e => e)⟩ (fun r e => by cases e)
  have B2' : Below n₀ W W2 := K2.below hn₀ (fun _ _ e => e)
  clear hS hlo hhi K2 h0 hB2
  gi_loopw [5] (fun iv wr => ∃ k : Nat, k ≤ N ∧ iv = .int .i64 ((N : Int) - 1 - (k : Int)) ∧ J (upto (brs L N) k) wr ∧ Below n₀ W wr)
    (fun iv _ => (intOf iv + 1).toNat)
  case atStart => exact ⟨0, Nat.zero_le _, by simp, J2, B2'⟩
  case round =>
    obtain ⟨k, hk, rfl, hJs, hnx⟩ := hrel
    by_cases hlt : k < N
    · obtain ⟨m, hm⟩ : ∃ m : Nat, Hid ((N : Int) - 1 - (k : Int) = (m : Int)) := ⟨N - 1 - k, by show _ = _; omega⟩
      have hmN : Hid (N - 1 - k = m) := by show _ = _; have := hm.out; omega
      have hm2 : m < L.length := by have := hm.out; omega
      rw [hm.out]
      rcases hr with hr | ⟨g, rfl, hg, hr⟩
      · omega
      · have R := (hr m hm2).below hnx (l3 g rfl)
        have c1 := (hnx.cell (p := ⟨B1, 0, none⟩) l1).trans hB1
        have c2 := (hnx.cell (p := ⟨mb, 1, none⟩) l2).trans hl
        obtain ⟨fn, tmps, assign, body, hy, hRd⟩ := hY _ (brs L N k) wr hJs (by rw [upto_length]; omega)
        have hiI : (m : Int) < (L.length : Int) := by omega
        have r0 := R.r0
        have r1 := R.r1
        have r2 := R.r2
        have r3 := R.r3
        have r4 := R.r4
        have r5 := R.r5
        have r6 := R.r6
        simp only [benc, brs, hmN.out] at hy
        generalize ra L m = r at hy r0 r1 r2 r3 r4 r5 r6
        clear R hr
        gi_wp2
        refine hRd.mono ?_
        rintro e W3 (⟨rfl, hJ3, hk3⟩ | ⟨rfl, hJx3⟩)
        · gi_wp2
          go_roundw
          case rel => exact ⟨k + 1, by omega, by have := hm.out; congr 1; simp; omega, by rw [upto_succ]; exact hJ3, hnx.trans hk3⟩
          case measure => simp [intOf]
        · gi_wp2
          refine bodyPost_ret (results_none rfl _ _ _) rfl ?_
          exact ⟨⟨_, rfl⟩, .inr ⟨_, ⟨N, hU, k + 1, by omega, by omega, (upto_succ _ _).symm⟩, hJx3⟩⟩
    · have hk' : k = N := by omega
      have e : ((N : Int) - 1 - (k : Int)) = -1 := by omega
      rw [e]
      gi_wp2
      go_end0
      exact ⟨⟨_, rfl⟩, .inl ⟨_, ⟨N, hU, by rw [hk']⟩, hJs⟩⟩
end Go.Proofs.Ytkkldbellngalaa
