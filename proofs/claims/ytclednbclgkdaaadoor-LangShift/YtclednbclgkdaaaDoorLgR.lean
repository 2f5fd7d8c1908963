import Derived.Test.YtclednbclgkdaaaDoorLgQ
namespace Go.Proofs.YtclednbclgkdaaaDoor
open Go.RowKit
attribute [local go_sem] Oper.semAt_some run_store_nf run_store_f
/-- A slice's block is new. -/
def NewB (w : World) (v : Value) : Prop := ∀ a n c, v = .slice a n c → ∀ b off, a = some ⟨b, off, none⟩ → w.heap.size ≤ b
theorem NewB.mk {w : World} {x n c : Nat} (h : w.heap.size ≤ x) : NewB w (.slice (some ⟨x, 0, none⟩) n c) := fun _ _ _ e b off h' => by
  injection e with e1 _ _
  rw [← e1] at h'
  injection h' with h'
  injection h' with h1 _ _
  omega
theorem NewB.nil {w : World} {n c : Nat} : NewB w (.slice none n c) := fun _ _ _ e b off h' => by
  injection e with e1 _ _
  rw [← e1] at h'
  cases h'
/-- The places at which a walk may go on. -/
def Ins.nxt (q : Ins) (p : Int) : List Int := if q.code = 8 then [q.to] else if q.code = 7 then [q.to, p + 1] else if q.code = 9 ∨ q.code = 10 then [] else [p + 1]
set_option maxHeartbeats 500000 in
set_option maxRecDepth 100000 in
theorem nexts_any (w : World) (q : Ins) (p : Int) (hp : 0 ≤ p ∧ p ≤ 100) : Calls Tryd.prog 33 #[.agg q.cells.toArray, .int .i64 p] w fun e w' => ∃ v, e = .returned v ∧ SLI w' v (q.nxt p) ∧ Keeps (fun _ => False) w w' ∧ NewB w v := by
  obtain ⟨cd, dst, oR, oN, xR, xN, yR, yN, op, rel, to⟩ := q
  show Calls Tryd.prog 33 #[.agg #[.int .i64 cd, .int .i64 dst, .bool oR, .int .i64 oN, .bool xR, .int .i64 xN, .bool yR, .int .i64 yN, .int .i64 op, .int .i64 rel, .int .i64 to], .int .i64 p] w _
  have k0 : Keeps (fun _ => False) w (w.alloc (.cells #[.int .i64 cd, .int .i64 dst, .bool oR, .int .i64 oN, .bool xR, .int .i64 xN, .bool yR, .int .i64 yN, .int .i64 op, .int .i64 rel, .int .i64 to] 38)) := (Keeps.refl _ w).alloc _
  have hw1 : IntKind.i64.wrap (p + 1) = p + 1 := by rw [IntKind.wrap_i64]; omega
  unfold Ins.nxt
  simp only
  by_cases h8 : cd = 8
  · rw [if_pos h8]
    subst h8
    go_enter Tryd.func33, Tryd.ntmps33
    go_wp2
    go_ret
    refine ⟨_, rfl, ⟨_, _, rfl, fun j x hj => ?_⟩, k0.alloc _, .mk (by simp)⟩
    obtain ⟨rfl, rfl⟩ : j = 0 ∧ x = to := by
      cases j with
      | zero => exact ⟨rfl, by simpa using hj.symm⟩
      | succ j => simp at hj
    exact ⟨_, _, rfl, by simp⟩
  · rw [if_neg h8]
    have b8 : (cd == 8) = false := by simpa using h8
    by_cases h7 : cd = 7
    · rw [if_pos h7]
      subst h7
      go_enter Tryd.func33, Tryd.ntmps33
      go_wp2
      go_ret
      refine ⟨_, rfl, ⟨_, _, rfl, fun j x hj => ?_⟩, k0.alloc _, .mk (by simp)⟩
      rcases (by have := (List.getElem?_eq_some_iff.1 hj).1; simp at this; omega : j = 0 ∨ j = 1) with rfl | rfl
      · obtain rfl : x = to := by simpa using hj.symm
        exact ⟨_, _, rfl, by simp⟩
      · obtain rfl : x = p + 1 := by simpa using hj.symm
        exact ⟨_, _, rfl, by simp⟩
    · rw [if_neg h7]
      have b7 : (cd == 7) = false := by simpa using h7
      by_cases h9 : cd = 9
      · rw [if_pos (.inl h9)]
        subst h9
        go_enter Tryd.func33, Tryd.ntmps33
        go_wp2
        go_ret
        exact ⟨_, rfl, ⟨none, 0, rfl, fun j x hj => by simp at hj⟩, k0, .nil⟩
      · have b9 : (cd == 9) = false := by simpa using h9
        by_cases h10 : cd = 10
        · rw [if_pos (.inr h10)]
          subst h10
          go_enter Tryd.func33, Tryd.ntmps33
          go_wp2
          go_ret
          exact ⟨_, rfl, ⟨none, 0, rfl, fun j x hj => by simp at hj⟩, k0, .nil⟩
        · have b10 : (cd == 10) = false := by simpa using h10
          rw [if_neg (by omega)]
          go_enter Tryd.func33, Tryd.ntmps33
          go_wp2
          go_ret
          refine ⟨_, rfl, ⟨_, _, rfl, fun j x hj => ?_⟩, k0.alloc _, .mk (by simp)⟩
          obtain ⟨rfl, rfl⟩ : j = 0 ∧ x = p + 1 := by
            cases j with
            | zero => exact ⟨rfl, by simpa using hj.symm⟩
            | succ j => simp at hj
          exact ⟨_, _, rfl, by simp⟩
end Go.Proofs.YtclednbclgkdaaaDoor
