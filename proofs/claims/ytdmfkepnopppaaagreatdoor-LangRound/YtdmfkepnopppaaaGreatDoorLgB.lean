import Derived.Test.YtdmfkepnopppaaaGreatDoorLgA
namespace Go.Proofs.YtdmfkepnopppaaaGreatDoor
open Go.RowKit
theorem can_out {q : Ins} {n : Int} (h : q.code < 1 ∨ 10 < q.code) : q.can n = false := by
  unfold Ins.can
  rcases h with h | h
  · have : decide (1 ≤ q.code) = false := by simp; omega
    rw [this]; rfl
  · have : decide (q.code ≤ 10) = false := by simp; omega
    rw [this, Bool.and_false]; rfl
theorem can_in {q : Ins} {n : Int} (h : 1 ≤ q.code ∧ q.code ≤ 10) : q.can n = ((btw q.dst 0 15 (kdD q.code) && btw q.rel 1 6 (kdR q.code) && btw q.to 0 n (kdL q.code) && btw q.op 1 12 (q.code == 6)) && (fts q.oR q.oN (kdO q.code) && fts q.xR q.xN (kdX q.code) && fts q.yR q.yN (kdY q.code))) := by
  unfold Ins.can
  have h1 : decide (1 ≤ q.code) = true := by simp; omega
  have h2 : decide (q.code ≤ 10) = true := by simp; omega
  rw [h1, h2]; rfl
end Go.Proofs.YtdmfkepnopppaaaGreatDoor
