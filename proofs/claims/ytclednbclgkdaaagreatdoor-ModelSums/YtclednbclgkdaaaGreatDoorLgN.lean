import Derived.Test.YtclednbclgkdaaaGreatDoorLgG
namespace Go.Proofs.YtclednbclgkdaaaGreatDoor
open Go.RowKit
attribute [local go_sem] Oper.semAt_some run_store_nf run_store_f
def Ins.jmp (q : Ins) : Bool := q.code == 7 || q.code == 8
/-- Does no jump go back, from the k-th on? -/
def fwd (l : List Ins) : Nat → Bool
  | 0 => true
  | m + 1 => if ((l.getD (l.length - (m + 1)) ins0).jmp && decide ((l.getD (l.length - (m + 1)) ins0).to ≤ ((l.length - (m + 1) : Nat) : Int))) = true then false else fwd l m
theorem fwd_lt {l : List Ins} {k : Nat} (h : k < l.length) : fwd l (l.length - k) = if ((l.getD k ins0).jmp && decide ((l.getD k ins0).to ≤ (k : Int))) = true then false else fwd l (l.length - (k + 1)) := by
  have e : l.length - k = (l.length - (k + 1)) + 1 := by omega
  rw [e]
  show (if ((l.getD (l.length - (l.length - (k + 1) + 1)) ins0).jmp && decide ((l.getD (l.length - (l.length - (k + 1) + 1)) ins0).to ≤ ((l.length - (l.length - (k + 1) + 1) : Nat) : Int))) = true then false else _) = _
  rw [show l.length - (l.length - (k + 1) + 1) = k by omega]
/-- What Forward answers. -/
def fwB (l : List Ins) : Bool := if (chk l).1 = 0 then fwd l l.length else false
end Go.Proofs.YtclednbclgkdaaaGreatDoor
