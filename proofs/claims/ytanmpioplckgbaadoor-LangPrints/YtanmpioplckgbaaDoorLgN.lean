import Derived.Test.YtanmpioplckgbaaDoorLgG
namespace Go.Proofs.YtanmpioplckgbaaDoor
open Go.RowKit
attribute [local go_sem] Oper.semAt_some run_store_nf run_store_f
def Ins.jmp (q : Ins) : Bool := q.code == 7 || q.code == 8
/-- Does no jump go back, from the k-th on? -/
def fwd (l : List Ins) : Nat → Bool
  | 0 => true
  | m + 1 => if ((l.getD (l.length - (m + 1)) ins0).jmp && decide ((l.getD (l.length - (m + 1)) ins0).to ≤ ((l.length - (m + 1) : Nat) : Int))) = true then false else fwd l m
theorem fwd_lt {l : List Ins} {k : Nat} (h : k < l.length) : fwd l (l.length - k) = if ((l.getD k ins0).jmp && decide ((l.getD k ins0).to ≤ (k : Int))) = true then false else fwd l (l.length - (k + 1)) := by
  have e : l.length - k = (l.length - (k + 1)) + 1 := by omega
  rw [e]
  show (if ((l.getD (l.length - (l.length - (k + 1) + 1)) ins0).jmp && decide ((l.getD (l.length - (l.length - (k + 1) + 1)) ins0).to ≤ ((l.length - (l.length - (k + 1) + 1) : Nat) : Int))) = true then false else _) = _
  rw [show l.length - (l.length - (k + 1) + 1) = k by omega]
/-- What Forward answers. -/
def fwB (l : List Ins) : Bool := if (chk l).1 = 0 then fwd l l.length else false
theorem jumps_any (w : World) (q : Ins) : Calls Tryd.prog 21 #[.agg q.cells.toArray] w fun e w' => e = .returned (.bool q.jmp) ∧ Keeps (fun _ => False) w w' := by
  obtain ⟨cd, dst, oR, oN, xR, xN, yR, yN, op, rel, to⟩ := q
  show Calls Tryd.prog 21 #[.agg #[.int .i64 cd, .int .i64 dst, .bool oR, .int .i64 oN, .bool xR, .int .i64 xN, .bool yR, .int .i64 yN, .int .i64 op, .int .i64 rel, .int .i64 to]] w _
  have k : Keeps (fun _ => False) w (w.alloc (.cells #[.int .i64 cd, .int .i64 dst, .bool oR, .int .i64 oN, .bool xR, .int .i64 xN, .bool yR, .int .i64 yN, .int .i64 op, .int .i64 rel, .int .i64 to] 31)) := (Keeps.refl _ w).alloc _
  unfold Ins.jmp
  simp only
  cases h1 : (cd == 7) <;> cases h2 : (cd == 8) <;>
  (go_enter Tryd.func21, Tryd.ntmps21
   go_wp2
   go_ret
   exact ⟨rfl, k⟩)
theorem rjumps_any (w : World) (q : Ins) : Calls Tryd.prog 30 #[.agg q.cells.toArray] w fun e w' => e = .returned (.bool q.jmp) ∧ Keeps (fun _ => False) w w' := by
  obtain ⟨cd, dst, oR, oN, xR, xN, yR, yN, op, rel, to⟩ := q
  show Calls Tryd.prog 30 #[.agg #[.int .i64 cd, .int .i64 dst, .bool oR, .int .i64 oN, .bool xR, .int .i64 xN, .bool yR, .int .i64 yN, .int .i64 op, .int .i64 rel, .int .i64 to]] w _
  have k : Keeps (fun _ => False) w (w.alloc (.cells #[.int .i64 cd, .int .i64 dst, .bool oR, .int .i64 oN, .bool xR, .int .i64 xN, .bool yR, .int .i64 yN, .int .i64 op, .int .i64 rel, .int .i64 to] 42)) := (Keeps.refl _ w).alloc _
  unfold Ins.jmp
  simp only
  cases h1 : (cd == 7) <;> cases h2 : (cd == 8) <;>
  (go_enter Tryd.func30, Tryd.ntmps30
   go_wp2
   go_ret
   exact ⟨rfl, k⟩)
end Go.Proofs.YtanmpioplckgbaaDoor
