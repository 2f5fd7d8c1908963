import Derived.Test.YtehblpbefkopbaaDoorIsNum
import Derived.Lib.AtoiErrMem
import Derived.Lib.AppendIntMem
namespace Go.Proofs.YtehblpbefkopbaaDoor
open Go.ChangeShapes Go.WideShapes Go.ChangeAt Go.RowKit

theorem prs_bad {l : List UInt8} (h : numForm l = false) : prsV l = 0 ∧ prsE l = 12 := by
  unfold prsV prsE; rw [if_neg (by simp [h]), if_neg (by simp [h])]; exact ⟨rfl, rfl⟩
theorem prs_ok {l : List UInt8} (h : numForm l = true) (h2 : natv 0 (digs l) ≤ lim l) : prsE l = 0 := by
  unfold prsE; rw [if_pos h, if_pos h2]
theorem prs_range {l : List UInt8} (h : numForm l = true) (h2 : ¬ natv 0 (digs l) ≤ lim l) : prsV l = 0 ∧ prsE l = 13 := by
  unfold prsV prsE; rw [if_neg (fun k => h2 k.2), if_pos h, if_neg h2]; exact ⟨rfl, rfl⟩

/-- What the laid error holds. -/
def ErrIs (w : World) : Prop := ∃ tp p, w.var? Tryd.prog "strconv.ErrRange" = some #[.iface tp p]

theorem format_any (n : Int) (hn : In64 n) (w : World) (ht : Lib.TabIs Tryd.prog w "internal/strconv.uint64pow10" .u64 Lib.pow10Tab) :
    Calls Tryd.prog 42 #[.int .i64 n] w fun e w' => e = .returned (.string ⟨(Lib.itoa n).toArray⟩) ∧ Below w.heap.size w w' := by
  have HT : Hid (Lib.TabIs Tryd.prog w "internal/strconv.uint64pow10" .u64 Lib.pow10Tab) := ht
  clear ht
  go_enter Tryd.func42, Tryd.ntmps42
  go_wp2_with fail
  refine (Tryd.strconv_FormatInt_10 n hn.1 hn.2 _ HT.out).mono ?_
  rintro e w1 ⟨rfl, k, os, hw⟩
  have hb : Below w.heap.size w w1 := by rw [hw]; exact Lib.below_grow _ _ (Nat.le_refl _) _ _
  clear hw
  go_wp2
  go_ret
  exact ⟨rfl, hb⟩
end Go.Proofs.YtehblpbefkopbaaDoor
