import Derived.Test.YtdmfkepnopppaaaGreatDoorLgI
import Derived.Test.YtdmfkepnopppaaaGreatDoorParseW
import Derived.Below
import Derived.Lib.SmallJoins
namespace Go.Proofs.YtdmfkepnopppaaaGreatDoor
open Go.RowKit
attribute [local go_sem] Oper.semAt_some run_store_nf run_store_f
theorem Keeps.ofBelow {w w' : World} (h : Below w.heap.size w w') : Keeps (fun _ => False) w w' := ⟨h.os, h.tape, h.output, h.size, fun k hk _ => h.block k hk⟩
/-- A word of a text, and where it stands. -/
structure Pc where
  t : ByteArray
  ln : Int
  col : Int
def Pc.cells (p : Pc) : List Value := [.string p.t, .int .i64 p.ln, .int .i64 p.col]
/-- What the reading leans on: the laid tables, an error of strconv's, a number of bytealg's. -/
structure PT (w : World) : Prop where
  lt : LT w
  er : ErrIs w
  mx : ∃ m : Int, w.cell? ⟨3, 0, none⟩ = some (.int .i64 m)
theorem gER : Tryz.prog.globalNamed "strconv.ErrRange" = some 10 := by kernel_rfl
theorem errIs_keep {w w' : World} (h : ErrIs w) (k : Keeps (fun _ => False) w w') : ErrIs w' := by
  obtain ⟨tp, p, hv⟩ := h
  exact ⟨tp, p, Go.Joins.var_stays gER hv (k.below (Nat.le_refl _) (fun _ _ e => e)) (Nat.le_refl _)⟩
theorem PT.keep {w w' : World} (h : PT w) (k : Keeps (fun _ => False) w w') : PT w' := ⟨h.lt.keep k, errIs_keep h.er k, by obtain ⟨m, hm⟩ := h.mx; exact ⟨m, k.cell hm (fun e => e)⟩⟩
/-- A text without its first sign, if that is c. -/
def tp (t : ByteArray) (c : UInt8) : ByteArray := ⟨(Lib.trimPrefix t.data.toList [c]).toArray⟩
theorem tp_size (t : ByteArray) (c : UInt8) : (tp t c).size ≤ t.size := by
  have := Lib.trimPrefix_le t.data.toList [c]
  show (Lib.trimPrefix t.data.toList [c]).toArray.size ≤ t.data.size
  simpa using this
def hp (t : ByteArray) (c : UInt8) : Bool := Lib.hasPrefix t.data.toList [c]
def regN (t : ByteArray) : Int := prsV (tp t 114).toList
def regB (t : ByteArray) : Bool := hp t 114 && (prsE (tp t 114).toList == 0) && rg (regN t)
theorem need_ok (w : World) (t : ByteArray) (ln col : Int) : Calls Tryz.prog 65 #[.agg #[.string t, .int .i64 ln, .int .i64 col], .bool true] w fun e w' => e = .returned (.tuple #[]) ∧ Keeps (fun _ => False) w w' := by
  go_enter Tryz.func65, Tryz.ntmps65
  go_wp2
  go_end0
  exact ⟨rfl, (Keeps.refl _ w).alloc _⟩
set_option maxHeartbeats 500000 in
theorem register_any {w : World} (t : ByteArray) (hs : t.size ≤ 4096) (hv : ErrIs w) : Calls Tryz.prog 83 #[.string t] w fun e w' => e = .returned (.tuple #[.int .i64 (regN t), .bool (regB t)]) ∧ Keeps (fun _ => False) w w' := by
  have hC : ∀ W, Calls Tryz.prog 84 #[.string t, .string ⟨#[114]⟩] W fun e w' => e = .returned (.tuple #[.string (tp t 114), .bool (hp t 114)]) ∧ w' = W := fun W => Tryz.strings_CutPrefix t ⟨#[114]⟩ W
  have hP := parse_any (tp t 114) w (by have := tp_size t 114; omega) hv
  have hR := fun W => isReg_any W (regN t)
  unfold regB
  have hN : Hid (regN t = prsV (tp t 114).toList) := rfl
  rw [← hN.out] at hP
  generalize regN t = n at *
  generalize rg n = g at *
  generalize prsE (tp t 114).toList = pe at *
  generalize tp t 114 = t1 at *
  generalize hp t 114 = h1 at *
  cases h1 <;> cases hpe : (pe == 0) <;> cases g <;>
  (go_enter Tryz.func83, Tryz.ntmps83
   go_wp2_with (first | (go_at_call 84; refine (hC _).mono ?_; rintro e w' ⟨rfl, rfl⟩) | (go_at_call 85; refine hP.mono ?_; rintro e w1 ⟨rfl, b1⟩) | (go_at_call 46; refine (hR _).mono ?_; rintro e w' ⟨rfl, rfl⟩))
   go_ret2
   exact ⟨rfl, .ofBelow b1⟩)
end Go.Proofs.YtdmfkepnopppaaaGreatDoor
