import Derived.Test.YtefnjcdcdfmgpaaGreatDoorKeepSt
import Derived.Test.YtefnjcdcdfmgpaaGreatDoorRows
import Derived.Test.YtefnjcdcdfmgpaaGreatDoorTie
import Derived.Test.YtefnjcdcdfmgpaaGreatDoorCards
import Derived.ProofKit
import Derived.LaidMore
import Derived.OpenShut
import Derived.ChangeArms
import Derived.Stop.Joined
import Derived.SevenTiedAt
import Derived.FnData
import Derived.ShutString
namespace Go.Proofs.YtefnjcdcdfmgpaaGreatDoor
open Go.ChangeShapes Go.WideShapes Go.ChangeAt Go.RowKit

theorem own : ownKnob Tryz.prog.godebug = none := by kernel_rfl
theorem gTr : Tryz.prog.globalNamed "braid/cm.traits" = some 0 := by kernel_rfl
theorem tTr : (Tryz.prog.globals[0]?).map (·.type) = some 155 := by kernel_rfl
def laid1 : List (String × DataW Unit) := [("braid/cm.traits", Rows.laid_braid_cm_traits)]
theorem door_met (os : Os) (args : Array Value) : laidMetH Tryz.prog laid1 ((World.doorLaid Tryz.prog 400 os).forCall (fun _ _ => 0) ⟨#[], args, []⟩).memory :=
  laidMetH_of_parts3 (fuel := 8) (laidMet_of_run' 8 (by kernel_rfl) (by kernel_rfl)) (by kernel_rfl) (by kernel_rfl)
/-- The kinds' names, and what is told of each. -/
def nmT (i : Nat) : ByteArray := ⟨(([#[112, 111, 108, 105, 116, 101], #[107, 97, 114, 109, 97], #[112, 111, 108, 107, 97], #[103, 114, 101, 101, 100, 121], #[111, 114, 97, 99, 108, 101]] : List (Array UInt8)).getD i #[])⟩
def lkT (i : Nat) : Int := ([0, 1, 1, 2, 0] : List Int).getD i 0
def kpT (i : Nat) : Bool := ([false, true, true, false, false] : List Bool).getD i false
def flT (i : Nat) : Bool := ([false, false, false, true, false] : List Bool).getD i false
/-- The table of what is told of a kind. -/
def TR (w : World) : Prop := ∀ i, i < 5 → w.cell? ⟨0, i * 4, none⟩ = some (.string (nmT i)) ∧ w.cell? ⟨0, i * 4 + 1, none⟩ = some (.int .i64 (lkT i)) ∧ w.cell? ⟨0, i * 4 + 2, none⟩ = some (.bool (kpT i)) ∧ w.cell? ⟨0, i * 4 + 3, none⟩ = some (.bool (flT i))
theorem TR.keep {w w' : World} (h : TR w) (k : Keeps (fun _ => False) w w') : TR w' := fun i hi => ⟨k.cell (h i hi).1 id, k.cell (h i hi).2.1 id, k.cell (h i hi).2.2.1 id, k.cell (h i hi).2.2.2 id⟩
/-- One kind's four cells. -/
theorem four {H : Type} {enc : TypeId × Value → H} {P : Program} {W : World} {spare : Nat → Bool} {held : Bool} {fuel : Nat} {e : TypeId} {f0 f1 f2 f3 : Field} {v0 v1 v2 v3 : Value} {s : List UInt8} {n : Int} {b c : Bool} {q : List MemPlace}
    (hs : P.underlying e = some (.struct #[f0, f1, f2, f3])) (o0 : f0.offset = 0) (o1 : f1.offset = 1) (o2 : f2.offset = 2) (o3 : f3.offset = 3) (c0 : P.cellsOf f0.type = 1) (c1 : P.cellsOf f1.type = 1) (c2 : P.cellsOf f2.type = 1) (c3 : P.cellsOf f3.type = 1)
    (u0 : P.underlying f0.type = some .string) (u1 : P.underlying f1.type = some (.int .i64)) (u2 : P.underlying f2.type = some .bool) (u3 : P.underlying f3.type = some .bool)
    (h : DataW.trod enc P W 0 spare held fuel e [v0, v1, v2, v3] = some (.agg [.lit (.string s), .lit (.int .i64 n), .lit (.bool b), .lit (.bool c)], q)) : v0 = .string ⟨s.toArray⟩ ∧ v1 = .int .i64 n ∧ v2 = .bool b ∧ v3 = .bool c := by
  obtain ⟨xs, k, _, hx, _, hxl, hf⟩ := DataW.trod_struct hs h
  match xs, hxl with
  | [y0, y1, y2, y3], _ =>
    have g0 := hf 0 f0 rfl
    have g1 := hf 1 f1 rfl
    have g2 := hf 2 f2 rfl
    have g3 := hf 3 f3 rfl
    simp [o0, o1, o2, o3, c0, c1, c2, c3] at g0 g1 g2 g3
    simp at hx
    obtain ⟨⟨x0, x1, x2, x3⟩, _⟩ := hx
    obtain ⟨s', e1, e2, _⟩ := DataW.trod_string u0 g0
    obtain ⟨n', r1, t1, _⟩ := DataW.trod_int u1 g1
    obtain ⟨b', r2, t2⟩ := DataW.trod_bool u2 g2
    obtain ⟨c', r3, t3⟩ := DataW.trod_bool u3 g3
    simp at e1 r1 r2 r3
    rw [e2] at x0
    rw [t1] at x1
    rw [t2] at x2
    rw [t3] at x3
    simp at x0 x1 x2 x3
    subst r1 r2 r3 e1
    rw [x0, ← x1, ← x2, ← x3]
    simp
theorem of_laid {W : World} (h : laidMetH Tryz.prog laid1 W) : TR W := by
  rw [MakeChecks.laidMetH_plain _ _ _ (by kernel_rfl)] at h
  obtain ⟨ps, ⟨g0, t0, cs0, f0, p0, q0, hg0, ht0, hv0, hd0, _, _⟩, _, _⟩ := h
  obtain rfl := Option.some.inj (gTr.symm.trans hg0)
  obtain rfl := Option.some.inj (tTr.symm.trans ht0)
  have cell := fun i => World.var?_cell hg0 hv0 i
  obtain ⟨xs, m, _, hx, hlen, hn, hel⟩ := DataW.trod_array Tryz.underlying155 hd0
  have c20 : Tryz.prog.cellsOf 155 = 20 := by kernel_rfl
  have c4 : Tryz.prog.cellsOf 139 = 4 := by kernel_rfl
  rw [c20] at hlen
  obtain ⟨cl⟩ := cs0
  simp only at hlen hel cell
  rw [c4] at hel
  match xs, hn, cl, hlen with
  | [y0, y1, y2, y3, y4], _, [c0, c1, c2, c3, c4, c5, c6, c7, c8, c9, c10, c11, c12, c13, c14, c15, c16, c17, c18, c19], _ =>
    have e0 := hel 0 (by omega)
    have e1 := hel 1 (by omega)
    have e2 := hel 2 (by omega)
    have e3 := hel 3 (by omega)
    have e4 := hel 4 (by omega)
    simp at e0 e1 e2 e3 e4
    simp [Rows.laid_braid_cm_traits] at hx
    obtain ⟨⟨x0, x1, x2, x3, x4⟩, _⟩ := hx
    obtain ⟨k00, k01, k02, k03⟩ := four (q := y0.2) Tryz.underlying139 rfl rfl rfl rfl (by kernel_rfl) (by kernel_rfl) (by kernel_rfl) (by kernel_rfl) (by kernel_rfl) (by kernel_rfl) (by kernel_rfl) (by kernel_rfl) (e0.trans (congrArg some (Prod.ext x0.symm rfl)))
    obtain ⟨k10, k11, k12, k13⟩ := four (q := y1.2) Tryz.underlying139 rfl rfl rfl rfl (by kernel_rfl) (by kernel_rfl) (by kernel_rfl) (by kernel_rfl) (by kernel_rfl) (by kernel_rfl) (by kernel_rfl) (by kernel_rfl) (e1.trans (congrArg some (Prod.ext x1.symm rfl)))
    obtain ⟨k20, k21, k22, k23⟩ := four (q := y2.2) Tryz.underlying139 rfl rfl rfl rfl (by kernel_rfl) (by kernel_rfl) (by kernel_rfl) (by kernel_rfl) (by kernel_rfl) (by kernel_rfl) (by kernel_rfl) (by kernel_rfl) (e2.trans (congrArg some (Prod.ext x2.symm rfl)))
    obtain ⟨k30, k31, k32, k33⟩ := four (q := y3.2) Tryz.underlying139 rfl rfl rfl rfl (by kernel_rfl) (by kernel_rfl) (by kernel_rfl) (by kernel_rfl) (by kernel_rfl) (by kernel_rfl) (by kernel_rfl) (by kernel_rfl) (e3.trans (congrArg some (Prod.ext x3.symm rfl)))
    obtain ⟨k40, k41, k42, k43⟩ := four (q := y4.2) Tryz.underlying139 rfl rfl rfl rfl (by kernel_rfl) (by kernel_rfl) (by kernel_rfl) (by kernel_rfl) (by kernel_rfl) (by kernel_rfl) (by kernel_rfl) (by kernel_rfl) (e4.trans (congrArg some (Prod.ext x4.symm rfl)))
    have z0 : W.cell? ⟨0, 0, none⟩ = some c0 := by rw [cell 0]; rfl
    have z1 : W.cell? ⟨0, 1, none⟩ = some c1 := by rw [cell 1]; rfl
    have z2 : W.cell? ⟨0, 2, none⟩ = some c2 := by rw [cell 2]; rfl
    have z3 : W.cell? ⟨0, 3, none⟩ = some c3 := by rw [cell 3]; rfl
    have z4 : W.cell? ⟨0, 4, none⟩ = some c4 := by rw [cell 4]; rfl
    have z5 : W.cell? ⟨0, 5, none⟩ = some c5 := by rw [cell 5]; rfl
    have z6 : W.cell? ⟨0, 6, none⟩ = some c6 := by rw [cell 6]; rfl
    have z7 : W.cell? ⟨0, 7, none⟩ = some c7 := by rw [cell 7]; rfl
    have z8 : W.cell? ⟨0, 8, none⟩ = some c8 := by rw [cell 8]; rfl
    have z9 : W.cell? ⟨0, 9, none⟩ = some c9 := by rw [cell 9]; rfl
    have z10 : W.cell? ⟨0, 10, none⟩ = some c10 := by rw [cell 10]; rfl
    have z11 : W.cell? ⟨0, 11, none⟩ = some c11 := by rw [cell 11]; rfl
    have z12 : W.cell? ⟨0, 12, none⟩ = some c12 := by rw [cell 12]; rfl
    have z13 : W.cell? ⟨0, 13, none⟩ = some c13 := by rw [cell 13]; rfl
    have z14 : W.cell? ⟨0, 14, none⟩ = some c14 := by rw [cell 14]; rfl
    have z15 : W.cell? ⟨0, 15, none⟩ = some c15 := by rw [cell 15]; rfl
    have z16 : W.cell? ⟨0, 16, none⟩ = some c16 := by rw [cell 16]; rfl
    have z17 : W.cell? ⟨0, 17, none⟩ = some c17 := by rw [cell 17]; rfl
    have z18 : W.cell? ⟨0, 18, none⟩ = some c18 := by rw [cell 18]; rfl
    have z19 : W.cell? ⟨0, 19, none⟩ = some c19 := by rw [cell 19]; rfl
    intro i hi
    match i, hi with
    | 0, _ => exact ⟨z0.trans (by rw [k00]; rfl), z1.trans (by rw [k01]; rfl), z2.trans (by rw [k02]; rfl), z3.trans (by rw [k03]; rfl)⟩
    | 1, _ => exact ⟨z4.trans (by rw [k10]; rfl), z5.trans (by rw [k11]; rfl), z6.trans (by rw [k12]; rfl), z7.trans (by rw [k13]; rfl)⟩
    | 2, _ => exact ⟨z8.trans (by rw [k20]; rfl), z9.trans (by rw [k21]; rfl), z10.trans (by rw [k22]; rfl), z11.trans (by rw [k23]; rfl)⟩
    | 3, _ => exact ⟨z12.trans (by rw [k30]; rfl), z13.trans (by rw [k31]; rfl), z14.trans (by rw [k32]; rfl), z15.trans (by rw [k33]; rfl)⟩
    | 4, _ => exact ⟨z16.trans (by rw [k40]; rfl), z17.trans (by rw [k41]; rfl), z18.trans (by rw [k42]; rfl), z19.trans (by rw [k43]; rfl)⟩
end Go.Proofs.YtefnjcdcdfmgpaaGreatDoor
