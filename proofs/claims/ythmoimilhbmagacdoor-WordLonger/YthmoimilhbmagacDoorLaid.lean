import Derived.Test.YthmoimilhbmagacDoorRound
import Derived.ProofKit
import Derived.LaidMore
import Derived.OpenShut
import Derived.Stop.Joined
import Derived.FnData
import Derived.Lib.LaidTab
namespace Go.Proofs.YthmoimilhbmagacDoor
open Go.ChangeShapes Go.WideShapes Go.ChangeAt Go.RowKit

theorem own : ownKnob Tryd.prog.godebug = none := by kernel_rfl
theorem gPow : Tryd.prog.globalNamed "internal/strconv.uint64pow10" = some 0 := by kernel_rfl
theorem gErr : Tryd.prog.globalNamed "strconv.ErrRange" = some 2 := by kernel_rfl
theorem tPow : (Tryd.prog.globals[0]?).map (·.type) = some 65 := by kernel_rfl
theorem tErr : (Tryd.prog.globals[2]?).map (·.type) = some 41 := by kernel_rfl
def laid5 : List (String × DataW Unit) := [("math/bits.deBruijn32tab", Rows.laid_math_bits_deBruijn32tab), ("math/bits.deBruijn64tab", Rows.laid_math_bits_deBruijn64tab), ("internal/strconv.uint64pow10", Rows.laid_internal_strconv_uint64pow10), ("strconv.ErrRange", Rows.laid_strconv_ErrRange), ("strconv.ErrSyntax", Rows.laid_strconv_ErrSyntax)]

theorem door_met (os : Os) (args : Array Value) : laidMetH Tryd.prog laid5 ((World.doorLaid Tryd.prog 400 os).forCall (fun _ _ => 0) ⟨#[], args, []⟩).memory :=
  laidMetH_of_parts3 (fuel := 8) (laidMet_of_run' 8 (by kernel_rfl) (by kernel_rfl)) (by kernel_rfl) (by kernel_rfl)

/-- What reads as a value in an interface is one. -/
theorem iface_of {H : Type} {enc : TypeId × Value → H} {P : Program} {W : World} {base fuel : Nat} {spare : Nat → Bool} {held : Bool} {t : TypeId} {ms : Array (String × TypeId)} {cs : Array Value} {nm : String} {d : DataW H} {q : List MemPlace}
    (ht : P.underlying t = some (.interface ms)) (h : DataW.trod enc P W base spare held fuel t cs.toList = some (.iface nm d, q)) : ∃ tp p, cs = #[.iface tp p] := by
  cases fuel with
  | zero => simp [DataW.trod] at h
  | succ n =>
    obtain ⟨l⟩ := cs
    simp only at h
    match l, h with
    | [], h => simp [DataW.trod, ht] at h
    | [v], h =>
      cases v <;> first | exact ⟨_, _, rfl⟩ | (exfalso; simp [DataW.trod, ht] at h; done) | (exfalso; cases held <;> simp [DataW.trod, ht] at h)
    | a :: b :: r, h => simp [DataW.trod, ht] at h

theorem of_laid {W : World} (h : laidMetH Tryd.prog laid5 W) : Env W := by
  rw [MakeChecks.laidMetH_plain _ _ _ (by kernel_rfl)] at h
  obtain ⟨ps, ⟨g0, t0, cs0, f0, p0, q0, hg0, ht0, hv0, hd0, ⟨g1, t1, cs1, f1, p1, q1, hg1, ht1, hv1, hd1, ⟨g2, t2, cs2, f2, p2, q2, hg2, ht2, hv2, hd2, ⟨g3, t3, cs3, f3, p3, q3, hg3, ht3, hv3, hd3, _, _⟩, _⟩, _⟩, _⟩, _, _⟩ := h
  obtain rfl := Option.some.inj (gPow.symm.trans hg2)
  obtain rfl := Option.some.inj (gErr.symm.trans hg3)
  obtain rfl := Option.some.inj (tPow.symm.trans ht2)
  obtain rfl := Option.some.inj (tErr.symm.trans ht3)
  have cU : Tryd.prog.cellsOf 44 = 1 := by kernel_rfl
  have cT : Tryd.prog.cellsOf 65 = 20 := by kernel_rfl
  have hd2' : DataW.trod (fun _ => ()) Tryd.prog W 0 (fun _ => true) false f2 65 cs2.toList = some (Lib.tabData .u64 Lib.pow10Tab, p2) := hd2
  refine ⟨?_, ?_⟩
  · have e := Lib.cells_of_tab Tryd.underlying65 Tryd.underlying44 cU cT hd2'
    unfold Lib.TabIs
    rw [hv2, ← e]
  · obtain ⟨tp, p, rfl⟩ := iface_of Tryd.underlying41 hd3
    exact ⟨tp, p, hv3⟩
end Go.Proofs.YthmoimilhbmagacDoor
