import Derived.Test.YtdpnknleobobkaaGreatDoorXdB
import Derived.Test.YtdpnknleobobkaaGreatDoorXfB
import Derived.Lib.LaidTab
namespace Go.Proofs.YtdpnknleobobkaaGreatDoor
open Go.ChangeShapes Go.WideShapes Go.ChangeAt Go.RowKit Go.Deep Go.Shelf
theorem gLp : Tryz.prog.globalNamed "internal/strconv.uint64pow10" = some 7 := by kernel_rfl
theorem tLp : (Tryz.prog.globals[7]?).map (·.type) = some 164 := by kernel_rfl
/-- What the laid variables give the printing. -/
theorem of_laidP {W : World} (h : laidMetH Tryz.prog laid10 W) (hsh : W.ShapedOpen Tryz.prog) : PG W := by
  have h0 := of_laid10 h hsh
  refine ⟨h0.1, h0.2, ?_⟩
  rw [MakeChecks.laidMetH_plain _ _ _ (by kernel_rfl)] at h
  obtain ⟨ps, ⟨g0, t0, cs0, f0, p0, q0, hg0, ht0, hv0, hd0, ⟨g1, t1, cs1, f1, p1, q1, hg1, ht1, hv1, hd1, ⟨g2, t2, cs2, f2, p2, q2, hg2, ht2, hv2, hd2, ⟨g3, t3, cs3, f3, p3, q3, hg3, ht3, hv3, hd3, ⟨g4, t4, cs4, f4, p4, q4, hg4, ht4, hv4, hd4, ⟨g5, t5, cs5, f5, p5, q5, hg5, ht5, hv5, hd5, ⟨g6, t6, cs6, f6, p6, q6, hg6, ht6, hv6, hd6, ⟨g7, t7, cs7, f7, p7, q7, hg7, ht7, hv7, hd7, ⟨g8, t8, cs8, f8, p8, q8, hg8, ht8, hv8, hd8, ⟨g9, t9, cs9, f9, p9, q9, hg9, ht9, hv9, hd9, ⟨g10, t10, cs10, f10, p10, q10, hg10, ht10, hv10, hd10, _, _⟩, _⟩, _⟩, _⟩, _⟩, _⟩, _⟩, _⟩, _⟩, _⟩, _⟩, _, _⟩ := h
  obtain rfl := Option.some.inj (gLp.symm.trans hg2)
  obtain rfl := Option.some.inj (tLp.symm.trans ht2)
  have cU : Tryz.prog.cellsOf 144 = 1 := by kernel_rfl
  have cT : Tryz.prog.cellsOf 164 = 20 := by kernel_rfl
  have hd2' : DataW.trod (fun _ => ()) Tryz.prog W 0 (fun _ => true) false f2 164 cs2.toList = some (Lib.tabData .u64 Lib.pow10Tab, p2) := hd2
  have e := Lib.cells_of_tab Tryz.underlying164 Tryz.underlying144 cU cT hd2'
  unfold Lib.TabIs
  rw [hv2, ← e]
end Go.Proofs.YtdpnknleobobkaaGreatDoor
