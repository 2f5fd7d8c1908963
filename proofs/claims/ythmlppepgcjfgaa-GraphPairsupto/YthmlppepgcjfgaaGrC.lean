import Derived.Test.YthmlppepgcjfgaaGrB
namespace Go.Proofs.Ythmlppepgcjfgaa
open Go.RowKit Go.Maps Go.ChangeMaps Go.MapKept Go.WideShapes
attribute [local go_sem] Oper.semAt_some run_store_nf run_store_f
/-- An edge's two nodes in memory. -/
structure E2 (W : World) (b : Nat) (x y : Int) : Prop where
  c0 : W.cell? ⟨b, 0, none⟩ = some (.int .i64 x)
  c1 : W.cell? ⟨b, 1, none⟩ = some (.int .i64 y)
theorem E2.keep {W W' : World} {b : Nat} {x y : Int} {S : Nat → Prop} (h : E2 W b x y) (k : Keeps S W W') (hS : ¬ S b) : E2 W' b x y := ⟨k.cell h.c0 hS, k.cell h.c1 hS⟩
theorem E2.of {W : World} {b : Nat} {c : Eg} (h : CL W b c.ed.cells) : E2 W b (c.f : Int) (c.t : Int) := ⟨h.c 0 _ rfl, h.c 1 _ rfl⟩
end Go.Proofs.Ythmlppepgcjfgaa
