import Derived.Test.YtkfeccocaokdlaaDoorPhJ
namespace Go.Proofs.YtkfeccocaokdlaaDoor
open Go.RowKit
attribute [local go_sem] Oper.semAt_some run_store_nf run_store_f
def nm2 : List Ins := [⟨9, 0, false, 0, false, 0, false, 0, 0, 0, 0⟩, ⟨-9223372036854775808, 0, false, 0, false, 0, false, 0, 0, 0, 0⟩]
def nm1 : List Ins := [⟨9223372036854775807, 0, false, 0, false, 0, false, 0, 0, 0, 0⟩]
theorem fix_list (W : World) (l : List Ins) : ISL (W.alloc (.cells (icl l).toArray 42)) (some ⟨W.heap.size, 0, none⟩) l := fun i hi => ⟨_, 0, rfl, fun j v hv => by
  rw [Nat.zero_add]
  exact (CL.made W (icl l) 42).c _ v (icl_get _ i j v hi hv)⟩
set_option maxHeartbeats 800000 in
set_option maxRecDepth 1000000 in
theorem names_any {w : World} (hT : PT w) (hNT : NT w) : Calls Tryd.prog 6 #[] w fun e w' => e = .returned (.bool true) ∧ Below w.heap.size w w' := by
  have h1 : Calls Tryd.prog 20 #[.slice (some ⟨w.heap.size, 0, none⟩) 2 2] (w.alloc (.cells (icl nm2).toArray 42)) fun e w' => e = .returned (.tuple #[.int .i64 108, .int .i64 1]) ∧ Keeps (fun _ => False) w w' :=
    (check_any (cap := 2) (hT.lt.keep ((Keeps.refl _ w).alloc _)) (fix_list w nm2) (by decide)).mono (fun e w' h => ⟨h.1, ((Keeps.refl _ w).alloc _).trans h.2⟩)
  have h2 : ∀ W, Keeps (fun _ => False) w W → Calls Tryd.prog 20 #[.slice (some ⟨W.heap.size, 0, none⟩) 1 1] (W.alloc (.cells (icl nm1).toArray 42)) fun e w' => e = .returned (.tuple #[.int .i64 108, .int .i64 0]) ∧ Keeps (fun _ => False) W w' := fun W k =>
    (check_any (cap := 1) (hT.lt.keep (k.trans ((Keeps.refl _ W).alloc _))) (fix_list W nm1) (by decide)).mono (fun e w' h => ⟨h.1, ((Keeps.refl _ W).alloc _).trans h.2⟩)
  have h3 := fun W (k : Keeps (fun _ => False) w W) => fixed_ok (hT.keep k) (hNT.keep k)
  clear hT hNT
  go_enter Tryd.func6, Tryd.ntmps6
  go_wp2_with fail
  refine Calls.mono (show Calls Tryd.prog 20 #[.slice (some ⟨w.heap.size, 0, none⟩) 2 2] (w.alloc (.cells (icl nm2).toArray 42)) _ from h1) ?_
  clear h1
  rintro e w1 ⟨rfl, k1⟩
  have g2 := h2 w1 k1
  clear h2
  go_wp2_with fail
  refine Calls.mono (show Calls Tryd.prog 20 #[.slice (some ⟨w1.heap.size, 0, none⟩) 1 1] (w1.alloc (.cells (icl nm1).toArray 42)) _ from g2) ?_
  clear g2
  rintro e w2 ⟨rfl, k2⟩
  have K2 := k1.trans k2
  have g3 := h3 w2 K2
  clear h3 k1 k2
  go_wp2_with fail
  refine g3.mono ?_
  clear g3
  rintro e w3 ⟨rfl, k3⟩
  go_wp2_with fail
  go_ret
  exact ⟨rfl, (K2.trans k3).below (Nat.le_refl _) (fun _ _ e => e)⟩
end Go.Proofs.YtkfeccocaokdlaaDoor
