import Derived.Test.YteomlhcllmlkpaaGreatDoorTxK
namespace Go.Proofs.YteomlhcllmlkpaaGreatDoor
open Go.RowKit Go.Maps Go.ChangeMaps Go.MapKept Go.WideShapes
attribute [local go_sem] Oper.semAt_some run_store_nf run_store_f
section
variable {w w' : World} {ρ ρ' ρ'' : Nat → Nat} {u j : Nat} {c : Sc} {ab rb n n' : Nat} {x x' : Tx} {f f' : Int → Option Nat} {s s' : Ws} {m m' : Mm} {r r' : Ro}
theorem i64size : (Tryz.prog.info? 2).map (·.size) = some 1 := by kernel_rfl
theorem i64info : (Tryz.prog.info? 2).map (fun i => (i.zero, i.size, i.bytes)) = some (some (.int .i64 0), 1, 8) := by kernel_rfl
set_option maxHeartbeats 400000 in
set_option maxRecDepth 1000000 in
theorem draws0 (w : World) (a : Option Addr) (cap : Nat) : Calls Tryz.prog 15 #[.slice a 0 cap] w fun e w' => ∃ b, e = .returned (.pointer (some ⟨b, 0, none⟩)) ∧ w.heap.size ≤ b ∧ Keeps (fun _ => False) w w' := by
  have hmk := fun W => run_make_row' (P := Tryz.prog) 31 2 (.int .i64 0) 8 Tryz.underlying31 i64info rfl .i64 .i64 0 (by omega) (by omega) W
  have hrun : (Builtin.copy_ #[31, 31] 3 #[.slice (some ⟨w.heap.size, 0, none⟩) 0 0, .slice a 0 cap]).run Tryz.prog (w.alloc (.cells (madeCells #[.int .i64 0] 0) 2)) = .ok (goInt 0) (w.alloc (.cells (madeCells #[.int .i64 0] 0) 2)) := run_copy_none (P := Tryz.prog) _ _ _ _ 2 _ _ _ _ _ _ Tryz.underlying31 i64size rfl
  have hmk0 : ∀ W : World, (Instr.makeSlice 31 (.int .i64 0) (.int .i64 0)).run Tryz.prog W = .ok (.slice (some ⟨W.heap.size, 0, none⟩) 0 0) (W.alloc (.cells (madeCells #[.int .i64 0] 0) 2)) := hmk
  clear hmk
  go_enter Tryz.func15, Tryz.ntmps15
  go_wp2
  go_ret
  exact ⟨_, rfl, by simp, ((Keeps.refl _ w).alloc _).alloc _⟩
/-- The scene's variable, as it is made. -/
theorem CL.p1 {X W : World} (k : Keeps (fun _ => False) (X.alloc (.cells #[.pointer none, .pointer none, .pointer none, .pointer none] 28)).drew W) : CL W X.heap.size [.pointer none, .pointer none, .pointer none, .pointer none] := (CL.made X [.pointer none, .pointer none, .pointer none, .pointer none] _).drew.keep (by show 0 < 4; decide) k (fun e => e)
theorem CL.p2 {X W : World} {o : Obj} (k : Keeps (fun _ => False) ((X.alloc (.cells #[.pointer none, .pointer none, .pointer none, .pointer none] 28)).alloc o).drew W) : CL W X.heap.size [.pointer none, .pointer none, .pointer none, .pointer none] := ((CL.made X [.pointer none, .pointer none, .pointer none, .pointer none] _).alloc (by show 0 < 4; decide) o).drew.keep (by show 0 < 4; decide) k (fun e => e)
theorem CL.p3 {X W : World} (k : Keeps (fun _ => False) (X.alloc (.cells #[.pointer none, .pointer none, .pointer none, .pointer none] 28)) W) : CL W X.heap.size [.pointer none, .pointer none, .pointer none, .pointer none] := (CL.made X [.pointer none, .pointer none, .pointer none, .pointer none] _).keep (by show 0 < 4; decide) k (fun e => e)
theorem CL.p4 {X W : World} {o : Obj} (k : Keeps (fun _ => False) ((X.alloc (.cells #[.pointer none, .pointer none, .pointer none, .pointer none] 28)).alloc o) W) : CL W X.heap.size [.pointer none, .pointer none, .pointer none, .pointer none] := ((CL.made X [.pointer none, .pointer none, .pointer none, .pointer none] _).alloc (by show 0 < 4; decide) o).keep (by show 0 < 4; decide) k (fun e => e)
theorem CL.p5 {X W : World} {b : Nat} (h : CL X b [.pointer none, .pointer none, .pointer none, .pointer none]) (k : Keeps (fun _ => False) X W) : CL W b [.pointer none, .pointer none, .pointer none, .pointer none] := h.keep (by show 0 < 4; decide) k (fun e => e)
theorem CL.p6 {X W : World} {b : Nat} {o : Obj} (h : CL X b [.pointer none, .pointer none, .pointer none, .pointer none]) (k : Keeps (fun _ => False) (X.alloc o) W) : CL W b [.pointer none, .pointer none, .pointer none, .pointer none] := (h.alloc (by show 0 < 4; decide) o).keep (by show 0 < 4; decide) k (fun e => e)
theorem sz_drew (w : World) : w.drew.heap.size = w.heap.size := rfl
theorem sz_alloc (w : World) (o : Obj) : (w.alloc o).heap.size = w.heap.size + 1 := by simp
set_option maxHeartbeats 400000 in
set_option maxRecDepth 1000000 in
theorem num_tx (w : World) (n : Int) : Calls Tryz.prog 7 #[.int .i64 n] w fun e w' => e = .returned (.int .i64 n) ∧ w' = w := by
  go_enter Tryz.func7, Tryz.ntmps7
  go_wp2
  go_ret
  exact ⟨rfl, rfl⟩
/-- Behind the scene's first row: a memory, a stream, the scene's variable. -/
structure S1 (w : World) (mb B db : Nat) (W : World) : Prop where
  mi : MI W mb Mm.new [mb]
  cl : CL W B [.pointer (some ⟨mb, 0, none⟩), .pointer none, .pointer none, .pointer (some ⟨db, 0, none⟩)]
  k : Keeps (fun _ => False) w W
  hm : w.heap.size ≤ mb
  hB : w.heap.size ≤ B
  hd : w.heap.size ≤ db
  ne : mb ≠ B
end
end Go.Proofs.YteomlhcllmlkpaaGreatDoor
