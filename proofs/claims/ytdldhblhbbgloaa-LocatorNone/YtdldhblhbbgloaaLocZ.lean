import Derived.Test.YtdldhblhbbgloaaLocHead
import Derived.Laws.ResultCell
namespace Go.Proofs.Ytdldhblhbbgloaa
open Go.RowKit
theorem weq0 : ∀ w : World, (binOp .eql 36 (.pointer none) (.pointer none)).run Try.prog w = .ok (.bool true) w := fun w => by kernel_rfl
theorem mneq0 : ∀ w : World, (binOp .neq 40 (.pointer none) (.pointer none)).run Try.prog w = .ok (.bool false) w := fun w => by kernel_rfl
/-- The zero World. -/
structure ZW (w : World) (wb : Nat) : Prop where
  c0 : w.cell? ⟨wb, 0, none⟩ = some (.pointer none)
  c1 : w.cell? ⟨wb, 1, none⟩ = some (.slice none 0 0)
  c2 : w.cell? ⟨wb, 2, none⟩ = some (.slice none 0 0)
  c3 : w.cell? ⟨wb, 3, none⟩ = some (.slice none 0 0)
  c4 : w.cell? ⟨wb, 4, none⟩ = some (.slice none 0 0)
/-- A nil World or the zero one. -/
def ZP (w : World) (p : Option Addr) : Prop := p = none ∨ ∃ wb, p = some ⟨wb, 0, none⟩ ∧ ZW w wb
section
variable {w w' : World} {p : Option Addr}
theorem ZP.new (h : ZP w p) (k : Keeps (fun _ => False) w w') : ZP w' p := h.imp id (fun ⟨wb, e, z⟩ => ⟨wb, e, k.cell z.c0 (fun e => e), k.cell z.c1 (fun e => e), k.cell z.c2 (fun e => e), k.cell z.c3 (fun e => e), k.cell z.c4 (fun e => e)⟩)
theorem zpj {wb k e z : Nat} (h : w.cell? ⟨wb, k, none⟩ = some (.slice none 0 0)) : PJ w (fun _ => 0) ⟨wb, k, none⟩ 0 e z (.slice none 0 0) 0 [] := ⟨h, World.ownsRow_nil _ _ _ _, fun _ e => by cases e⟩
theorem zi (i : Int) : i < 0 ∨ ((0 : Nat) : Int) ≤ i := by omega
set_option maxHeartbeats 1600000 in
set_option maxRecDepth 1000000 in
theorem zattempt (h : ZP w p) (i : Int) :
    Calls Try.prog 49 #[.pointer p, .int .i64 i] w fun e w' => e = .returned (.pointer none) ∧ Keeps (fun _ => False) w w' := by
  have hw := weq0
  rcases h with rfl | ⟨wb, rfl, z⟩
  · go_enter Try.func49, Try.ntmps49
    go_wp2_with fail
    go_ret
    exact ⟨rfl, Keeps.refl _ _⟩
  · have ha := atNotA (zpj (e := 88) (z := 5) z.c2) (zi i)
    have hp := weq wb
    clear z
    go_enter Try.func49, Try.ntmps49
    go_wp2_with (go_at_call 66; refine ha.mono ?_; rintro e w' ⟨rfl, rfl⟩)
    go_ret
    exact ⟨rfl, Keeps.refl _ _⟩
set_option maxHeartbeats 1600000 in
set_option maxRecDepth 1000000 in
theorem zlocator (h : ZP w p) (i : Int) :
    Calls Try.prog 52 #[.pointer p, .int .i64 i] w fun e w' => e = .returned (.pointer none) ∧ Keeps (fun _ => False) w w' := by
  have hw := weq0
  rcases h with rfl | ⟨wb, rfl, z⟩
  · go_enter Try.func52, Try.ntmps52
    go_wp2_with fail
    go_ret
    exact ⟨rfl, Keeps.refl _ _⟩
  · have ha := atNotL (zpj (e := 92) (z := 4) z.c3) (zi i)
    have hp := weq wb
    clear z
    go_enter Try.func52, Try.ntmps52
    go_wp2_with (go_at_call 43; refine ha.mono ?_; rintro e w' ⟨rfl, rfl⟩)
    go_ret
    exact ⟨rfl, Keeps.refl _ _⟩
set_option maxHeartbeats 1600000 in
set_option maxRecDepth 1000000 in
theorem zObjects (h : ZP w p)  :
    Calls Try.prog 16 #[.pointer p] w fun e w' => e = .returned (.int .i64 0) ∧ Keeps (fun _ => False) w w' := by
  have hw := weq0
  rcases h with rfl | ⟨wb, rfl, z⟩
  · go_enter Try.func16, Try.ntmps16
    go_wp2_with fail
    go_ret
    exact ⟨rfl, Keeps.refl _ _⟩
  · have ha := sizeO (zpj (e := 3) (z := 1) z.c1)
    have hp := weq wb
    clear z
    go_enter Try.func16, Try.ntmps16
    go_wp2_with (go_at_call 47; refine ha.mono ?_; rintro e w' ⟨rfl, rfl⟩)
    go_ret
    exact ⟨rfl, Keeps.refl _ _⟩
set_option maxHeartbeats 1600000 in
set_option maxRecDepth 1000000 in
theorem zOCell (h : ZP w p) (i : Int) :
    Calls Try.prog 31 #[.pointer p, .int .i64 i] w fun e w' => e = .returned (.tuple #[.int .i64 0, .int .i64 50]) ∧ Keeps (fun _ => False) w w' := by
  have hw := weq0
  rcases h with rfl | ⟨wb, rfl, z⟩
  · go_enter Try.func31, Try.ntmps31
    go_wp2_with fail
    go_ret2
    exact ⟨rfl, Keeps.refl _ _⟩
  · have ha := atNotO (zpj (e := 3) (z := 1) z.c1) (zi i)
    have hp := weq wb
    have hq := oeq0
    clear z
    go_enter Try.func31, Try.ntmps31
    go_wp2_with (go_at_call 57; refine ha.mono ?_; rintro e w' ⟨rfl, rfl⟩)
    go_ret2
    exact ⟨rfl, Keeps.refl _ _⟩
set_option maxHeartbeats 1600000 in
set_option maxRecDepth 1000000 in
theorem zroom {wb : Nat} (z : ZW w wb) (c : Int) : Calls Try.prog 40 #[.pointer (some ⟨wb, 0, none⟩), .int .i64 c] w fun e w' => e = .returned (.bool false) ∧ w = w' := by
  have hp := mneq0
  have c0 := z.c0
  go_enter Try.func40, Try.ntmps40
  go_wp2_with fail
  go_ret
  exact ⟨rfl, rfl⟩
set_option maxHeartbeats 1600000 in
set_option maxRecDepth 1000000 in
theorem zAttempt (h : ZP w p) (a b c : Int) :
    Calls Try.prog 17 #[.pointer p, .agg #[.int .i64 a, .int .i64 b, .int .i64 c]] w fun e w' => e = .returned (.tuple #[.int .i64 0, .int .i64 58]) ∧ Keeps (fun _ => False) w w' := by
  have hw := weq0
  obtain ⟨w0, hw0⟩ : ∃ w0, w0 = w.alloc (.cells #[.int .i64 a, .int .i64 b, .int .i64 c] 63) := ⟨_, rfl⟩
  have K0 : Keeps (fun _ => False) w w0 := by rw [hw0]; exact (Keeps.refl _ w).alloc _
  rcases h.new K0 with rfl | ⟨wb, rfl, z⟩
  · go_enter Try.func17, Try.ntmps17
    go_wp2_with fail
    go_ret2
    exact ⟨rfl, (Keeps.refl _ w).alloc _⟩
  · have ha := sizeA (zpj (e := 88) (z := 5) z.c2)
    have hr := zroom z 2
    have hp := weq wb
    clear z h
    go_enter Try.func17, Try.ntmps17
    go_wp2_with fail
    rw [← hw0]
    clear hw0
    refine ha.mono ?_
    rintro e w' ⟨rfl, rfl⟩
    go_wp2_with (go_at_call 40; refine hr.mono ?_; rintro e w' ⟨rfl, rfl⟩)
    go_ret2
    exact ⟨rfl, K0⟩
set_option maxHeartbeats 1600000 in
set_option maxRecDepth 1000000 in
theorem zOwner (h : ZP w p) (i : Int) :
    Calls Try.prog 18 #[.pointer p, .int .i64 i] w fun e w' => e = .returned (.tuple #[.agg #[.int .i64 0, .int .i64 0, .int .i64 0], .int .i64 51]) ∧ Keeps (fun _ => False) w w' := by
  obtain ⟨w0, hw0⟩ : ∃ w0, w0 = w.alloc (.cells #[.int .i64 0, .int .i64 0, .int .i64 0] 63) := ⟨_, rfl⟩
  have K0 : Keeps (fun _ => False) w w0 := by rw [hw0]; exact (Keeps.refl _ w).alloc _
  have b0 : w0.cell? ⟨w.heap.size, 0, none⟩ = some (.int .i64 0) := by rw [hw0]; simp
  have b1 : w0.cell? ⟨w.heap.size, 1, none⟩ = some (.int .i64 0) := by rw [hw0]; simp
  have b2 : w0.cell? ⟨w.heap.size, 2, none⟩ = some (.int .i64 0) := by rw [hw0]; simp
  have bz : ∀ o, w0.frozen? ⟨w.heap.size, o, none⟩ = false := by intro o; rw [hw0]; simp
  have z0 := bz 0
  have z1 := bz 1
  have z2 := bz 2
  have ha := zattempt (h.new K0) i
  have hq := aeq0
  clear h bz
  go_enter Try.func18, Try.ntmps18
  go_wp2_with fail
  rw [← hw0]
  clear hw0
  refine ha.mono ?_
  clear ha
  rintro e w1 ⟨rfl, k1⟩
  replace K0 := K0.trans k1
  have l1 : w.heap.size < w1.heap.size := by have := World.block_lt_of_cell? _ _ b0; have := k1.size; simp only [] at *; omega
  replace z0 := (k1.frozen (p := ⟨w.heap.size, 0, none⟩) (World.block_lt_of_cell? _ _ b0) (fun e => e)).trans z0
  replace z1 := (k1.frozen (p := ⟨w.heap.size, 1, none⟩) (World.block_lt_of_cell? _ _ b1) (fun e => e)).trans z1
  replace z2 := (k1.frozen (p := ⟨w.heap.size, 2, none⟩) (World.block_lt_of_cell? _ _ b2) (fun e => e)).trans z2
  replace b0 := k1.cell b0 (fun e => e)
  replace b1 := k1.cell b1 (fun e => e)
  replace b2 := k1.cell b2 (fun e => e)
  go_wp2_with fail
  (try simp only [Exit.inBlock, Exit.then])
  refine bodyPost_ret (v := .tuple #[.agg #[.int .i64 0, .int .i64 0, .int .i64 0], .int .i64 51]) ?_ rfl ⟨rfl, ?_⟩
  · rw [results_cell_tmp rfl]
    go_simp
  · exact K0.trans' (keeps_set3 _ w.heap.size _ _ _) (fun _ _ e => e) (fun i hi e => by omega)
set_option maxHeartbeats 1600000 in
set_option maxRecDepth 1000000 in
theorem zLocator (h : ZP w p) (i : Int) :
    Calls Try.prog 20 #[.pointer p, .int .i64 i] w fun e w' => e = .returned (.tuple #[.agg #[.int .i64 0, .int .i64 0, .int .i64 0], .int .i64 52]) ∧ Keeps (fun _ => False) w w' := by
  obtain ⟨w0, hw0⟩ : ∃ w0, w0 = w.alloc (.cells #[.int .i64 0, .int .i64 0, .int .i64 0] 68) := ⟨_, rfl⟩
  have K0 : Keeps (fun _ => False) w w0 := by rw [hw0]; exact (Keeps.refl _ w).alloc _
  have b0 : w0.cell? ⟨w.heap.size, 0, none⟩ = some (.int .i64 0) := by rw [hw0]; simp
  have b1 : w0.cell? ⟨w.heap.size, 1, none⟩ = some (.int .i64 0) := by rw [hw0]; simp
  have b2 : w0.cell? ⟨w.heap.size, 2, none⟩ = some (.int .i64 0) := by rw [hw0]; simp
  have bz : ∀ o, w0.frozen? ⟨w.heap.size, o, none⟩ = false := by intro o; rw [hw0]; simp
  have z0 := bz 0
  have z1 := bz 1
  have z2 := bz 2
  have ha := zlocator (h.new K0) i
  have hq := leq0
  clear h bz
  go_enter Try.func20, Try.ntmps20
  go_wp2_with fail
  rw [← hw0]
  clear hw0
  refine ha.mono ?_
  clear ha
  rintro e w1 ⟨rfl, k1⟩
  replace K0 := K0.trans k1
  have l1 : w.heap.size < w1.heap.size := by have := World.block_lt_of_cell? _ _ b0; have := k1.size; simp only [] at *; omega
  replace z0 := (k1.frozen (p := ⟨w.heap.size, 0, none⟩) (World.block_lt_of_cell? _ _ b0) (fun e => e)).trans z0
  replace z1 := (k1.frozen (p := ⟨w.heap.size, 1, none⟩) (World.block_lt_of_cell? _ _ b1) (fun e => e)).trans z1
  replace z2 := (k1.frozen (p := ⟨w.heap.size, 2, none⟩) (World.block_lt_of_cell? _ _ b2) (fun e => e)).trans z2
  replace b0 := k1.cell b0 (fun e => e)
  replace b1 := k1.cell b1 (fun e => e)
  replace b2 := k1.cell b2 (fun e => e)
  go_wp2_with fail
  (try simp only [Exit.inBlock, Exit.then])
  refine bodyPost_ret (v := .tuple #[.agg #[.int .i64 0, .int .i64 0, .int .i64 0], .int .i64 52]) ?_ rfl ⟨rfl, ?_⟩
  · rw [results_cell_tmp rfl]
    go_simp
  · exact K0.trans' (keeps_set3 _ w.heap.size _ _ _) (fun _ _ e => e) (fun i hi e => by omega)
set_option maxHeartbeats 1600000 in
set_option maxRecDepth 1000000 in
theorem zVersion (h : ZP w p) (i : Int) :
    Calls Try.prog 21 #[.pointer p, .int .i64 i] w fun e w' => e = .returned (.tuple #[.agg #[.int .i64 0, .int .i64 0, .bool false], .int .i64 53]) ∧ Keeps (fun _ => False) w w' := by
  obtain ⟨w0, hw0⟩ : ∃ w0, w0 = w.alloc (.cells #[.int .i64 0, .int .i64 0, .bool false] 28) := ⟨_, rfl⟩
  have K0 : Keeps (fun _ => False) w w0 := by rw [hw0]; exact (Keeps.refl _ w).alloc _
  have b0 : w0.cell? ⟨w.heap.size, 0, none⟩ = some (.int .i64 0) := by rw [hw0]; simp
  have b1 : w0.cell? ⟨w.heap.size, 1, none⟩ = some (.int .i64 0) := by rw [hw0]; simp
  have b2 : w0.cell? ⟨w.heap.size, 2, none⟩ = some (.bool false) := by rw [hw0]; simp
  have bz : ∀ o, w0.frozen? ⟨w.heap.size, o, none⟩ = false := by intro o; rw [hw0]; simp
  have z0 := bz 0
  have z1 := bz 1
  have z2 := bz 2
  have hw := weq0
  clear bz
  rcases h.new K0 with rfl | ⟨wb, rfl, z⟩
  · clear h
    go_enter Try.func21, Try.ntmps21
    go_wp2_with fail
    (try simp only [Exit.inBlock, Exit.then])
    refine bodyPost_ret (v := .tuple #[.agg #[.int .i64 0, .int .i64 0, .bool false], .int .i64 53]) ?_ rfl ⟨rfl, ?_⟩
    · rw [results_cell_tmp rfl]
      go_simp
    · exact (Keeps.refl _ w).alloc _
  · have ha := atNotV (zpj (e := 28) (z := 3) z.c4) (zi i)
    have hp := weq wb
    have hq := veq0
    clear z h
    go_enter Try.func21, Try.ntmps21
    go_wp2_with fail
    rw [← hw0]
    clear hw0
    refine ha.mono ?_
    rintro e w' ⟨rfl, rfl⟩
    go_wp2_with fail
    (try simp only [Exit.inBlock, Exit.then])
    refine bodyPost_ret (v := .tuple #[.agg #[.int .i64 0, .int .i64 0, .bool false], .int .i64 53]) ?_ rfl ⟨rfl, ?_⟩
    · rw [results_cell_tmp rfl]
      go_simp
    · exact K0.trans' (keeps_set3 _ w.heap.size _ _ _) (fun _ _ e => e) (fun i hi e => by omega)
set_option maxHeartbeats 1600000 in
set_option maxRecDepth 1000000 in
theorem zSCell (h : ZP w p) (i : Int) :
    Calls Try.prog 32 #[.pointer p, .int .i64 i] w fun e w' => e = .returned (.tuple #[.int .i64 0, .int .i64 51]) ∧ Keeps (fun _ => False) w w' := by
  have ha0 : ∀ (W : World) (_ : Keeps (fun _ => False) w W), _ := fun W k => zattempt (h.new k) i
  have hq1 := aeq0
  have hq2 := leq0
  clear h
  go_enter Try.func32, Try.ntmps32
  have K : Keeps (fun _ => False) w w := Keeps.refl _ w
  go_wp2_with (first | (go_at_call 49; refine (ha0 _ K).mono ?_; rintro e w1 ⟨rfl, k1⟩))
  go_ret2
  exact ⟨rfl, k1⟩
set_option maxHeartbeats 1600000 in
set_option maxRecDepth 1000000 in
theorem zFCell (h : ZP w p) (i : Int) :
    Calls Try.prog 33 #[.pointer p, .int .i64 i] w fun e w' => e = .returned (.tuple #[.int .i64 0, .int .i64 51]) ∧ Keeps (fun _ => False) w w' := by
  have ha0 : ∀ (W : World) (_ : Keeps (fun _ => False) w W), _ := fun W k => zattempt (h.new k) i
  have hq1 := aeq0
  have hq2 := leq0
  clear h
  go_enter Try.func33, Try.ntmps33
  have K : Keeps (fun _ => False) w w := Keeps.refl _ w
  go_wp2_with (first | (go_at_call 49; refine (ha0 _ K).mono ?_; rintro e w1 ⟨rfl, k1⟩))
  go_ret2
  exact ⟨rfl, k1⟩
set_option maxHeartbeats 1600000 in
set_option maxRecDepth 1000000 in
theorem zLoad (h : ZP w p) (i : Int) :
    Calls Try.prog 24 #[.pointer p, .int .i64 i] w fun e w' => e = .returned (.tuple #[.int .i64 0, .int .i64 50]) ∧ Keeps (fun _ => False) w w' := by
  have ha0 : ∀ (W : World) (_ : Keeps (fun _ => False) w W), _ := fun W k => zOCell (h.new k) i
  have hq1 := aeq0
  have hq2 := leq0
  clear h
  go_enter Try.func24, Try.ntmps24
  have K : Keeps (fun _ => False) w w := Keeps.refl _ w
  go_wp2_with (first | (go_at_call 31; refine (ha0 _ K).mono ?_; rintro e w1 ⟨rfl, k1⟩))
  go_ret2
  exact ⟨rfl, k1⟩
set_option maxHeartbeats 1600000 in
set_option maxRecDepth 1000000 in
theorem zAcquire (h : ZP w p) (i x y : Int) :
    Calls Try.prog 25 #[.pointer p, .int .i64 i, .int .i64 x, .int .i64 y] w fun e w' => e = .returned (.tuple #[.bool false, .int .i64 50]) ∧ Keeps (fun _ => False) w w' := by
  have ha0 : ∀ (W : World) (_ : Keeps (fun _ => False) w W), _ := fun W k => zOCell (h.new k) i
  have hq1 := aeq0
  have hq2 := leq0
  clear h
  go_enter Try.func25, Try.ntmps25
  have K : Keeps (fun _ => False) w w := Keeps.refl _ w
  go_wp2_with (first | (go_at_call 31; refine (ha0 _ K).mono ?_; rintro e w1 ⟨rfl, k1⟩))
  go_ret2
  exact ⟨rfl, k1⟩
set_option maxHeartbeats 1600000 in
set_option maxRecDepth 1000000 in
theorem zStatus (h : ZP w p) (i : Int) :
    Calls Try.prog 26 #[.pointer p, .int .i64 i] w fun e w' => e = .returned (.tuple #[.int .i64 0, .int .i64 51]) ∧ Keeps (fun _ => False) w w' := by
  have ha0 : ∀ (W : World) (_ : Keeps (fun _ => False) w W), _ := fun W k => zSCell (h.new k) i
  have hq1 := aeq0
  have hq2 := leq0
  clear h
  go_enter Try.func26, Try.ntmps26
  have K : Keeps (fun _ => False) w w := Keeps.refl _ w
  go_wp2_with (first | (go_at_call 32; refine (ha0 _ K).mono ?_; rintro e w1 ⟨rfl, k1⟩))
  go_ret2
  exact ⟨rfl, k1⟩
set_option maxHeartbeats 1600000 in
set_option maxRecDepth 1000000 in
theorem zFlag (h : ZP w p) (i : Int) :
    Calls Try.prog 29 #[.pointer p, .int .i64 i] w fun e w' => e = .returned (.tuple #[.bool false, .int .i64 51]) ∧ Keeps (fun _ => False) w w' := by
  have ha0 : ∀ (W : World) (_ : Keeps (fun _ => False) w W), _ := fun W k => zFCell (h.new k) i
  have hq1 := aeq0
  have hq2 := leq0
  clear h
  go_enter Try.func29, Try.ntmps29
  have K : Keeps (fun _ => False) w w := Keeps.refl _ w
  go_wp2_with (first | (go_at_call 33; refine (ha0 _ K).mono ?_; rintro e w1 ⟨rfl, k1⟩))
  go_ret2
  exact ⟨rfl, k1⟩
set_option maxHeartbeats 1600000 in
set_option maxRecDepth 1000000 in
theorem zend (h : ZP w p) (i sv : Int) :
    Calls Try.prog 56 #[.pointer p, .int .i64 i, .int .i64 sv] w fun e w' => e = .returned (.tuple #[.bool false, .int .i64 51]) ∧ Keeps (fun _ => False) w w' := by
  have ha0 : ∀ (W : World) (_ : Keeps (fun _ => False) w W), _ := fun W k => zattempt (h.new k) i
  have hq1 := aeq0
  have hq2 := leq0
  clear h
  go_enter Try.func56, Try.ntmps56
  have K : Keeps (fun _ => False) w w := Keeps.refl _ w
  go_wp2_with (first | (go_at_call 49; refine (ha0 _ K).mono ?_; rintro e w1 ⟨rfl, k1⟩))
  go_ret2
  exact ⟨rfl, k1⟩
set_option maxHeartbeats 1600000 in
set_option maxRecDepth 1000000 in
theorem zKill (h : ZP w p) (i : Int) :
    Calls Try.prog 27 #[.pointer p, .int .i64 i] w fun e w' => e = .returned (.tuple #[.bool false, .int .i64 51]) ∧ Keeps (fun _ => False) w w' := by
  have ha0 : ∀ (W : World) (_ : Keeps (fun _ => False) w W), _ := fun W k => zend (h.new k) i 3
  have hq1 := aeq0
  have hq2 := leq0
  clear h
  go_enter Try.func27, Try.ntmps27
  have K : Keeps (fun _ => False) w w := Keeps.refl _ w
  go_wp2_with (first | (go_at_call 56; refine (ha0 _ K).mono ?_; rintro e w1 ⟨rfl, k1⟩))
  go_ret2
  exact ⟨rfl, k1⟩
set_option maxHeartbeats 1600000 in
set_option maxRecDepth 1000000 in
theorem zCommit (h : ZP w p) (i : Int) :
    Calls Try.prog 28 #[.pointer p, .int .i64 i] w fun e w' => e = .returned (.tuple #[.bool false, .int .i64 51]) ∧ Keeps (fun _ => False) w w' := by
  have ha0 : ∀ (W : World) (_ : Keeps (fun _ => False) w W), _ := fun W k => zend (h.new k) i 2
  have hq1 := aeq0
  have hq2 := leq0
  clear h
  go_enter Try.func28, Try.ntmps28
  have K : Keeps (fun _ => False) w w := Keeps.refl _ w
  go_wp2_with (first | (go_at_call 56; refine (ha0 _ K).mono ?_; rintro e w1 ⟨rfl, k1⟩))
  go_ret2
  exact ⟨rfl, k1⟩
set_option maxHeartbeats 1600000 in
set_option maxRecDepth 1000000 in
theorem zMark (h : ZP w p) (i : Int) (b : Bool) :
    Calls Try.prog 30 #[.pointer p, .int .i64 i, .bool b] w fun e w' => e = .returned (.tuple #[.bool false, .int .i64 51]) ∧ Keeps (fun _ => False) w w' := by
  have ha0 : ∀ (W : World) (_ : Keeps (fun _ => False) w W), _ := fun W k => zattempt (h.new k) i
  have hq1 := aeq0
  have hq2 := leq0
  clear h
  go_enter Try.func30, Try.ntmps30
  have K : Keeps (fun _ => False) w w := Keeps.refl _ w
  go_wp2_with (first | (go_at_call 49; refine (ha0 _ K).mono ?_; rintro e w1 ⟨rfl, k1⟩))
  go_ret2
  exact ⟨rfl, k1⟩
set_option maxHeartbeats 1600000 in
set_option maxRecDepth 1000000 in
theorem zCurrent (h : ZP w p) (i x : Int) :
    Calls Try.prog 23 #[.pointer p, .int .i64 i, .int .i64 x] w fun e w' => e = .returned (.tuple #[.int .i64 0, .int .i64 52]) ∧ Keeps (fun _ => False) w w' := by
  have ha0 : ∀ (W : World) (_ : Keeps (fun _ => False) w W), _ := fun W k => zlocator (h.new k) i
  have hq1 := aeq0
  have hq2 := leq0
  clear h
  go_enter Try.func23, Try.ntmps23
  have K : Keeps (fun _ => False) w w := Keeps.refl _ w
  go_wp2_with (first | (go_at_call 52; refine (ha0 _ K).mono ?_; rintro e w1 ⟨rfl, k1⟩))
  go_ret2
  exact ⟨rfl, k1⟩
set_option maxHeartbeats 1600000 in
set_option maxRecDepth 1000000 in
theorem zPut (h : ZP w p) (i : Int) (v : Vl) :
    Calls Try.prog 22 #[.pointer p, .int .i64 i, .agg #[.int .i64 v.num, .int .i64 v.next, .bool v.dead]] w fun e w' => e = .returned (.int .i64 52) ∧ Keeps (fun _ => False) w w' := by
  have ha0 : ∀ (W : World) (_ : Keeps (fun _ => False) w W), _ := fun W k => zlocator (h.new k) i
  have hq1 := aeq0
  have hq2 := leq0
  clear h
  go_enter Try.func22, Try.ntmps22
  have K : Keeps (fun _ => False) w w := Keeps.refl _ w
  go_wp2_with (first | (go_at_call 52; refine (ha0 _ (K.alloc _)).mono ?_; rintro e w1 ⟨rfl, k1⟩))
  go_ret
  exact ⟨rfl, (K.alloc _).trans k1⟩
set_option maxHeartbeats 1600000 in
set_option maxRecDepth 1000000 in
theorem zMake (h : ZP w p) (i x : Int) :
    Calls Try.prog 19 #[.pointer p, .int .i64 i, .int .i64 x] w fun e w' => e = .returned (.tuple #[.int .i64 0, .int .i64 51]) ∧ Keeps (fun _ => False) w w' := by
  have ha := zattempt h i
  have hq := aeq0
  clear h
  by_cases hz : i = 0
  · subst hz
    go_enter Try.func19, Try.ntmps19
    go_wp2_with fail
    go_ret2
    exact ⟨rfl, Keeps.refl _ _⟩
  · have d0 : (i == 0) = false := by simp [hz]
    have d1 : decide (i = 0) = false := by simp [hz]
    go_enter Try.func19, Try.ntmps19
    go_wp2_with (go_at_call 49; refine ha.mono ?_; rintro e w1 ⟨rfl, k1⟩)
    go_ret2
    exact ⟨rfl, k1⟩
set_option maxHeartbeats 1600000 in
set_option maxRecDepth 1000000 in
theorem zCommitted (h : ZP w p) : Calls Try.prog 14 #[.pointer p] w fun e w' => (∃ a, e = .returned (.slice a 0 0)) ∧ Keeps (fun _ => False) w w' := by
  obtain ⟨i0, hi0, hz0, hz1, hz2⟩ := info_parts infoV'
  have ho := zObjects h
  have hmk : ∀ W : World, (Instr.makeSlice 35 (.int .i64 0) (.int .i64 0)).run Try.prog W = .ok (.slice (some ⟨W.heap.size, 0, none⟩) 0 0) (W.alloc (.cells (madeCells #[.int .i64 0, .int .i64 0, .bool false] (0 * 3)) 28)) := fun W => by
    have := run_make (P := Try.prog) W 35 28 i0 _ underV hi0 hz0 .i64 .i64 0 0 (by omega) (by omega) (by rw [hz2]; omega) (by omega)
    rw [hz1] at this
    simpa [Value.cells] using this
  clear h
  go_enter Try.func14, Try.ntmps14
  go_wp2_with (go_at_call 16; refine ho.mono ?_; clear ho; rintro e w1 ⟨rfl, k1⟩)
  clear hmk
  go_loopw [10] (fun iv wr => iv = .int .i64 0 ∧ Keeps (fun _ => False) w wr) (fun _ _ => 0)
  case atStart => exact ⟨rfl, k1.alloc _⟩
  case round =>
    obtain ⟨rfl, hk⟩ := hrel
    go_wp2_with fail
    go_ret
    exact ⟨⟨_, rfl⟩, hk⟩
end
end Go.Proofs.Ytdldhblhbbgloaa
