import Derived.Test.YtaikngpgmcpecaaGreatRLB
import Derived.Laws.ResultCell
namespace Go.Proofs.YtaikngpgmcpecaaGreat
open Go.RowKit
section
variable {w : World} {qb rb : Nat} {sv : Nat → Value} {σ : Nat → Nat} {B D : Nat → Prop} {s : Ws} {m : Mm}
set_option maxHeartbeats 1600000 in
set_option maxRecDepth 1000000 in
theorem rOwner_ok (h : DW w qb rb sv σ B s m) {i : Nat} (hi : i < s.atts.length) : Calls Tryz.prog 56 #[.pointer (some ⟨qb, 0, none⟩), .int .i64 (i : Int)] w fun e w' => e = .returned (.tuple #[.agg #[.int .i64 (s.att i).thread, .int .i64 (s.att i).stamp, .int .i64 (s.att i).prio], .int .i64 0]) ∧ Keeps (fun _ => False) w w' := by
  obtain ⟨w0, hw0⟩ : ∃ w0, w0 = w.alloc (.cells #[.int .i64 0, .int .i64 0, .int .i64 0] 54) := ⟨_, rfl⟩
  have K0 : Keeps (fun _ => False) w w0 := by rw [hw0]; exact (Keeps.refl _ w).alloc _
  have b0 : w0.cell? ⟨w.heap.size, 0, none⟩ = some (.int .i64 0) := by rw [hw0]; simp
  have b1 : w0.cell? ⟨w.heap.size, 1, none⟩ = some (.int .i64 0) := by rw [hw0]; simp
  have b2 : w0.cell? ⟨w.heap.size, 2, none⟩ = some (.int .i64 0) := by rw [hw0]; simp
  have bz : ∀ o, w0.frozen? ⟨w.heap.size, o, none⟩ = false := by intro o; rw [hw0]; simp
  have z0 := bz 0
  have z1 := bz 1
  have z2 := bz 2
  have h0 := h.new K0
  have hc := ratt_any h0 (i : Int)
  rw [inn_ok hi] at hc
  obtain ⟨a, cap, f0, hx⟩ := h0.l2
  obtain ⟨g, rfl, _, x0, x1, x2, _, _⟩ := hx i hi
  have ng : ¬ g = w.heap.size := fun e => by
    have l1 := h.ds.lt (k := g) (by
      have hcc := (h0.ds.fs 2 (by omega) (by omega)).symm.trans f0
      have e1 := Option.some.inj hcc
      exact .inr ⟨2, by omega, by omega, by rw [e1]; rfl⟩)
    omega
  have hiI : (i : Int) < (s.atts.length : Int) := by omega
  generalize s.att i = V at *
  generalize hnn : s.atts.length = nn at *
  clear h h0 bz hx hnn
  go_enter Tryz.func56, Tryz.ntmps56
  go_wp2_with fail
  rw [← hw0]
  clear hw0
  refine hc.mono ?_
  rintro e w' ⟨rfl, rfl⟩
  go_wp2_with fail
  (try simp only [Exit.inBlock, Exit.then])
  refine bodyPost_ret (v := .tuple #[.agg #[.int .i64 V.thread, .int .i64 V.stamp, .int .i64 V.prio], .int .i64 0]) ?_ rfl ⟨rfl, ?_⟩
  · rw [results_cell_tmp rfl]
    go_simp
  · exact K0.trans' (keeps_set3 _ w.heap.size _ _ _) (fun _ _ e => e) (fun i hi e => by omega)
set_option maxHeartbeats 1600000 in
set_option maxRecDepth 1000000 in
theorem rOwner_no (h : DW w qb rb sv σ B s m) {i : Int} (hi : inn 0 s.atts.length i = false) : Calls Tryz.prog 56 #[.pointer (some ⟨qb, 0, none⟩), .int .i64 i] w fun e w' => e = .returned (.tuple #[.agg #[.int .i64 0, .int .i64 0, .int .i64 0], .int .i64 51]) ∧ Keeps (fun _ => False) w w' := by
  obtain ⟨w0, hw0⟩ : ∃ w0, w0 = w.alloc (.cells #[.int .i64 0, .int .i64 0, .int .i64 0] 54) := ⟨_, rfl⟩
  have K0 : Keeps (fun _ => False) w w0 := by rw [hw0]; exact (Keeps.refl _ w).alloc _
  have b0 : w0.cell? ⟨w.heap.size, 0, none⟩ = some (.int .i64 0) := by rw [hw0]; simp
  have b1 : w0.cell? ⟨w.heap.size, 1, none⟩ = some (.int .i64 0) := by rw [hw0]; simp
  have b2 : w0.cell? ⟨w.heap.size, 2, none⟩ = some (.int .i64 0) := by rw [hw0]; simp
  have bz : ∀ o, w0.frozen? ⟨w.heap.size, o, none⟩ = false := by intro o; rw [hw0]; simp
  have z0 := bz 0
  have z1 := bz 1
  have z2 := bz 2
  have h0 := h.new K0
  have hc := ratt_any h0 i
  rw [hi] at hc
  clear h h0 bz hi
  go_enter Tryz.func56, Tryz.ntmps56
  go_wp2_with fail
  rw [← hw0]
  clear hw0
  refine hc.mono ?_
  rintro e w' ⟨rfl, rfl⟩
  go_wp2_with fail
  (try simp only [Exit.inBlock, Exit.then])
  refine bodyPost_ret (v := .tuple #[.agg #[.int .i64 0, .int .i64 0, .int .i64 0], .int .i64 51]) ?_ rfl ⟨rfl, ?_⟩
  · rw [results_cell_tmp rfl]
    go_simp
  · exact K0.trans' (keeps_set3 _ w.heap.size _ _ _) (fun _ _ e => e) (fun i hi e => by omega)
set_option maxHeartbeats 1600000 in
set_option maxRecDepth 1000000 in
theorem rLocator_ok (h : DW w qb rb sv σ B s m) {i : Nat} (hi : i < s.locs.length) : Calls Tryz.prog 58 #[.pointer (some ⟨qb, 0, none⟩), .int .i64 (i : Int)] w fun e w' => e = .returned (.tuple #[.agg #[.int .i64 ((s.lo i).owner : Int), .int .i64 ((s.lo i).old : Int), .int .i64 ((s.lo i).new : Int)], .int .i64 0]) ∧ Keeps (fun _ => False) w w' := by
  obtain ⟨w0, hw0⟩ : ∃ w0, w0 = w.alloc (.cells #[.int .i64 0, .int .i64 0, .int .i64 0] 103) := ⟨_, rfl⟩
  have K0 : Keeps (fun _ => False) w w0 := by rw [hw0]; exact (Keeps.refl _ w).alloc _
  have b0 : w0.cell? ⟨w.heap.size, 0, none⟩ = some (.int .i64 0) := by rw [hw0]; simp
  have b1 : w0.cell? ⟨w.heap.size, 1, none⟩ = some (.int .i64 0) := by rw [hw0]; simp
  have b2 : w0.cell? ⟨w.heap.size, 2, none⟩ = some (.int .i64 0) := by rw [hw0]; simp
  have bz : ∀ o, w0.frozen? ⟨w.heap.size, o, none⟩ = false := by intro o; rw [hw0]; simp
  have z0 := bz 0
  have z1 := bz 1
  have z2 := bz 2
  have h0 := h.new K0
  have hc := rloc_any h0 (i : Int)
  rw [inn_ok hi] at hc
  obtain ⟨a, cap, f0, hx⟩ := h0.l3
  obtain ⟨g, rfl, _, x0, x1, x2⟩ := hx i hi
  have ng : ¬ g = w.heap.size := fun e => by
    have l1 := h.ds.lt (k := g) (by
      have hcc := (h0.ds.fs 3 (by omega) (by omega)).symm.trans f0
      have e1 := Option.some.inj hcc
      exact .inr ⟨3, by omega, by omega, by rw [e1]; rfl⟩)
    omega
  have hiI : (i : Int) < (s.locs.length : Int) := by omega
  generalize s.lo i = V at *
  generalize hnn : s.locs.length = nn at *
  clear h h0 bz hx hnn
  go_enter Tryz.func58, Tryz.ntmps58
  go_wp2_with fail
  rw [← hw0]
  clear hw0
  refine hc.mono ?_
  rintro e w' ⟨rfl, rfl⟩
  go_wp2_with fail
  (try simp only [Exit.inBlock, Exit.then])
  refine bodyPost_ret (v := .tuple #[.agg #[.int .i64 (V.owner : Int), .int .i64 (V.old : Int), .int .i64 (V.new : Int)], .int .i64 0]) ?_ rfl ⟨rfl, ?_⟩
  · rw [results_cell_tmp rfl]
    go_simp
  · exact K0.trans' (keeps_set3 _ w.heap.size _ _ _) (fun _ _ e => e) (fun i hi e => by omega)
set_option maxHeartbeats 1600000 in
set_option maxRecDepth 1000000 in
theorem rLocator_no (h : DW w qb rb sv σ B s m) {i : Int} (hi : inn 0 s.locs.length i = false) : Calls Tryz.prog 58 #[.pointer (some ⟨qb, 0, none⟩), .int .i64 i] w fun e w' => e = .returned (.tuple #[.agg #[.int .i64 0, .int .i64 0, .int .i64 0], .int .i64 52]) ∧ Keeps (fun _ => False) w w' := by
  obtain ⟨w0, hw0⟩ : ∃ w0, w0 = w.alloc (.cells #[.int .i64 0, .int .i64 0, .int .i64 0] 103) := ⟨_, rfl⟩
  have K0 : Keeps (fun _ => False) w w0 := by rw [hw0]; exact (Keeps.refl _ w).alloc _
  have b0 : w0.cell? ⟨w.heap.size, 0, none⟩ = some (.int .i64 0) := by rw [hw0]; simp
  have b1 : w0.cell? ⟨w.heap.size, 1, none⟩ = some (.int .i64 0) := by rw [hw0]; simp
  have b2 : w0.cell? ⟨w.heap.size, 2, none⟩ = some (.int .i64 0) := by rw [hw0]; simp
  have bz : ∀ o, w0.frozen? ⟨w.heap.size, o, none⟩ = false := by intro o; rw [hw0]; simp
  have z0 := bz 0
  have z1 := bz 1
  have z2 := bz 2
  have h0 := h.new K0
  have hc := rloc_any h0 i
  rw [hi] at hc
  clear h h0 bz hi
  go_enter Tryz.func58, Tryz.ntmps58
  go_wp2_with fail
  rw [← hw0]
  clear hw0
  refine hc.mono ?_
  rintro e w' ⟨rfl, rfl⟩
  go_wp2_with fail
  (try simp only [Exit.inBlock, Exit.then])
  refine bodyPost_ret (v := .tuple #[.agg #[.int .i64 0, .int .i64 0, .int .i64 0], .int .i64 52]) ?_ rfl ⟨rfl, ?_⟩
  · rw [results_cell_tmp rfl]
    go_simp
  · exact K0.trans' (keeps_set3 _ w.heap.size _ _ _) (fun _ _ e => e) (fun i hi e => by omega)
set_option maxHeartbeats 1600000 in
set_option maxRecDepth 1000000 in
theorem rVersion_ok (h : DW w qb rb sv σ B s m) (hvl : s.vals.length = s.locs.length) {i : Nat} (hi : i < s.vals.length) : Calls Tryz.prog 59 #[.pointer (some ⟨qb, 0, none⟩), .int .i64 (i : Int)] w fun e w' => e = .returned (.tuple #[.agg #[.int .i64 (s.vl i).num, .int .i64 (s.vl i).next, .bool (s.vl i).dead], .int .i64 0]) ∧ Keeps (fun _ => False) w w' := by
  obtain ⟨w0, hw0⟩ : ∃ w0, w0 = w.alloc (.cells #[.int .i64 0, .int .i64 0, .bool false] 37) := ⟨_, rfl⟩
  have K0 : Keeps (fun _ => False) w w0 := by rw [hw0]; exact (Keeps.refl _ w).alloc _
  have b0 : w0.cell? ⟨w.heap.size, 0, none⟩ = some (.int .i64 0) := by rw [hw0]; simp
  have b1 : w0.cell? ⟨w.heap.size, 1, none⟩ = some (.int .i64 0) := by rw [hw0]; simp
  have b2 : w0.cell? ⟨w.heap.size, 2, none⟩ = some (.bool false) := by rw [hw0]; simp
  have bz : ∀ o, w0.frozen? ⟨w.heap.size, o, none⟩ = false := by intro o; rw [hw0]; simp
  have z0 := bz 0
  have z1 := bz 1
  have z2 := bz 2
  have h0 := h.new K0
  have hc := rloc_any h0 (i : Int)
  rw [← hvl, inn_ok hi] at hc
  obtain ⟨a, cap, f0, hx⟩ := h0.l5
  obtain ⟨g, rfl, _, x0, x1, x2, _⟩ := hx i hi
  have ng : ¬ g = w.heap.size := fun e => by
    have l1 := h.ds.lt (k := g) (by
      have hcc := (h0.ds.fs 5 (by omega) (by omega)).symm.trans f0
      have e1 := Option.some.inj hcc
      exact .inr ⟨5, by omega, by omega, by rw [e1]; rfl⟩)
    omega
  have hiI : (i : Int) < (s.vals.length : Int) := by omega
  generalize s.vl i = V at *
  generalize hnn : s.vals.length = nn at *
  clear h h0 bz hx hnn
  go_enter Tryz.func59, Tryz.ntmps59
  go_wp2_with fail
  rw [← hw0]
  clear hw0
  refine hc.mono ?_
  rintro e w' ⟨rfl, rfl⟩
  go_wp2_with fail
  (try simp only [Exit.inBlock, Exit.then])
  refine bodyPost_ret (v := .tuple #[.agg #[.int .i64 V.num, .int .i64 V.next, .bool V.dead], .int .i64 0]) ?_ rfl ⟨rfl, ?_⟩
  · rw [results_cell_tmp rfl]
    go_simp
  · exact K0.trans' (keeps_set3 _ w.heap.size _ _ _) (fun _ _ e => e) (fun i hi e => by omega)
set_option maxHeartbeats 1600000 in
set_option maxRecDepth 1000000 in
theorem rVersion_no (h : DW w qb rb sv σ B s m) {i : Int} (hi : inn 0 s.locs.length i = false) : Calls Tryz.prog 59 #[.pointer (some ⟨qb, 0, none⟩), .int .i64 i] w fun e w' => e = .returned (.tuple #[.agg #[.int .i64 0, .int .i64 0, .bool false], .int .i64 53]) ∧ Keeps (fun _ => False) w w' := by
  obtain ⟨w0, hw0⟩ : ∃ w0, w0 = w.alloc (.cells #[.int .i64 0, .int .i64 0, .bool false] 37) := ⟨_, rfl⟩
  have K0 : Keeps (fun _ => False) w w0 := by rw [hw0]; exact (Keeps.refl _ w).alloc _
  have b0 : w0.cell? ⟨w.heap.size, 0, none⟩ = some (.int .i64 0) := by rw [hw0]; simp
  have b1 : w0.cell? ⟨w.heap.size, 1, none⟩ = some (.int .i64 0) := by rw [hw0]; simp
  have b2 : w0.cell? ⟨w.heap.size, 2, none⟩ = some (.bool false) := by rw [hw0]; simp
  have bz : ∀ o, w0.frozen? ⟨w.heap.size, o, none⟩ = false := by intro o; rw [hw0]; simp
  have z0 := bz 0
  have z1 := bz 1
  have z2 := bz 2
  have h0 := h.new K0
  have hc := rloc_any h0 i
  rw [hi] at hc
  clear h h0 bz hi
  go_enter Tryz.func59, Tryz.ntmps59
  go_wp2_with fail
  rw [← hw0]
  clear hw0
  refine hc.mono ?_
  rintro e w' ⟨rfl, rfl⟩
  go_wp2_with fail
  (try simp only [Exit.inBlock, Exit.then])
  refine bodyPost_ret (v := .tuple #[.agg #[.int .i64 0, .int .i64 0, .bool false], .int .i64 53]) ?_ rfl ⟨rfl, ?_⟩
  · rw [results_cell_tmp rfl]
    go_simp
  · exact K0.trans' (keeps_set3 _ w.heap.size _ _ _) (fun _ _ e => e) (fun i hi e => by omega)
set_option maxHeartbeats 1600000 in
set_option maxRecDepth 1000000 in
theorem rCurrent_new (h : DW w qb rb sv σ B s m) {i : Nat} (hi : i < s.locs.length) {st : Int} (hs : st = 2) : Calls Tryz.prog 61 #[.pointer (some ⟨qb, 0, none⟩), .int .i64 (i : Int), .int .i64 st] w fun e w' => e = .returned (.tuple #[.int .i64 ((s.lo i).new : Int), .int .i64 0]) ∧ Keeps (fun _ => False) w w' := by
  have hc := rloc_any h (i : Int)
  rw [inn_ok hi] at hc
  obtain ⟨a, cap, f0, hx⟩ := h.l3
  obtain ⟨g, rfl, _, x0, x1, x2⟩ := hx i hi
  have hiI : (i : Int) < (s.locs.length : Int) := by omega
  generalize s.lo i = V at *
  generalize hnn : s.locs.length = nn at *
  clear h hx hnn
  subst hs
  go_enter Tryz.func61, Tryz.ntmps61
  go_wp2_with ((go_at_call 94; refine hc.mono ?_; clear hc; rintro e w' ⟨rfl, rfl⟩))
  go_ret2
  exact ⟨rfl, Keeps.refl _ _⟩
set_option maxHeartbeats 1600000 in
set_option maxRecDepth 1000000 in
theorem rCurrent_old (h : DW w qb rb sv σ B s m) {i : Nat} (hi : i < s.locs.length) {st : Int} (hs : st = 1 ∨ st = 3) : Calls Tryz.prog 61 #[.pointer (some ⟨qb, 0, none⟩), .int .i64 (i : Int), .int .i64 st] w fun e w' => e = .returned (.tuple #[.int .i64 ((s.lo i).old : Int), .int .i64 0]) ∧ Keeps (fun _ => False) w w' := by
  have hc := rloc_any h (i : Int)
  rw [inn_ok hi] at hc
  obtain ⟨a, cap, f0, hx⟩ := h.l3
  obtain ⟨g, rfl, _, x0, x1, x2⟩ := hx i hi
  have hiI : (i : Int) < (s.locs.length : Int) := by omega
  generalize s.lo i = V at *
  generalize hnn : s.locs.length = nn at *
  clear h hx hnn
  rcases hs with rfl | rfl
  all_goals
    go_enter Tryz.func61, Tryz.ntmps61
    go_wp2_with ((go_at_call 94; refine hc.mono ?_; clear hc; rintro e w' ⟨rfl, rfl⟩))
    go_ret2
    exact ⟨rfl, Keeps.refl _ _⟩
set_option maxHeartbeats 1600000 in
set_option maxRecDepth 1000000 in
theorem rCurrent_bad (h : DW w qb rb sv σ B s m) {i : Nat} (hi : i < s.locs.length) {st : Int} (h1 : st ≠ 1) (h2 : st ≠ 2) (h3 : st ≠ 3) : Calls Tryz.prog 61 #[.pointer (some ⟨qb, 0, none⟩), .int .i64 (i : Int), .int .i64 st] w fun e w' => e = .returned (.tuple #[.int .i64 0, .int .i64 54]) ∧ Keeps (fun _ => False) w w' := by
  have hc := rloc_any h (i : Int)
  rw [inn_ok hi] at hc
  obtain ⟨a, cap, f0, hx⟩ := h.l3
  obtain ⟨g, rfl, _, x0, x1, x2⟩ := hx i hi
  have hiI : (i : Int) < (s.locs.length : Int) := by omega
  generalize s.lo i = V at *
  generalize hnn : s.locs.length = nn at *
  clear h hx hnn
  have e1 : (st == 1) = false := by simp [h1]
  have e2 : (st == 2) = false := by simp [h2]
  have e3 : (st == 3) = false := by simp [h3]
  go_enter Tryz.func61, Tryz.ntmps61
  go_wp2_with ((go_at_call 94; refine hc.mono ?_; clear hc; rintro e w' ⟨rfl, rfl⟩))
  go_ret2
  exact ⟨rfl, Keeps.refl _ _⟩
set_option maxHeartbeats 1600000 in
set_option maxRecDepth 1000000 in
theorem rCurrent_no (h : DW w qb rb sv σ B s m) {i : Int} (hi : inn 0 s.locs.length i = false) (st : Int) : Calls Tryz.prog 61 #[.pointer (some ⟨qb, 0, none⟩), .int .i64 i, .int .i64 st] w fun e w' => e = .returned (.tuple #[.int .i64 0, .int .i64 52]) ∧ Keeps (fun _ => False) w w' := by
  have hc := rloc_any h i
  rw [hi] at hc
  clear h hi
  go_enter Tryz.func61, Tryz.ntmps61
  go_wp2_with ((go_at_call 94; refine hc.mono ?_; clear hc; rintro e w' ⟨rfl, rfl⟩))
  go_ret2
  exact ⟨rfl, Keeps.refl _ _⟩
end
end Go.Proofs.YtaikngpgmcpecaaGreat
