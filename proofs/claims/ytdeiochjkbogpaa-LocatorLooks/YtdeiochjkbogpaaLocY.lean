import Derived.Test.YtdeiochjkbogpaaLocX
import Derived.Laws.ResultCell
namespace Go.Proofs.Ytdeiochjkbogpaa
open Go.RowKit
section
variable {w w' : World} {ρ ρ' : Nat → Nat} {u j q rb wb mb : Nat} {s s' : Ws} {m m' : Mm} {k : Nat}
set_option maxHeartbeats 1600000 in
set_option maxRecDepth 1000000 in
/-- What a locator says. -/
theorem Locator_ok (h : St w ρ u j wb mb s m) {i : Nat} (hi : i < s.locs.length) :
    Calls Try.prog 51 #[.pointer (some ⟨wb, 0, none⟩), .int .i64 (i : Int)] w fun e w' => e = .returned (.tuple #[.agg #[.int .i64 ((s.lo i).owner : Int), .int .i64 ((s.lo i).old : Int), .int .i64 ((s.lo i).new : Int)], .int .i64 0]) ∧ Keeps (fun _ => False) w w' := by
  obtain ⟨w0, hw0⟩ : ∃ w0, w0 = w.alloc (.cells #[.int .i64 0, .int .i64 0, .int .i64 0] 94) := ⟨_, rfl⟩
  have K0 : Keeps (fun _ => False) w w0 := by rw [hw0]; exact (Keeps.refl _ w).alloc _
  have b0 : w0.cell? ⟨w.heap.size, 0, none⟩ = some (.int .i64 0) := by rw [hw0]; simp
  have b1 : w0.cell? ⟨w.heap.size, 1, none⟩ = some (.int .i64 0) := by rw [hw0]; simp
  have b2 : w0.cell? ⟨w.heap.size, 2, none⟩ = some (.int .i64 0) := by rw [hw0]; simp
  have bz : ∀ o, w0.frozen? ⟨w.heap.size, o, none⟩ = false := by intro o; rw [hw0]; simp
  have z0 := bz 0
  have z1 := bz 1
  have z2 := bz 2
  have h0 := (h.new K0).1
  obtain ⟨vo, va, vl, vn, hw⟩ := h0.wj
  obtain ⟨gl, hgl, rl, ll, l0, l1, l2, l3⟩ := hw.loc hi
  have ngl : ¬ gl = w.heap.size := fun e => by rw [e, h.bnd _ (Nat.le_refl _)] at rl; omega
  have ha := locator_ok hw hi hgl
  have hq := leq gl (i * 4)
  generalize s.lo i = L at *
  clear h hw h0 bz
  go_enter Try.func51, Try.ntmps51
  go_wp2_with fail
  rw [← hw0]
  clear hw0
  refine ha.mono ?_
  rintro e w' ⟨rfl, rfl⟩
  go_wp2_with fail
  (try simp only [Exit.inBlock, Exit.then])
  refine bodyPost_ret (v := .tuple #[.agg #[.int .i64 (L.owner : Int), .int .i64 (L.old : Int), .int .i64 (L.new : Int)], .int .i64 0]) ?_ rfl ⟨rfl, ?_⟩
  · rw [results_cell_tmp rfl]
    go_simp
  · exact K0.trans' (keeps_set3 _ w.heap.size _ _ _) (fun _ _ e => e) (fun i hi e => by omega)
set_option maxHeartbeats 1600000 in
set_option maxRecDepth 1000000 in
/-- What a version holds. -/
theorem holds_ok (h : Rs w ρ u j q rb wb mb s m k) {i : Nat} (hi : i < s.vals.length) :
    Calls Try.prog 66 #[.pointer (some ⟨rb, 0, none⟩), .int .i64 (i : Int)] w fun e w' => e = .returned (.tuple #[vv (s.vl i), .bool true]) ∧ Keeps (fun _ => False) w w' := by
  obtain ⟨w0, hw0⟩ : ∃ w0, w0 = w.alloc (.cells #[.int .i64 0, .int .i64 0, .bool false] 52) := ⟨_, rfl⟩
  have K0 : Keeps (fun _ => False) w w0 := by rw [hw0]; exact (Keeps.refl _ w).alloc _
  have b0 : w0.cell? ⟨w.heap.size, 0, none⟩ = some (.int .i64 0) := by rw [hw0]; simp
  have b1 : w0.cell? ⟨w.heap.size, 1, none⟩ = some (.int .i64 0) := by rw [hw0]; simp
  have b2 : w0.cell? ⟨w.heap.size, 2, none⟩ = some (.bool false) := by rw [hw0]; simp
  have bz : ∀ o, w0.frozen? ⟨w.heap.size, o, none⟩ = false := by intro o; rw [hw0]; simp
  have l0 : w.heap.size < w0.heap.size := by rw [hw0]; simp
  have h0 := (h.new K0).1
  have hv := Version_ok h0.st hi
  have c1 : ∀ ob, (w.alloc ob).cell? ⟨rb, 1, none⟩ = some (.pointer (some ⟨wb, 0, none⟩)) := fun ob => ((Keeps.refl (fun _ => False) w).alloc ob).cell h.c1 (fun e => e)
  generalize s.vl i = V at *
  clear h h0
  simp only [vv] at hv
  go_enter Try.func66, Try.ntmps66
  go_wp2_with fail
  rw [← hw0]
  clear hw0
  refine hv.mono ?_
  clear hv
  rintro e w2 ⟨rfl, k2⟩
  have K2 := K0.trans k2
  replace b0 := k2.cell b0 (fun e => e)
  replace b1 := k2.cell b1 (fun e => e)
  replace b2 := k2.cell b2 (fun e => e)
  have z2 : ∀ o, w2.frozen? ⟨w.heap.size, o, none⟩ = false := fun o => (k2.frozen (p := ⟨w.heap.size, o, none⟩) l0 (fun e => e)).trans (bz o)
  obtain ⟨w3, hw3⟩ : ∃ w3, w3 = w2.alloc (.cells #[.int .i64 V.num, .int .i64 V.next, .bool V.dead] 52) := ⟨_, rfl⟩
  have K3 : Keeps (fun _ => False) w2 w3 := by rw [hw3]; exact (Keeps.refl _ w2).alloc _
  have d0 : w3.cell? ⟨w2.heap.size, 0, none⟩ = some (.int .i64 V.num) := by rw [hw3]; simp
  have d1 : w3.cell? ⟨w2.heap.size, 1, none⟩ = some (.int .i64 V.next) := by rw [hw3]; simp
  have d2 : w3.cell? ⟨w2.heap.size, 2, none⟩ = some (.bool V.dead) := by rw [hw3]; simp
  replace b0 := K3.cell b0 (fun e => e)
  replace b1 := K3.cell b1 (fun e => e)
  replace b2 := K3.cell b2 (fun e => e)
  have l2 : w.heap.size < w2.heap.size := Nat.lt_of_lt_of_le l0 k2.size
  have z3 : ∀ o, w3.frozen? ⟨w.heap.size, o, none⟩ = false := fun o => (K3.frozen (p := ⟨w.heap.size, o, none⟩) l2 (fun e => e)).trans (z2 o)
  have y0 := z3 0
  have y1 := z3 1
  have y2 := z3 2
  have ne1 : ¬ w.heap.size = w2.heap.size := by omega
  have ne2 : ¬ w2.heap.size = w.heap.size := by omega
  clear bz z2 z3 c1
  go_wp2_with fail
  rw [← hw3]
  clear hw3
  go_region_held3 (fun w' => w'.cell? ⟨w2.heap.size, 0, none⟩ = some (.int .i64 V.num) ∧ w'.cell? ⟨w2.heap.size, 1, none⟩ = some (.int .i64 V.next) ∧ w'.cell? ⟨w2.heap.size, 2, none⟩ = some (.bool V.dead)) (go_keep) ((go_at_call 12; refine (num_of _ _).mono ?_; rintro e w' ⟨rfl, rfl⟩))
  all_goals
    (try simp only [Exit.then])
    go_wp2_with fail
    (try simp only [Exit.inBlock, Exit.then])
    refine bodyPost_ret (v := .tuple #[.agg #[.int .i64 V.num, .int .i64 V.next, .bool V.dead], .bool true]) ?_ rfl ⟨rfl, ?_⟩
    · rw [results_cell_tmp rfl]
      go_simp
    · exact (K2.trans K3).trans' ((Keeps.refl (fun _ => False) w3).drew.trans' (keeps_set3 _ w.heap.size _ _ _) (U := fun i => i = w.heap.size) (fun _ _ e => e.elim) (fun _ _ e => e)) (fun _ _ e => e) (fun i hi e => by omega)
end
end Go.Proofs.Ytdeiochjkbogpaa
