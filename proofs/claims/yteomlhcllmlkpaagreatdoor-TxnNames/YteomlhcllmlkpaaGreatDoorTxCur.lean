import Derived.Test.YteomlhcllmlkpaaGreatDoorLocL
import Derived.Test.YteomlhcllmlkpaaGreatDoorLocN
import Derived.Laws.ResultCell
namespace Go.Proofs.YteomlhcllmlkpaaGreatDoor
open Go.RowKit
section
variable {w w' : World} {ρ ρ' : Nat → Nat} {u j wb mb : Nat} {s s' : Ws} {m m' : Mm} {vo va vl vn : Value}
theorem Locator_ok (h : St w ρ u j wb mb s m) {i : Nat} (hi : i < s.locs.length) :
    Calls Tryz.prog 48 #[.pointer (some ⟨wb, 0, none⟩), .int .i64 (i : Int)] w fun e w' => e = .returned (.tuple #[.agg #[.int .i64 ((s.lo i).owner : Int), .int .i64 ((s.lo i).old : Int), .int .i64 ((s.lo i).new : Int)], .int .i64 0]) ∧ Keeps (fun _ => False) w w' := by
  obtain ⟨w0, hw0⟩ : ∃ w0, w0 = w.alloc (.cells #[.int .i64 0, .int .i64 0, .int .i64 0] 112) := ⟨_, rfl⟩
  have K0 : Keeps (fun _ => False) w w0 := by rw [hw0]; exact (Keeps.refl _ w).alloc _
  have b0 : w0.cell? ⟨w.heap.size, 0, none⟩ = some (.int .i64 0) := by rw [hw0]; simp
  have b1 : w0.cell? ⟨w.heap.size, 1, none⟩ = some (.int .i64 0) := by rw [hw0]; simp
  have b2 : w0.cell? ⟨w.heap.size, 2, none⟩ = some (.int .i64 0) := by rw [hw0]; simp
  have bz : ∀ o, w0.frozen? ⟨w.heap.size, o, none⟩ = false := by intro o; rw [hw0]; simp
  have z0 := bz 0
  have z1 := bz 1
  have z2 := bz 2
  have h0 := (h.new K0).1
  obtain ⟨vo, va, vl, vn, hw⟩ := h0.wj
  obtain ⟨gl, hgl, rl, ll, l0, l1, l2, l3⟩ := hw.loc hi
  have ngl : ¬ gl = w.heap.size := fun e => by rw [e, h.bnd _ (Nat.le_refl _)] at rl; omega
  have ha := locator_ok hw hi hgl
  have hq := leq gl (i * 4)
  generalize s.lo i = L at *
  clear h hw h0 bz
  go_enter Tryz.func48, Tryz.ntmps48
  go_wp2_with fail
  rw [← hw0]
  clear hw0
  refine ha.mono ?_
  rintro e w' ⟨rfl, rfl⟩
  go_wp2_with fail
  (try simp only [Exit.inBlock, Exit.then])
  refine bodyPost_ret (v := .tuple #[.agg #[.int .i64 (L.owner : Int), .int .i64 (L.old : Int), .int .i64 (L.new : Int)], .int .i64 0]) ?_ rfl ⟨rfl, ?_⟩
  · rw [results_cell_tmp rfl]
    go_simp
  · exact K0.trans' (keeps_set3 _ w.heap.size _ _ _) (fun _ _ e => e) (fun i hi e => by omega)
theorem Current_2 (h : St w ρ u j wb mb s m) {i : Nat} (hi : i < s.locs.length) :
    Calls Tryz.prog 94 #[.pointer (some ⟨wb, 0, none⟩), .int .i64 (i : Int), .int .i64 2] w fun e w' => e = .returned (.tuple #[.int .i64 ((s.lo i).new : Int), .int .i64 0]) ∧ w = w' := by
  obtain ⟨vo, va, vl, vn, hw⟩ := h.wj
  obtain ⟨gl, hgl, rl, ll, l0, l1, l2, l3⟩ := hw.loc hi
  have ha := locator_ok hw hi hgl
  have hq := leq gl (i * 4)
  generalize s.lo i = L at *
  clear h hw
  go_enter Tryz.func94, Tryz.ntmps94
  go_wp2_with fail
  refine ha.mono ?_
  rintro e w' ⟨rfl, rfl⟩
  go_wp2_with fail
  go_ret2
  exact ⟨rfl, rfl⟩
set_option maxHeartbeats 1600000 in
set_option maxRecDepth 1000000 in
theorem Current_13 (h : St w ρ u j wb mb s m) {i : Nat} {v : Int} (hv : v = 1 ∨ v = 3) (hi : i < s.locs.length) :
    Calls Tryz.prog 94 #[.pointer (some ⟨wb, 0, none⟩), .int .i64 (i : Int), .int .i64 v] w fun e w' => e = .returned (.tuple #[.int .i64 ((s.lo i).old : Int), .int .i64 0]) ∧ w = w' := by
  obtain ⟨vo, va, vl, vn, hw⟩ := h.wj
  obtain ⟨gl, hgl, rl, ll, l0, l1, l2, l3⟩ := hw.loc hi
  have ha := locator_ok hw hi hgl
  have hq := leq gl (i * 4)
  generalize s.lo i = L at *
  clear h hw
  rcases hv with e | e <;> subst e <;>
  · go_enter Tryz.func94, Tryz.ntmps94
    go_wp2_with fail
    refine ha.mono ?_
    rintro e w' ⟨rfl, rfl⟩
    go_wp2_with fail
    go_ret2
    exact ⟨rfl, rfl⟩
end
end Go.Proofs.YteomlhcllmlkpaaGreatDoor
