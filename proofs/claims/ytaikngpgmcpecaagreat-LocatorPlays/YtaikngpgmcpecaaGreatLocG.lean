import Derived.Test.YtaikngpgmcpecaaGreatLocF
namespace Go.Proofs.YtaikngpgmcpecaaGreat
open Go.RowKit
section
variable {w w' : World} {ρ ρ' : Nat → Nat} {u j wb mb : Nat} {s s' : Ws} {m m' : Mm} {vo va vl vn : Value}
/-- Whether there is room for an attempt. -/
def Ws.roomA (s : Ws) (m : Mm) : Bool := decide (s.atts.length < 16384) && decide (m.cells.length + 2 ≤ 65536)
set_option maxHeartbeats 1600000 in
set_option maxRecDepth 1000000 in
theorem Attempt_ok (h : St w ρ u j wb mb s m) (hr : s.roomA m = true) (th st pr : Int) :
    Calls Tryz.prog 16 #[.pointer (some ⟨wb, 0, none⟩), .agg #[.int .i64 th, .int .i64 st, .int .i64 pr]] w fun e w' =>
      e = .returned (.tuple #[.int .i64 (s.atts.length : Int), .int .i64 0]) ∧ ∃ ρ', St w' ρ' u j wb mb (s.beg th st pr m.cells.length) ((m.make 1).make 0) ∧ Ext (Sr u j) w w' ρ ρ' := by
  simp only [Ws.roomA, Bool.and_eq_true, decide_eq_true_eq] at hr
  obtain ⟨h1, h2⟩ := hr
  obtain ⟨w0, hw0⟩ : ∃ w0, w0 = w.alloc (.cells #[.int .i64 th, .int .i64 st, .int .i64 pr] 54) := ⟨_, rfl⟩
  have K0 : Keeps (fun _ => False) w w0 := by rw [hw0]; exact (Keeps.refl _ w).alloc _
  have c0 : w0.cell? ⟨w.heap.size, 0, none⟩ = some (.int .i64 th) := by rw [hw0]; simp
  have c1 : w0.cell? ⟨w.heap.size, 1, none⟩ = some (.int .i64 st) := by rw [hw0]; simp
  have c2 : w0.cell? ⟨w.heap.size, 2, none⟩ = some (.int .i64 pr) := by rw [hw0]; simp
  obtain ⟨h0, x0⟩ := h.new K0
  obtain ⟨vo, va, vl, vn, hw⟩ := h0.wj
  have hs := sizeA hw.pa
  have hm := room_any h0 (c := 2) (by omega)
  have hb := begin_att h0 (by omega) h2 th st pr 0 0 1
  have hp := weq wb
  have d1 : decide ((m.cells.length : Int) ≤ 65536 - 2) = true := by simp; omega
  rw [d1] at hm
  have d2 : decide ((16384 : Int) ≤ (s.atts.length : Int)) = false := by simp; omega
  clear h hw d1 h0
  go_enter Tryz.func16, Tryz.ntmps16
  go_wp2_with fail
  rw [← hw0]
  clear hw0
  refine hs.mono ?_
  clear hs
  rintro e w' ⟨rfl, rfl⟩
  go_wp2_with (first | (go_at_call 37; refine hm.mono ?_; clear hm; rintro e w' ⟨rfl, rfl⟩) | (go_at_call 38; refine hb.mono ?_; clear hb; rintro e w' ⟨rfl, ρ1, h1, x1⟩))
  go_ret2
  exact ⟨rfl, ρ1, h1, x0.trans x1⟩
set_option maxHeartbeats 1600000 in
set_option maxRecDepth 1000000 in
theorem Attempt_no (h : St w ρ u j wb mb s m) (hr : s.roomA m = false) (th st pr : Int) :
    Calls Tryz.prog 16 #[.pointer (some ⟨wb, 0, none⟩), .agg #[.int .i64 th, .int .i64 st, .int .i64 pr]] w fun e w' =>
      e = .returned (.tuple #[.int .i64 0, .int .i64 58]) ∧ Keeps (fun _ => False) w w' := by
  obtain ⟨w0, hw0⟩ : ∃ w0, w0 = w.alloc (.cells #[.int .i64 th, .int .i64 st, .int .i64 pr] 54) := ⟨_, rfl⟩
  have K0 : Keeps (fun _ => False) w w0 := by rw [hw0]; exact (Keeps.refl _ w).alloc _
  obtain ⟨h0, x0⟩ := h.new K0
  obtain ⟨vo, va, vl, vn, hw⟩ := h0.wj
  have hs := sizeA hw.pa
  have hm := room_any h0 (c := 2) (by omega)
  have hp := weq wb
  clear h hw h0 x0
  by_cases h1 : s.atts.length < 16384
  · have h2 : ¬ m.cells.length + 2 ≤ 65536 := by simp [Ws.roomA, h1] at hr; omega
    have d1 : decide ((m.cells.length : Int) ≤ 65536 - 2) = false := by simp; omega
    rw [d1] at hm
    have d2 : decide ((16384 : Int) ≤ (s.atts.length : Int)) = false := by simp; omega
    clear hr h2 d1
    go_enter Tryz.func16, Tryz.ntmps16
    go_wp2_with fail
    rw [← hw0]
    clear hw0
    refine hs.mono ?_
    clear hs
    rintro e w' ⟨rfl, rfl⟩
    go_wp2_with ((go_at_call 37; refine hm.mono ?_; clear hm; rintro e w' ⟨rfl, rfl⟩))
    go_ret2
    exact ⟨rfl, K0⟩
  · have d2 : decide ((16384 : Int) ≤ (s.atts.length : Int)) = true := by simp; omega
    have d3 : decide (16384 ≤ s.atts.length) = true := by simp; omega
    clear hr hm
    go_enter Tryz.func16, Tryz.ntmps16
    go_wp2_with fail
    rw [← hw0]
    clear hw0
    refine hs.mono ?_
    clear hs
    rintro e w' ⟨rfl, rfl⟩
    go_wp2_with fail
    go_ret2
    exact ⟨rfl, K0⟩

set_option maxHeartbeats 1600000 in
set_option maxRecDepth 1000000 in
theorem Version_ok (h : St w ρ u j wb mb s m) {i : Nat} (hi : i < s.vals.length) :
    Calls Tryz.prog 45 #[.pointer (some ⟨wb, 0, none⟩), .int .i64 (i : Int)] w fun e w' => e = .returned (.tuple #[vv (s.vl i), .int .i64 0]) ∧ Keeps (fun _ => False) w w' := by
  obtain ⟨w0, hw0⟩ : ∃ w0, w0 = w.alloc (.cells #[.int .i64 0, .int .i64 0, .bool false] 37) := ⟨_, rfl⟩
  have K0 : Keeps (fun _ => False) w w0 := by rw [hw0]; exact (Keeps.refl _ w).alloc _
  have b0 : w0.cell? ⟨w.heap.size, 0, none⟩ = some (.int .i64 0) := by rw [hw0]; simp
  have b1 : w0.cell? ⟨w.heap.size, 1, none⟩ = some (.int .i64 0) := by rw [hw0]; simp
  have b2 : w0.cell? ⟨w.heap.size, 2, none⟩ = some (.bool false) := by rw [hw0]; simp
  have bz : ∀ o, w0.frozen? ⟨w.heap.size, o, none⟩ = false := by intro o; rw [hw0]; simp
  have z0 := bz 0
  have z1 := bz 1
  have z2 := bz 2
  have h0 := (h.new K0).1
  obtain ⟨vo, va, vl, vn, hw⟩ := h0.wj
  obtain ⟨gv, hgv, rv, lv, v0, v1, v2⟩ := hw.ver hi
  have ngv : ¬ gv = w.heap.size := fun e => by rw [e, h.bnd _ (Nat.le_refl _)] at rv; omega
  have ha := atV hw.pv hi hgv
  have hp := weq wb
  have hq := veq gv (i * 3)
  generalize s.vl i = V at *
  clear h hw h0 bz
  go_enter Tryz.func45, Tryz.ntmps45
  go_wp2_with fail
  rw [← hw0]
  clear hw0
  refine ha.mono ?_
  rintro e w' ⟨rfl, rfl⟩
  go_wp2_with ((go_at_call 49; refine ha.mono ?_; rintro e w' ⟨rfl, rfl⟩))
  (try simp only [Exit.inBlock, Exit.then])
  refine bodyPost_ret (v := .tuple #[.agg #[.int .i64 V.num, .int .i64 V.next, .bool V.dead], .int .i64 0]) ?_ rfl ⟨rfl, ?_⟩
  · rw [results_cell_tmp rfl]
    go_simp
  · exact K0.trans' (keeps_set3 _ w.heap.size _ _ _) (fun _ _ e => e) (fun i hi e => by omega)
set_option maxHeartbeats 1600000 in
set_option maxRecDepth 1000000 in
theorem Version_no (h : St w ρ u j wb mb s m) {i : Int} (hi : i < 0 ∨ (s.vals.length : Int) ≤ i) :
    Calls Tryz.prog 45 #[.pointer (some ⟨wb, 0, none⟩), .int .i64 i] w fun e w' => e = .returned (.tuple #[vv vl0, .int .i64 53]) ∧ Keeps (fun _ => False) w w' := by
  obtain ⟨w0, hw0⟩ : ∃ w0, w0 = w.alloc (.cells #[.int .i64 0, .int .i64 0, .bool false] 37) := ⟨_, rfl⟩
  have K0 : Keeps (fun _ => False) w w0 := by rw [hw0]; exact (Keeps.refl _ w).alloc _
  have b0 : w0.cell? ⟨w.heap.size, 0, none⟩ = some (.int .i64 0) := by rw [hw0]; simp
  have b1 : w0.cell? ⟨w.heap.size, 1, none⟩ = some (.int .i64 0) := by rw [hw0]; simp
  have b2 : w0.cell? ⟨w.heap.size, 2, none⟩ = some (.bool false) := by rw [hw0]; simp
  have bz : ∀ o, w0.frozen? ⟨w.heap.size, o, none⟩ = false := by intro o; rw [hw0]; simp
  have z0 := bz 0
  have z1 := bz 1
  have z2 := bz 2
  have h0 := (h.new K0).1
  obtain ⟨vo, va, vl, vn, hw⟩ := h0.wj
  have ha := atNotV hw.pv hi
  have hp := weq wb
  have hq := veq0
  clear h hw h0 bz
  go_enter Tryz.func45, Tryz.ntmps45
  go_wp2_with fail
  rw [← hw0]
  clear hw0
  refine ha.mono ?_
  rintro e w' ⟨rfl, rfl⟩
  go_wp2_with fail
  (try simp only [Exit.inBlock, Exit.then])
  refine bodyPost_ret (v := .tuple #[.agg #[.int .i64 0, .int .i64 0, .bool false], .int .i64 53]) ?_ rfl ⟨rfl, ?_⟩
  · rw [results_cell_tmp rfl]
    go_simp
  · exact K0.trans' (keeps_set3 _ w.heap.size _ _ _) (fun _ _ e => e) (fun i hi e => by omega)
end
end Go.Proofs.YtaikngpgmcpecaaGreat
