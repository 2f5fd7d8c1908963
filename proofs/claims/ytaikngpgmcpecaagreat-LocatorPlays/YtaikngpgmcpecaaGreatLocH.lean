import Derived.Test.YtaikngpgmcpecaaGreatLocG
namespace Go.Proofs.YtaikngpgmcpecaaGreat
open Go.RowKit
section
variable {w w' : World} {ρ ρ' : Nat → Nat} {u j wb mb : Nat} {s s' : Ws} {m m' : Mm} {vo va vl vn : Value}
set_option maxHeartbeats 1600000 in
set_option maxRecDepth 1000000 in
theorem Make_gen (_ : St w ρ u j wb mb s m) (old : Int) :
    Calls Tryz.prog 17 #[.pointer (some ⟨wb, 0, none⟩), .int .i64 0, .int .i64 old] w fun e w' => e = .returned (.tuple #[.int .i64 0, .int .i64 51]) ∧ Keeps (fun _ => False) w w' := by
  go_enter Tryz.func17, Tryz.ntmps17
  go_wp2_with fail
  go_ret2
  exact ⟨rfl, Keeps.refl _ _⟩
set_option maxHeartbeats 1600000 in
set_option maxRecDepth 1000000 in
theorem Make_att (h : St w ρ u j wb mb s m) {att : Int} (ha : att < 0 ∨ (s.atts.length : Int) ≤ att) (old : Int) :
    Calls Tryz.prog 17 #[.pointer (some ⟨wb, 0, none⟩), .int .i64 att, .int .i64 old] w fun e w' => e = .returned (.tuple #[.int .i64 0, .int .i64 51]) ∧ Keeps (fun _ => False) w w' := by
  obtain ⟨vo, va, vl, vn, hw⟩ := h.wj
  have hc := attempt_no hw ha
  have hq := aeq0
  by_cases hz : att = 0
  · subst hz; exact Make_gen h old
  · have d0 : (att == 0) = false := by simp [hz]
    have d1 : decide (att = 0) = false := by simp [hz]
    clear h hw
    go_enter Tryz.func17, Tryz.ntmps17
    go_wp2_with ((go_at_call 44; refine hc.mono ?_; clear hc; rintro e w' ⟨rfl, rfl⟩))
    go_ret2
    exact ⟨rfl, Keeps.refl _ _⟩
set_option maxHeartbeats 1600000 in
set_option maxRecDepth 1000000 in
theorem Make_ver (h : St w ρ u j wb mb s m) {att : Nat} (ha1 : 1 ≤ att) (ha : att < s.atts.length) {old : Int} (ho : old < 0 ∨ (s.vals.length : Int) ≤ old) :
    Calls Tryz.prog 17 #[.pointer (some ⟨wb, 0, none⟩), .int .i64 (att : Int), .int .i64 old] w fun e w' => e = .returned (.tuple #[.int .i64 0, .int .i64 53]) ∧ Keeps (fun _ => False) w w' := by
  obtain ⟨vo, va, vl, vn, hw⟩ := h.wj
  obtain ⟨ga, hga, _, _, _⟩ := hw.att ha
  have hc := attempt_ok hw ha hga
  have hq := aeq ga (att * 5)
  have d0 : ((att : Int) == 0) = false := by simp; omega
  have d1 : decide ((att : Int) = 0) = false := by simp; omega
  have d2 : (att == 0) = false := by simp; omega
  have hv := Version_no h ho
  clear h hw
  go_enter Tryz.func17, Tryz.ntmps17
  go_wp2_with (first | (go_at_call 44; refine hc.mono ?_; clear hc; rintro e w' ⟨rfl, rfl⟩) | (go_at_call 45; refine hv.mono ?_; clear hv; rintro e w2 ⟨rfl, k2⟩; simp only [vv, vl0]))
  go_ret2
  exact ⟨rfl, k2.alloc _⟩
set_option maxHeartbeats 1600000 in
set_option maxRecDepth 1000000 in
theorem Make_may (h : St w ρ u j wb mb s m) (f : Wf s m) {att : Nat} (ha1 : 1 ≤ att) (ha : att < s.atts.length) {old : Nat} (ho : old < s.locs.length) (hC : s.isC m (s.lo old).owner = false) :
    Calls Tryz.prog 17 #[.pointer (some ⟨wb, 0, none⟩), .int .i64 (att : Int), .int .i64 (old : Int)] w fun e w' => e = .returned (.tuple #[.int .i64 0, .int .i64 53]) ∧ Keeps (fun _ => False) w w' := by
  obtain ⟨vo, va, vl, vn, hw⟩ := h.wj
  obtain ⟨ga, hga, _, _, _⟩ := hw.att ha
  have hc := attempt_ok hw ha hga
  have hq := aeq ga (att * 5)
  have d0 : ((att : Int) == 0) = false := by simp; omega
  have d1 : decide ((att : Int) = 0) = false := by simp; omega
  have d2 : (att == 0) = false := by simp; omega
  have hv := Version_ok h (by rw [f.vl]; exact ho : old < s.vals.length)
  obtain ⟨gl, hgl, rl, ll, l0, _, _, _⟩ := hw.loc ho
  obtain ⟨hnew, hold, hown⟩ := f.lo _ ho
  have hat : ∀ (W : World) (k : Keeps (fun _ => False) w W), _ := fun W k => atL (hw.new h.bnd k).pl ho hgl
  have hco : ∀ (W : World) (k : Keeps (fun _ => False) w W), _ := fun W k => committed_any (h.new k).1 hown (f.at_ _ hown).1
  rw [hC] at hco
  have hsz : ∀ (W : World) (k : Keeps (fun _ => False) w W), _ := fun W k => sizeL (hw.new h.bnd k).pl
  generalize s.vl old = V at *
  clear h hw hsz
  go_enter Tryz.func17, Tryz.ntmps17
  go_wp2_with (first | (go_at_call 44; refine hc.mono ?_; clear hc; rintro e w' ⟨rfl, rfl⟩) | (go_at_call 45; refine hv.mono ?_; clear hv; rintro e w2 ⟨rfl, k2⟩; simp only [vv]) | (go_at_call 40; refine (hat _ (k2.alloc _)).mono ?_; clear hat; rintro e w3 ⟨rfl, hw3⟩; have k3 : Keeps (fun _ => False) w w3 := hw3 ▸ (k2.alloc _); have l0' := k3.cell l0 (fun e => e); clear hw3) | (go_at_call 46; refine (hco _ k3).mono ?_; clear hco; rintro e w4 ⟨rfl, k4⟩; have k5 := k3.trans k4; clear l0'))
  go_ret2
  exact ⟨rfl, k5⟩
set_option maxHeartbeats 1600000 in
set_option maxRecDepth 1000000 in
theorem Make_room (h : St w ρ u j wb mb s m) (f : Wf s m) {att : Nat} (ha1 : 1 ≤ att) (ha : att < s.atts.length) {old : Nat} (ho : old < s.locs.length) (hC : s.isC m (s.lo old).owner = true) (hr : 16384 ≤ s.locs.length) :
    Calls Tryz.prog 17 #[.pointer (some ⟨wb, 0, none⟩), .int .i64 (att : Int), .int .i64 (old : Int)] w fun e w' => e = .returned (.tuple #[.int .i64 0, .int .i64 58]) ∧ Keeps (fun _ => False) w w' := by
  obtain ⟨vo, va, vl, vn, hw⟩ := h.wj
  obtain ⟨ga, hga, _, _, _⟩ := hw.att ha
  have hc := attempt_ok hw ha hga
  have hq := aeq ga (att * 5)
  have d0 : ((att : Int) == 0) = false := by simp; omega
  have d1 : decide ((att : Int) = 0) = false := by simp; omega
  have d2 : (att == 0) = false := by simp; omega
  have hv := Version_ok h (by rw [f.vl]; exact ho : old < s.vals.length)
  obtain ⟨gl, hgl, rl, ll, l0, _, _, _⟩ := hw.loc ho
  obtain ⟨hnew, hold, hown⟩ := f.lo _ ho
  have hat : ∀ (W : World) (k : Keeps (fun _ => False) w W), _ := fun W k => atL (hw.new h.bnd k).pl ho hgl
  have hco : ∀ (W : World) (k : Keeps (fun _ => False) w W), _ := fun W k => committed_any (h.new k).1 hown (f.at_ _ hown).1
  rw [hC] at hco
  have hsz : ∀ (W : World) (k : Keeps (fun _ => False) w W), _ := fun W k => sizeL (hw.new h.bnd k).pl
  generalize s.vl old = V at *
  have e1 : decide ((16384 : Int) ≤ (s.locs.length : Int)) = true := by simp; omega
  have e2 : decide (16384 ≤ s.locs.length) = true := by simp; omega
  clear h hw hr
  go_enter Tryz.func17, Tryz.ntmps17
  go_wp2_with (first | (go_at_call 44; refine hc.mono ?_; clear hc; rintro e w' ⟨rfl, rfl⟩) | (go_at_call 45; refine hv.mono ?_; clear hv; rintro e w2 ⟨rfl, k2⟩; simp only [vv]) | (go_at_call 40; refine (hat _ (k2.alloc _)).mono ?_; clear hat; rintro e w3 ⟨rfl, hw3⟩; have k3 : Keeps (fun _ => False) w w3 := hw3 ▸ (k2.alloc _); have l0' := k3.cell l0 (fun e => e); clear hw3) | (go_at_call 46; refine (hco _ k3).mono ?_; clear hco; rintro e w4 ⟨rfl, k4⟩; have k5 := k3.trans k4; clear l0') | (go_at_call 47; refine (hsz _ k5).mono ?_; clear hsz; rintro e w6 ⟨rfl, hw6⟩; have k6 : Keeps (fun _ => False) w w6 := hw6 ▸ k5; clear hw6))
  go_ret2
  exact ⟨rfl, k6⟩
set_option maxHeartbeats 1600000 in
set_option maxRecDepth 1000000 in
theorem Make_ok (h : St w ρ u j wb mb s m) (f : Wf s m) {att : Nat} (ha1 : 1 ≤ att) (ha : att < s.atts.length) {old : Nat} (ho : old < s.locs.length) (hC : s.isC m (s.lo old).owner = true) (hr : s.locs.length < 16384) :
    Calls Tryz.prog 17 #[.pointer (some ⟨wb, 0, none⟩), .int .i64 (att : Int), .int .i64 (old : Int)] w fun e w' => e = .returned (.tuple #[.int .i64 (s.locs.length : Int), .int .i64 0]) ∧ ∃ ρ', St w' ρ' u j wb mb (s.lay att old (s.vl old)) m ∧ Ext (Sr u j) w w' ρ ρ' := by
  obtain ⟨vo, va, vl, vn, hw⟩ := h.wj
  obtain ⟨ga, hga, _, _, _⟩ := hw.att ha
  have hc := attempt_ok hw ha hga
  have hq := aeq ga (att * 5)
  have d0 : ((att : Int) == 0) = false := by simp; omega
  have d1 : decide ((att : Int) = 0) = false := by simp; omega
  have d2 : (att == 0) = false := by simp; omega
  have hv := Version_ok h (by rw [f.vl]; exact ho : old < s.vals.length)
  obtain ⟨gl, hgl, rl, ll, l0, _, _, _⟩ := hw.loc ho
  obtain ⟨hnew, hold, hown⟩ := f.lo _ ho
  have hat : ∀ (W : World) (k : Keeps (fun _ => False) w W), _ := fun W k => atL (hw.new h.bnd k).pl ho hgl
  have hco : ∀ (W : World) (k : Keeps (fun _ => False) w W), _ := fun W k => committed_any (h.new k).1 hown (f.at_ _ hown).1
  rw [hC] at hco
  have hsz : ∀ (W : World) (k : Keeps (fun _ => False) w W), _ := fun W k => sizeL (hw.new h.bnd k).pl
  generalize s.vl old = V at *
  have e1 : decide ((16384 : Int) ≤ (s.locs.length : Int)) = false := by simp; omega
  have e2 : decide (16384 ≤ s.locs.length) = false := by simp; omega
  have hla : ∀ (W : World) (k : Keeps (fun _ => False) w W), _ := fun W k => lay_any (h.new k).1 (by omega) (by rw [f.vl]; omega) att old V
  have hnw : ∀ (W : World) (k : Keeps (fun _ => False) w W), _ := fun W k => (h.new k).2
  clear h hw
  go_enter Tryz.func17, Tryz.ntmps17
  go_wp2_with (first | (go_at_call 44; refine hc.mono ?_; clear hc; rintro e w' ⟨rfl, rfl⟩) | (go_at_call 45; refine hv.mono ?_; clear hv; rintro e w2 ⟨rfl, k2⟩; simp only [vv]) | (go_at_call 40; refine (hat _ (k2.alloc _)).mono ?_; clear hat; rintro e w3 ⟨rfl, hw3⟩; have hw3' := hw3; have k3 : Keeps (fun _ => False) w w3 := hw3 ▸ (k2.alloc _); have l0' := k3.cell l0 (fun e => e); clear hw3; have B0 : w3.cell? ⟨w2.heap.size, 0, none⟩ = some (.int .i64 V.num) := (by rw [← hw3']; simp); have B1 : w3.cell? ⟨w2.heap.size, 1, none⟩ = some (.int .i64 V.next) := (by rw [← hw3']; simp); have B2 : w3.cell? ⟨w2.heap.size, 2, none⟩ = some (.bool V.dead) := (by rw [← hw3']; simp); clear hw3') | (go_at_call 46; refine (hco _ k3).mono ?_; clear hco; rintro e w4 ⟨rfl, k4⟩; have k5 := k3.trans k4; clear l0'; have C0 := k4.cell B0 (fun e => e); have C1 := k4.cell B1 (fun e => e); have C2 := k4.cell B2 (fun e => e)) | (go_at_call 47; refine (hsz _ k5).mono ?_; clear hsz; rintro e w6 ⟨rfl, hw6⟩; have k6 : Keeps (fun _ => False) w w6 := hw6 ▸ k5; subst hw6) | (go_at_call 39; refine (hla _ k6).mono ?_; clear hla; rintro e w7 ⟨rfl, ρ7, h7, x7⟩))
  go_ret2
  exact ⟨rfl, ρ7, h7, (hnw _ k6).trans x7⟩
end
end Go.Proofs.YtaikngpgmcpecaaGreat
