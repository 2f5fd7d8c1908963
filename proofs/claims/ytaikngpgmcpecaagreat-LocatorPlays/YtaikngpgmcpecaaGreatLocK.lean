import Derived.Test.YtaikngpgmcpecaaGreatLocJ
namespace Go.Proofs.YtaikngpgmcpecaaGreat
open Go.RowKit
section
variable {w w' : World} {ρ ρ' : Nat → Nat} {u j wb mb : Nat} {s s' : Ws} {m m' : Mm} {vo va vl vn : Value}
set_option maxHeartbeats 1600000 in
set_option maxRecDepth 1000000 in
theorem up_bad (h : St w ρ u j wb mb s m) {i : Int} (hi : i ≤ 0 ∨ (s.atts.length : Int) ≤ i) :
    Calls Tryz.prog 79 #[.pointer (some ⟨wb, 0, none⟩), .int .i64 i, .bool true] w fun e w' => e = .returned (.tuple #[.bool false, .int .i64 51]) ∧ w = w' := by
  obtain ⟨vo, va, vl, vn, hw⟩ := h.wj
  by_cases hz : i = 0
  · subst hz
    by_cases hl : 0 < s.atts.length
    · obtain ⟨ga, hga, _, _, _⟩ := hw.att hl
      have ha := attempt_ok hw hl hga
      simp only [Nat.zero_mul] at ha
      have hq := aeq ga 0
      clear h hw
      go_enter Tryz.func79, Tryz.ntmps79
      go_wp2_with (go_at_call 44; refine ha.mono ?_; rintro e w' ⟨rfl, rfl⟩)
      go_ret2
      exact ⟨rfl, rfl⟩
    · have ha := attempt_no hw (i := 0) (by omega)
      have hq := aeq0
      clear h hw
      go_enter Tryz.func79, Tryz.ntmps79
      go_wp2_with (go_at_call 44; refine ha.mono ?_; rintro e w' ⟨rfl, rfl⟩)
      go_ret2
      exact ⟨rfl, rfl⟩
  · have ha := attempt_no hw (i := i) (by omega)
    have hq := aeq0
    clear h hw
    go_enter Tryz.func79, Tryz.ntmps79
    go_wp2_with (go_at_call 44; refine ha.mono ?_; rintro e w' ⟨rfl, rfl⟩)
    go_ret2
    exact ⟨rfl, rfl⟩
set_option maxHeartbeats 1600000 in
set_option maxRecDepth 1000000 in
theorem up_closed (h : St w ρ u j wb mb s m) (f : Wf s m) {i : Nat} (h1 : 1 ≤ i) (hi : i < s.atts.length) (hfr : m.free = false) :
    Calls Tryz.prog 79 #[.pointer (some ⟨wb, 0, none⟩), .int .i64 (i : Int), .bool true] w fun e w' => e = .returned (.tuple #[.bool false, .int .i64 31]) ∧ Keeps (fun _ => False) w w' := by
  obtain ⟨vo, va, vl, vn, hw⟩ := h.wj
  obtain ⟨ga, hga, ra, la, _, _, _, d3, d4⟩ := hw.att hi
  have ha := attempt_ok hw hi hga
  have hq := aeq ga (i * 5)
  have f0 := hw.mem
  have rw_ := hw.role
  have d0 : ((i : Int) == 0) = false := by simp; omega
  have d1 : decide ((i : Int) = 0) = false := by simp; omega
  have d2 : (i == 0) = false := by simp; omega
  have hl : ∀ (W : World) (k : Keeps (fun _ => False) w W), _ := fun W k => sswapC (h.new k).1 (f.at_ i hi).2 hfr (0) (1)
  generalize s.att i = A at *
  clear h hw
  go_enter Tryz.func79, Tryz.ntmps79
  go_wp2_with (go_at_call 44; refine ha.mono ?_; rintro e w' ⟨rfl, rfl⟩)
  have KD : Keeps (fun _ => False) w w.drew := (Keeps.refl _ w).drew
  go_region_held3 (fun w' => w'.cell? ⟨wb, 0, none⟩ = some (.pointer (some ⟨mb, 0, none⟩)) ∧ w'.cell? ⟨ga, i * 5 + 4, none⟩ = some (.int .i64 (A.flag : Int))) (go_keep) ((go_at_call 51; refine (hl _ KD).mono ?_; rintro e w3 ⟨rfl, k3⟩; have q1 := (KD.trans k3).cell (p := ⟨wb, 0, none⟩) f0 (fun e => e); have q2 := (KD.trans k3).cell (p := ⟨ga, i * 5 + 4, none⟩) d4 (fun e => e)))
  all_goals
    (try simp only [Exit.then])
    go_wp2_with fail
    go_ret2
    exact ⟨rfl, (KD.trans k3)⟩
set_option maxHeartbeats 1600000 in
set_option maxRecDepth 1000000 in
theorem up_ok (h : St w ρ u j wb mb s m) (f : Wf s m) {i : Nat} (h1 : 1 ≤ i) (hi : i < s.atts.length) (hfr : m.free = true) (hlog : (m.log.length + 1) * 56 ≤ 140737488355328) :
    Calls Tryz.prog 79 #[.pointer (some ⟨wb, 0, none⟩), .int .i64 (i : Int), .bool true] w fun e w' => e = .returned (.tuple #[.bool (decide ((ca m.cells (s.att i).flag).2 = 0)), .int .i64 0]) ∧ ∃ ρ', St w' ρ' u j wb mb s (m.swap (s.att i).flag (0) (1)) ∧ Ext (Sr u j) w w' ρ ρ' := by
  obtain ⟨vo, va, vl, vn, hw⟩ := h.wj
  obtain ⟨ga, hga, ra, la, _, _, _, d3, d4⟩ := hw.att hi
  have ha := attempt_ok hw hi hga
  have hq := aeq ga (i * 5)
  have f0 := hw.mem
  have rw_ := hw.role
  have d0 : ((i : Int) == 0) = false := by simp; omega
  have d1 : decide ((i : Int) = 0) = false := by simp; omega
  have d2 : (i == 0) = false := by simp; omega
  have hl : ∀ (W : World) (k : Keeps (fun _ => False) w W), _ := fun W k => sswap' (h.new k).1 (f.at_ i hi).2 hfr hlog (0) (1)
  have hx : ∀ (W : World) (k : Keeps (fun _ => False) w W), _ := fun W k => (h.new k).2
  have nu0 : ¬ ρ wb = u := fun e => h.ap (by omega)
  have nu2 : ¬ ρ ga = u := fun e => h.ap (by omega)
  generalize s.att i = A at *
  generalize (ca m.cells A.flag).2 = x at *
  clear h hw
  go_enter Tryz.func79, Tryz.ntmps79
  go_wp2_with (go_at_call 44; refine ha.mono ?_; rintro e w' ⟨rfl, rfl⟩)
  have KD : Keeps (fun _ => False) w w.drew := (Keeps.refl _ w).drew
  go_region_held3 (fun w' => w'.cell? ⟨wb, 0, none⟩ = some (.pointer (some ⟨mb, 0, none⟩)) ∧ w'.cell? ⟨ga, i * 5 + 4, none⟩ = some (.int .i64 (A.flag : Int))) (go_keep) ((go_at_call 51; refine (hl _ KD).mono ?_; rintro e w3 ⟨rfl, ρ3, h3, x3, y3⟩; have q1 := y3.cell (p := ⟨wb, 0, none⟩) (KD.cell f0 (fun e => e)) nu0; have q2 := y3.cell (p := ⟨ga, i * 5 + 4, none⟩) (KD.cell d4 (fun e => e)) nu2))
  all_goals
    (try simp only [Exit.then])
    go_wp2_with fail
    go_ret2
    exact ⟨rfl, ρ3, h3, (hx _ KD).trans x3⟩
set_option maxHeartbeats 1600000 in
set_option maxRecDepth 1000000 in
theorem down_bad (h : St w ρ u j wb mb s m) {i : Int} (hi : i ≤ 0 ∨ (s.atts.length : Int) ≤ i) :
    Calls Tryz.prog 79 #[.pointer (some ⟨wb, 0, none⟩), .int .i64 i, .bool false] w fun e w' => e = .returned (.tuple #[.bool false, .int .i64 51]) ∧ w = w' := by
  obtain ⟨vo, va, vl, vn, hw⟩ := h.wj
  by_cases hz : i = 0
  · subst hz
    by_cases hl : 0 < s.atts.length
    · obtain ⟨ga, hga, _, _, _⟩ := hw.att hl
      have ha := attempt_ok hw hl hga
      simp only [Nat.zero_mul] at ha
      have hq := aeq ga 0
      clear h hw
      go_enter Tryz.func79, Tryz.ntmps79
      go_wp2_with (go_at_call 44; refine ha.mono ?_; rintro e w' ⟨rfl, rfl⟩)
      go_ret2
      exact ⟨rfl, rfl⟩
    · have ha := attempt_no hw (i := 0) (by omega)
      have hq := aeq0
      clear h hw
      go_enter Tryz.func79, Tryz.ntmps79
      go_wp2_with (go_at_call 44; refine ha.mono ?_; rintro e w' ⟨rfl, rfl⟩)
      go_ret2
      exact ⟨rfl, rfl⟩
  · have ha := attempt_no hw (i := i) (by omega)
    have hq := aeq0
    clear h hw
    go_enter Tryz.func79, Tryz.ntmps79
    go_wp2_with (go_at_call 44; refine ha.mono ?_; rintro e w' ⟨rfl, rfl⟩)
    go_ret2
    exact ⟨rfl, rfl⟩
set_option maxHeartbeats 1600000 in
set_option maxRecDepth 1000000 in
theorem down_closed (h : St w ρ u j wb mb s m) (f : Wf s m) {i : Nat} (h1 : 1 ≤ i) (hi : i < s.atts.length) (hfr : m.free = false) :
    Calls Tryz.prog 79 #[.pointer (some ⟨wb, 0, none⟩), .int .i64 (i : Int), .bool false] w fun e w' => e = .returned (.tuple #[.bool false, .int .i64 31]) ∧ Keeps (fun _ => False) w w' := by
  obtain ⟨vo, va, vl, vn, hw⟩ := h.wj
  obtain ⟨ga, hga, ra, la, _, _, _, d3, d4⟩ := hw.att hi
  have ha := attempt_ok hw hi hga
  have hq := aeq ga (i * 5)
  have f0 := hw.mem
  have rw_ := hw.role
  have d0 : ((i : Int) == 0) = false := by simp; omega
  have d1 : decide ((i : Int) = 0) = false := by simp; omega
  have d2 : (i == 0) = false := by simp; omega
  have hl : ∀ (W : World) (k : Keeps (fun _ => False) w W), _ := fun W k => sswapC (h.new k).1 (f.at_ i hi).2 hfr (1) (0)
  generalize s.att i = A at *
  clear h hw
  go_enter Tryz.func79, Tryz.ntmps79
  go_wp2_with (go_at_call 44; refine ha.mono ?_; rintro e w' ⟨rfl, rfl⟩)
  have KD : Keeps (fun _ => False) w w.drew := (Keeps.refl _ w).drew
  go_region_held3 (fun w' => w'.cell? ⟨wb, 0, none⟩ = some (.pointer (some ⟨mb, 0, none⟩)) ∧ w'.cell? ⟨ga, i * 5 + 4, none⟩ = some (.int .i64 (A.flag : Int))) (go_keep) ((go_at_call 51; refine (hl _ KD).mono ?_; rintro e w3 ⟨rfl, k3⟩; have q1 := (KD.trans k3).cell (p := ⟨wb, 0, none⟩) f0 (fun e => e); have q2 := (KD.trans k3).cell (p := ⟨ga, i * 5 + 4, none⟩) d4 (fun e => e)))
  all_goals
    (try simp only [Exit.then])
    go_wp2_with fail
    go_ret2
    exact ⟨rfl, (KD.trans k3)⟩
set_option maxHeartbeats 1600000 in
set_option maxRecDepth 1000000 in
theorem down_ok (h : St w ρ u j wb mb s m) (f : Wf s m) {i : Nat} (h1 : 1 ≤ i) (hi : i < s.atts.length) (hfr : m.free = true) (hlog : (m.log.length + 1) * 56 ≤ 140737488355328) :
    Calls Tryz.prog 79 #[.pointer (some ⟨wb, 0, none⟩), .int .i64 (i : Int), .bool false] w fun e w' => e = .returned (.tuple #[.bool (decide ((ca m.cells (s.att i).flag).2 = 1)), .int .i64 0]) ∧ ∃ ρ', St w' ρ' u j wb mb s (m.swap (s.att i).flag (1) (0)) ∧ Ext (Sr u j) w w' ρ ρ' := by
  obtain ⟨vo, va, vl, vn, hw⟩ := h.wj
  obtain ⟨ga, hga, ra, la, _, _, _, d3, d4⟩ := hw.att hi
  have ha := attempt_ok hw hi hga
  have hq := aeq ga (i * 5)
  have f0 := hw.mem
  have rw_ := hw.role
  have d0 : ((i : Int) == 0) = false := by simp; omega
  have d1 : decide ((i : Int) = 0) = false := by simp; omega
  have d2 : (i == 0) = false := by simp; omega
  have hl : ∀ (W : World) (k : Keeps (fun _ => False) w W), _ := fun W k => sswap' (h.new k).1 (f.at_ i hi).2 hfr hlog (1) (0)
  have hx : ∀ (W : World) (k : Keeps (fun _ => False) w W), _ := fun W k => (h.new k).2
  have nu0 : ¬ ρ wb = u := fun e => h.ap (by omega)
  have nu2 : ¬ ρ ga = u := fun e => h.ap (by omega)
  generalize s.att i = A at *
  generalize (ca m.cells A.flag).2 = x at *
  clear h hw
  go_enter Tryz.func79, Tryz.ntmps79
  go_wp2_with (go_at_call 44; refine ha.mono ?_; rintro e w' ⟨rfl, rfl⟩)
  have KD : Keeps (fun _ => False) w w.drew := (Keeps.refl _ w).drew
  go_region_held3 (fun w' => w'.cell? ⟨wb, 0, none⟩ = some (.pointer (some ⟨mb, 0, none⟩)) ∧ w'.cell? ⟨ga, i * 5 + 4, none⟩ = some (.int .i64 (A.flag : Int))) (go_keep) ((go_at_call 51; refine (hl _ KD).mono ?_; rintro e w3 ⟨rfl, ρ3, h3, x3, y3⟩; have q1 := y3.cell (p := ⟨wb, 0, none⟩) (KD.cell f0 (fun e => e)) nu0; have q2 := y3.cell (p := ⟨ga, i * 5 + 4, none⟩) (KD.cell d4 (fun e => e)) nu2))
  all_goals
    (try simp only [Exit.then])
    go_wp2_with fail
    go_ret2
    exact ⟨rfl, ρ3, h3, (hx _ KD).trans x3⟩
end
end Go.Proofs.YtaikngpgmcpecaaGreat
