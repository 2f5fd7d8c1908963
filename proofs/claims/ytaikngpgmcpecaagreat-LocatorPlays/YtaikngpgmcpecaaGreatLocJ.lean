import Derived.Test.YtaikngpgmcpecaaGreatLocI
namespace Go.Proofs.YtaikngpgmcpecaaGreat
open Go.RowKit
section
variable {w w' : World} {ρ ρ' : Nat → Nat} {u j wb mb : Nat} {s s' : Ws} {m m' : Mm} {vo va vl vn : Value}
set_option maxHeartbeats 1600000 in
set_option maxRecDepth 1000000 in
theorem OCell_ok (h : St w ρ u j wb mb s m) {i : Nat} (hi : i < s.objs.length) :
    Calls Tryz.prog 50 #[.pointer (some ⟨wb, 0, none⟩), .int .i64 (i : Int)] w fun e w' => e = .returned (.tuple #[.int .i64 (s.ob i : Int), .int .i64 0]) ∧ w = w' := by
  obtain ⟨vo, va, vl, vn, hw⟩ := h.wj
  obtain ⟨go, hgo, _, _, d0⟩ := hw.obj hi
  have ha := atO hw.po hi hgo
  simp only [Nat.mul_one] at ha d0
  have hp := weq wb
  have hq := oeq go i
  generalize s.ob i = O at *
  clear h hw
  go_enter Tryz.func50, Tryz.ntmps50
  go_wp2_with (go_at_call 91; refine ha.mono ?_; rintro e w' ⟨rfl, rfl⟩)
  go_ret2
  exact ⟨rfl, rfl⟩
set_option maxHeartbeats 1600000 in
set_option maxRecDepth 1000000 in
theorem OCell_no (h : St w ρ u j wb mb s m) {i : Int} (hi : i < 0 ∨ (s.objs.length : Int) ≤ i) :
    Calls Tryz.prog 50 #[.pointer (some ⟨wb, 0, none⟩), .int .i64 i] w fun e w' => e = .returned (.tuple #[.int .i64 0, .int .i64 50]) ∧ w = w' := by
  obtain ⟨vo, va, vl, vn, hw⟩ := h.wj
  have ha := atNotO hw.po hi
  have hp := weq wb
  have hq := oeq0
  clear h hw
  go_enter Tryz.func50, Tryz.ntmps50
  go_wp2_with (go_at_call 91; refine ha.mono ?_; rintro e w' ⟨rfl, rfl⟩)
  go_ret2
  exact ⟨rfl, rfl⟩
set_option maxHeartbeats 1600000 in
set_option maxRecDepth 1000000 in
theorem SCell_ok (h : St w ρ u j wb mb s m) {i : Nat} (hi : i < s.atts.length) :
    Calls Tryz.prog 63 #[.pointer (some ⟨wb, 0, none⟩), .int .i64 (i : Int)] w fun e w' => e = .returned (.tuple #[.int .i64 ((s.att i).status : Int), .int .i64 0]) ∧ w = w' := by
  obtain ⟨vo, va, vl, vn, hw⟩ := h.wj
  obtain ⟨ga, hga, _, _, _, _, _, d3, d4⟩ := hw.att hi
  have ha := attempt_ok hw hi hga
  have hq := aeq ga (i * 5)
  generalize s.att i = A at *
  clear h hw
  go_enter Tryz.func63, Tryz.ntmps63
  go_wp2_with (go_at_call 44; refine ha.mono ?_; rintro e w' ⟨rfl, rfl⟩)
  go_ret2
  exact ⟨rfl, rfl⟩
set_option maxHeartbeats 1600000 in
set_option maxRecDepth 1000000 in
theorem SCell_no (h : St w ρ u j wb mb s m) {i : Int} (hi : i < 0 ∨ (s.atts.length : Int) ≤ i) :
    Calls Tryz.prog 63 #[.pointer (some ⟨wb, 0, none⟩), .int .i64 i] w fun e w' => e = .returned (.tuple #[.int .i64 0, .int .i64 51]) ∧ w = w' := by
  obtain ⟨vo, va, vl, vn, hw⟩ := h.wj
  have ha := attempt_no hw hi
  have hq := aeq0
  clear h hw
  go_enter Tryz.func63, Tryz.ntmps63
  go_wp2_with (go_at_call 44; refine ha.mono ?_; rintro e w' ⟨rfl, rfl⟩)
  go_ret2
  exact ⟨rfl, rfl⟩
set_option maxHeartbeats 1600000 in
set_option maxRecDepth 1000000 in
theorem FCell_ok (h : St w ρ u j wb mb s m) {i : Nat} (hi : i < s.atts.length) :
    Calls Tryz.prog 65 #[.pointer (some ⟨wb, 0, none⟩), .int .i64 (i : Int)] w fun e w' => e = .returned (.tuple #[.int .i64 ((s.att i).flag : Int), .int .i64 0]) ∧ w = w' := by
  obtain ⟨vo, va, vl, vn, hw⟩ := h.wj
  obtain ⟨ga, hga, _, _, _, _, _, d3, d4⟩ := hw.att hi
  have ha := attempt_ok hw hi hga
  have hq := aeq ga (i * 5)
  generalize s.att i = A at *
  clear h hw
  go_enter Tryz.func65, Tryz.ntmps65
  go_wp2_with (go_at_call 44; refine ha.mono ?_; rintro e w' ⟨rfl, rfl⟩)
  go_ret2
  exact ⟨rfl, rfl⟩
set_option maxHeartbeats 1600000 in
set_option maxRecDepth 1000000 in
theorem FCell_no (h : St w ρ u j wb mb s m) {i : Int} (hi : i < 0 ∨ (s.atts.length : Int) ≤ i) :
    Calls Tryz.prog 65 #[.pointer (some ⟨wb, 0, none⟩), .int .i64 i] w fun e w' => e = .returned (.tuple #[.int .i64 0, .int .i64 51]) ∧ w = w' := by
  obtain ⟨vo, va, vl, vn, hw⟩ := h.wj
  have ha := attempt_no hw hi
  have hq := aeq0
  clear h hw
  go_enter Tryz.func65, Tryz.ntmps65
  go_wp2_with (go_at_call 44; refine ha.mono ?_; rintro e w' ⟨rfl, rfl⟩)
  go_ret2
  exact ⟨rfl, rfl⟩
set_option maxHeartbeats 1600000 in
set_option maxRecDepth 1000000 in
theorem Load_no (h : St w ρ u j wb mb s m) {i : Int} (hi : i < 0 ∨ (s.objs.length : Int) ≤ i) :
    Calls Tryz.prog 32 #[.pointer (some ⟨wb, 0, none⟩), .int .i64 i] w fun e w' => e = .returned (.tuple #[.int .i64 0, .int .i64 50]) ∧ w = w' := by
  have ha := OCell_no h hi
  clear h
  go_enter Tryz.func32, Tryz.ntmps32
  go_wp2_with (go_at_call 50; refine ha.mono ?_; rintro e w' ⟨rfl, rfl⟩)
  go_ret2
  exact ⟨rfl, rfl⟩
set_option maxHeartbeats 1600000 in
set_option maxRecDepth 1000000 in
theorem Load_closed (h : St w ρ u j wb mb s m) (f : Wf s m) {i : Nat} (hi : i < s.objs.length) (hfr : m.free = false) :
    Calls Tryz.prog 32 #[.pointer (some ⟨wb, 0, none⟩), .int .i64 (i : Int)] w fun e w' => e = .returned (.tuple #[.int .i64 0, .int .i64 31]) ∧ Keeps (fun _ => False) w w' := by
  have ha := OCell_ok h hi
  have hl := sloadC h (f.ob i hi).1 hfr
  obtain ⟨vo, va, vl, vn, hw⟩ := h.wj
  have f0 := hw.mem
  clear h hw
  go_enter Tryz.func32, Tryz.ntmps32
  go_wp2_with (first | (go_at_call 50; refine ha.mono ?_; rintro e w' ⟨rfl, rfl⟩) | (go_at_call 81; refine hl.mono ?_; clear hl; rintro e w2 ⟨rfl, k2⟩))
  go_ret2
  exact ⟨rfl, k2⟩
set_option maxHeartbeats 1600000 in
set_option maxRecDepth 1000000 in
theorem Load_ok (h : St w ρ u j wb mb s m) (f : Wf s m) {i : Nat} (hi : i < s.objs.length) (hfr : m.free = true) (hlog : (m.log.length + 1) * 56 ≤ 140737488355328) :
    Calls Tryz.prog 32 #[.pointer (some ⟨wb, 0, none⟩), .int .i64 (i : Int)] w fun e w' => e = .returned (.tuple #[.int .i64 (ca m.cells (s.ob i)).2, .int .i64 0]) ∧ ∃ ρ', St w' ρ' u j wb mb s (m.load (s.ob i)) ∧ Ext (Sr u j) w w' ρ ρ' := by
  have ha := OCell_ok h hi
  have hl := sload' h (f.ob i hi).1 hfr hlog
  obtain ⟨vo, va, vl, vn, hw⟩ := h.wj
  have f0 := hw.mem
  generalize (ca m.cells (s.ob i)).2 = x at *
  clear h hw
  go_enter Tryz.func32, Tryz.ntmps32
  go_wp2_with (first | (go_at_call 50; refine ha.mono ?_; rintro e w' ⟨rfl, rfl⟩) | (go_at_call 81; refine hl.mono ?_; clear hl; rintro e w2 ⟨rfl, h2⟩))
  go_ret2
  exact ⟨rfl, h2⟩
set_option maxHeartbeats 1600000 in
set_option maxRecDepth 1000000 in
theorem Status_no (h : St w ρ u j wb mb s m) {i : Int} (hi : i < 0 ∨ (s.atts.length : Int) ≤ i) :
    Calls Tryz.prog 34 #[.pointer (some ⟨wb, 0, none⟩), .int .i64 i] w fun e w' => e = .returned (.tuple #[.int .i64 0, .int .i64 51]) ∧ w = w' := by
  have ha := SCell_no h hi
  clear h
  go_enter Tryz.func34, Tryz.ntmps34
  go_wp2_with (go_at_call 63; refine ha.mono ?_; rintro e w' ⟨rfl, rfl⟩)
  go_ret2
  exact ⟨rfl, rfl⟩
set_option maxHeartbeats 1600000 in
set_option maxRecDepth 1000000 in
theorem Status_closed (h : St w ρ u j wb mb s m) (f : Wf s m) {i : Nat} (hi : i < s.atts.length) (hfr : m.free = false) :
    Calls Tryz.prog 34 #[.pointer (some ⟨wb, 0, none⟩), .int .i64 (i : Int)] w fun e w' => e = .returned (.tuple #[.int .i64 0, .int .i64 31]) ∧ Keeps (fun _ => False) w w' := by
  have ha := SCell_ok h hi
  have hl := sloadC h (f.at_ i hi).1 hfr
  obtain ⟨vo, va, vl, vn, hw⟩ := h.wj
  have f0 := hw.mem
  clear h hw
  go_enter Tryz.func34, Tryz.ntmps34
  go_wp2_with (first | (go_at_call 63; refine ha.mono ?_; rintro e w' ⟨rfl, rfl⟩) | (go_at_call 81; refine hl.mono ?_; clear hl; rintro e w2 ⟨rfl, k2⟩))
  go_ret2
  exact ⟨rfl, k2⟩
set_option maxHeartbeats 1600000 in
set_option maxRecDepth 1000000 in
theorem Status_ok (h : St w ρ u j wb mb s m) (f : Wf s m) {i : Nat} (hi : i < s.atts.length) (hfr : m.free = true) (hlog : (m.log.length + 1) * 56 ≤ 140737488355328) :
    Calls Tryz.prog 34 #[.pointer (some ⟨wb, 0, none⟩), .int .i64 (i : Int)] w fun e w' => e = .returned (.tuple #[.int .i64 (ca m.cells ((s.att i).status)).2, .int .i64 0]) ∧ ∃ ρ', St w' ρ' u j wb mb s (m.load ((s.att i).status)) ∧ Ext (Sr u j) w w' ρ ρ' := by
  have ha := SCell_ok h hi
  have hl := sload' h (f.at_ i hi).1 hfr hlog
  obtain ⟨vo, va, vl, vn, hw⟩ := h.wj
  have f0 := hw.mem
  generalize (ca m.cells ((s.att i).status)).2 = x at *
  clear h hw
  go_enter Tryz.func34, Tryz.ntmps34
  go_wp2_with (first | (go_at_call 63; refine ha.mono ?_; rintro e w' ⟨rfl, rfl⟩) | (go_at_call 81; refine hl.mono ?_; clear hl; rintro e w2 ⟨rfl, h2⟩))
  go_ret2
  exact ⟨rfl, h2⟩
set_option maxHeartbeats 1600000 in
set_option maxRecDepth 1000000 in
theorem Flag_no (h : St w ρ u j wb mb s m) {i : Int} (hi : i < 0 ∨ (s.atts.length : Int) ≤ i) :
    Calls Tryz.prog 77 #[.pointer (some ⟨wb, 0, none⟩), .int .i64 i] w fun e w' => e = .returned (.tuple #[.bool false, .int .i64 51]) ∧ w = w' := by
  have ha := FCell_no h hi
  clear h
  go_enter Tryz.func77, Tryz.ntmps77
  go_wp2_with (go_at_call 65; refine ha.mono ?_; rintro e w' ⟨rfl, rfl⟩)
  go_ret2
  exact ⟨rfl, rfl⟩
set_option maxHeartbeats 1600000 in
set_option maxRecDepth 1000000 in
theorem Flag_closed (h : St w ρ u j wb mb s m) (f : Wf s m) {i : Nat} (hi : i < s.atts.length) (hfr : m.free = false) :
    Calls Tryz.prog 77 #[.pointer (some ⟨wb, 0, none⟩), .int .i64 (i : Int)] w fun e w' => e = .returned (.tuple #[.bool false, .int .i64 31]) ∧ Keeps (fun _ => False) w w' := by
  have ha := FCell_ok h hi
  have hl := sloadC h (f.at_ i hi).2 hfr
  obtain ⟨vo, va, vl, vn, hw⟩ := h.wj
  have f0 := hw.mem
  clear h hw
  go_enter Tryz.func77, Tryz.ntmps77
  go_wp2_with (first | (go_at_call 65; refine ha.mono ?_; rintro e w' ⟨rfl, rfl⟩) | (go_at_call 81; refine hl.mono ?_; clear hl; rintro e w2 ⟨rfl, k2⟩))
  go_ret2
  exact ⟨rfl, k2⟩
set_option maxHeartbeats 1600000 in
set_option maxRecDepth 1000000 in
theorem Flag_ok (h : St w ρ u j wb mb s m) (f : Wf s m) {i : Nat} (hi : i < s.atts.length) (hfr : m.free = true) (hlog : (m.log.length + 1) * 56 ≤ 140737488355328) :
    Calls Tryz.prog 77 #[.pointer (some ⟨wb, 0, none⟩), .int .i64 (i : Int)] w fun e w' => e = .returned (.tuple #[.bool (decide ((ca m.cells ((s.att i).flag)).2 = 1)), .int .i64 0]) ∧ ∃ ρ', St w' ρ' u j wb mb s (m.load ((s.att i).flag)) ∧ Ext (Sr u j) w w' ρ ρ' := by
  have ha := FCell_ok h hi
  have hl := sload' h (f.at_ i hi).2 hfr hlog
  obtain ⟨vo, va, vl, vn, hw⟩ := h.wj
  have f0 := hw.mem
  generalize (ca m.cells ((s.att i).flag)).2 = x at *
  clear h hw
  go_enter Tryz.func77, Tryz.ntmps77
  go_wp2_with (first | (go_at_call 65; refine ha.mono ?_; rintro e w' ⟨rfl, rfl⟩) | (go_at_call 81; refine hl.mono ?_; clear hl; rintro e w2 ⟨rfl, h2⟩))
  go_ret2
  exact ⟨rfl, h2⟩
set_option maxHeartbeats 1600000 in
set_option maxRecDepth 1000000 in
theorem end_bad (h : St w ρ u j wb mb s m) {i : Int} (hi : i ≤ 0 ∨ (s.atts.length : Int) ≤ i) (sv : Int) :
    Calls Tryz.prog 52 #[.pointer (some ⟨wb, 0, none⟩), .int .i64 i, .int .i64 sv] w fun e w' => e = .returned (.tuple #[.bool false, .int .i64 51]) ∧ w = w' := by
  obtain ⟨vo, va, vl, vn, hw⟩ := h.wj
  by_cases hz : i = 0
  · subst hz
    by_cases hl : 0 < s.atts.length
    · obtain ⟨ga, hga, _, _, _⟩ := hw.att hl
      have ha := attempt_ok hw hl hga
      simp only [Nat.zero_mul] at ha
      have hq := aeq ga 0
      clear h hw
      go_enter Tryz.func52, Tryz.ntmps52
      go_wp2_with (go_at_call 44; refine ha.mono ?_; rintro e w' ⟨rfl, rfl⟩)
      go_ret2
      exact ⟨rfl, rfl⟩
    · have ha := attempt_no hw (i := 0) (by omega)
      have hq := aeq0
      clear h hw
      go_enter Tryz.func52, Tryz.ntmps52
      go_wp2_with (go_at_call 44; refine ha.mono ?_; rintro e w' ⟨rfl, rfl⟩)
      go_ret2
      exact ⟨rfl, rfl⟩
  · have ha := attempt_no hw (i := i) (by omega)
    have hq := aeq0
    clear h hw
    go_enter Tryz.func52, Tryz.ntmps52
    go_wp2_with (go_at_call 44; refine ha.mono ?_; rintro e w' ⟨rfl, rfl⟩)
    go_ret2
    exact ⟨rfl, rfl⟩
set_option maxHeartbeats 1600000 in
set_option maxRecDepth 1000000 in
theorem end_closed (h : St w ρ u j wb mb s m) (f : Wf s m) {i : Nat} (h1 : 1 ≤ i) (hi : i < s.atts.length) (hfr : m.free = false) (sv : Int) :
    Calls Tryz.prog 52 #[.pointer (some ⟨wb, 0, none⟩), .int .i64 (i : Int), .int .i64 sv] w fun e w' => e = .returned (.tuple #[.bool false, .int .i64 31]) ∧ Keeps (fun _ => False) w w' := by
  obtain ⟨vo, va, vl, vn, hw⟩ := h.wj
  obtain ⟨ga, hga, ra, la, _, _, _, d3, d4⟩ := hw.att hi
  have ha := attempt_ok hw hi hga
  have hq := aeq ga (i * 5)
  have f0 := hw.mem
  have rw_ := hw.role
  have d0 : ((i : Int) == 0) = false := by simp; omega
  have d1 : decide ((i : Int) = 0) = false := by simp; omega
  have d2 : (i == 0) = false := by simp; omega
  have hl : ∀ (W : World) (k : Keeps (fun _ => False) w W), _ := fun W k => sswapC (h.new k).1 (f.at_ i hi).1 hfr (1) (sv)
  generalize s.att i = A at *
  clear h hw
  go_enter Tryz.func52, Tryz.ntmps52
  go_wp2_with (go_at_call 44; refine ha.mono ?_; rintro e w' ⟨rfl, rfl⟩)
  have KD : Keeps (fun _ => False) w w.drew := (Keeps.refl _ w).drew
  go_region_held3 (fun w' => w'.cell? ⟨wb, 0, none⟩ = some (.pointer (some ⟨mb, 0, none⟩)) ∧ w'.cell? ⟨ga, i * 5 + 3, none⟩ = some (.int .i64 (A.status : Int))) (go_keep) ((go_at_call 51; refine (hl _ KD).mono ?_; rintro e w3 ⟨rfl, k3⟩; have q1 := (KD.trans k3).cell (p := ⟨wb, 0, none⟩) f0 (fun e => e); have q2 := (KD.trans k3).cell (p := ⟨ga, i * 5 + 3, none⟩) d3 (fun e => e)))
  all_goals
    (try simp only [Exit.then])
    go_wp2_with fail
    go_ret2
    exact ⟨rfl, (KD.trans k3)⟩
set_option maxHeartbeats 1600000 in
set_option maxRecDepth 1000000 in
theorem end_ok (h : St w ρ u j wb mb s m) (f : Wf s m) {i : Nat} (h1 : 1 ≤ i) (hi : i < s.atts.length) (hfr : m.free = true) (hlog : (m.log.length + 1) * 56 ≤ 140737488355328) (sv : Int) :
    Calls Tryz.prog 52 #[.pointer (some ⟨wb, 0, none⟩), .int .i64 (i : Int), .int .i64 sv] w fun e w' => e = .returned (.tuple #[.bool (decide ((ca m.cells (s.att i).status).2 = 1)), .int .i64 0]) ∧ ∃ ρ', St w' ρ' u j wb mb s (m.swap (s.att i).status (1) (sv)) ∧ Ext (Sr u j) w w' ρ ρ' := by
  obtain ⟨vo, va, vl, vn, hw⟩ := h.wj
  obtain ⟨ga, hga, ra, la, _, _, _, d3, d4⟩ := hw.att hi
  have ha := attempt_ok hw hi hga
  have hq := aeq ga (i * 5)
  have f0 := hw.mem
  have rw_ := hw.role
  have d0 : ((i : Int) == 0) = false := by simp; omega
  have d1 : decide ((i : Int) = 0) = false := by simp; omega
  have d2 : (i == 0) = false := by simp; omega
  have hl : ∀ (W : World) (k : Keeps (fun _ => False) w W), _ := fun W k => sswap' (h.new k).1 (f.at_ i hi).1 hfr hlog (1) (sv)
  have hx : ∀ (W : World) (k : Keeps (fun _ => False) w W), _ := fun W k => (h.new k).2
  have nu0 : ¬ ρ wb = u := fun e => h.ap (by omega)
  have nu2 : ¬ ρ ga = u := fun e => h.ap (by omega)
  generalize s.att i = A at *
  generalize (ca m.cells A.status).2 = x at *
  clear h hw
  go_enter Tryz.func52, Tryz.ntmps52
  go_wp2_with (go_at_call 44; refine ha.mono ?_; rintro e w' ⟨rfl, rfl⟩)
  have KD : Keeps (fun _ => False) w w.drew := (Keeps.refl _ w).drew
  go_region_held3 (fun w' => w'.cell? ⟨wb, 0, none⟩ = some (.pointer (some ⟨mb, 0, none⟩)) ∧ w'.cell? ⟨ga, i * 5 + 3, none⟩ = some (.int .i64 (A.status : Int))) (go_keep) ((go_at_call 51; refine (hl _ KD).mono ?_; rintro e w3 ⟨rfl, ρ3, h3, x3, y3⟩; have q1 := y3.cell (p := ⟨wb, 0, none⟩) (KD.cell f0 (fun e => e)) nu0; have q2 := y3.cell (p := ⟨ga, i * 5 + 3, none⟩) (KD.cell d3 (fun e => e)) nu2))
  all_goals
    (try simp only [Exit.then])
    go_wp2_with fail
    go_ret2
    exact ⟨rfl, ρ3, h3, (hx _ KD).trans x3⟩
set_option maxHeartbeats 1600000 in
set_option maxRecDepth 1000000 in
theorem Kill_bad (h : St w ρ u j wb mb s m) {i : Int} (hi : i ≤ 0 ∨ (s.atts.length : Int) ≤ i) :
    Calls Tryz.prog 74 #[.pointer (some ⟨wb, 0, none⟩), .int .i64 i] w fun e w' => e = .returned (.tuple #[.bool false, .int .i64 51]) ∧ w = w' := by
  have he := end_bad h hi 3
  clear h
  go_enter Tryz.func74, Tryz.ntmps74
  go_wp2_with (go_at_call 52; refine he.mono ?_; clear he; rintro e w2 ⟨rfl, h2⟩)
  go_ret2
  exact ⟨rfl, h2⟩
set_option maxHeartbeats 1600000 in
set_option maxRecDepth 1000000 in
theorem Kill_closed (h : St w ρ u j wb mb s m) (f : Wf s m) {i : Nat} (h1 : 1 ≤ i) (hi : i < s.atts.length) (hfr : m.free = false) :
    Calls Tryz.prog 74 #[.pointer (some ⟨wb, 0, none⟩), .int .i64 (i : Int)] w fun e w' => e = .returned (.tuple #[.bool false, .int .i64 31]) ∧ Keeps (fun _ => False) w w' := by
  have he := end_closed h f h1 hi hfr 3
  clear h
  go_enter Tryz.func74, Tryz.ntmps74
  go_wp2_with (go_at_call 52; refine he.mono ?_; clear he; rintro e w2 ⟨rfl, h2⟩)
  go_ret2
  exact ⟨rfl, h2⟩
set_option maxHeartbeats 1600000 in
set_option maxRecDepth 1000000 in
theorem Kill_ok (h : St w ρ u j wb mb s m) (f : Wf s m) {i : Nat} (h1 : 1 ≤ i) (hi : i < s.atts.length) (hfr : m.free = true) (hlog : (m.log.length + 1) * 56 ≤ 140737488355328) :
    Calls Tryz.prog 74 #[.pointer (some ⟨wb, 0, none⟩), .int .i64 (i : Int)] w fun e w' => e = .returned (.tuple #[.bool (decide ((ca m.cells (s.att i).status).2 = 1)), .int .i64 0]) ∧ ∃ ρ', St w' ρ' u j wb mb s (m.swap (s.att i).status 1 3) ∧ Ext (Sr u j) w w' ρ ρ' := by
  have he := end_ok h f h1 hi hfr hlog 3
  generalize (ca m.cells (s.att i).status).2 = x at *
  clear h
  go_enter Tryz.func74, Tryz.ntmps74
  go_wp2_with (go_at_call 52; refine he.mono ?_; clear he; rintro e w2 ⟨rfl, h2⟩)
  go_ret2
  exact ⟨rfl, h2⟩
set_option maxHeartbeats 1600000 in
set_option maxRecDepth 1000000 in
theorem Commit_bad (h : St w ρ u j wb mb s m) {i : Int} (hi : i ≤ 0 ∨ (s.atts.length : Int) ≤ i) :
    Calls Tryz.prog 21 #[.pointer (some ⟨wb, 0, none⟩), .int .i64 i] w fun e w' => e = .returned (.tuple #[.bool false, .int .i64 51]) ∧ w = w' := by
  have he := end_bad h hi 2
  clear h
  go_enter Tryz.func21, Tryz.ntmps21
  go_wp2_with (go_at_call 52; refine he.mono ?_; clear he; rintro e w2 ⟨rfl, h2⟩)
  go_ret2
  exact ⟨rfl, h2⟩
set_option maxHeartbeats 1600000 in
set_option maxRecDepth 1000000 in
theorem Commit_closed (h : St w ρ u j wb mb s m) (f : Wf s m) {i : Nat} (h1 : 1 ≤ i) (hi : i < s.atts.length) (hfr : m.free = false) :
    Calls Tryz.prog 21 #[.pointer (some ⟨wb, 0, none⟩), .int .i64 (i : Int)] w fun e w' => e = .returned (.tuple #[.bool false, .int .i64 31]) ∧ Keeps (fun _ => False) w w' := by
  have he := end_closed h f h1 hi hfr 2
  clear h
  go_enter Tryz.func21, Tryz.ntmps21
  go_wp2_with (go_at_call 52; refine he.mono ?_; clear he; rintro e w2 ⟨rfl, h2⟩)
  go_ret2
  exact ⟨rfl, h2⟩
set_option maxHeartbeats 1600000 in
set_option maxRecDepth 1000000 in
theorem Commit_ok (h : St w ρ u j wb mb s m) (f : Wf s m) {i : Nat} (h1 : 1 ≤ i) (hi : i < s.atts.length) (hfr : m.free = true) (hlog : (m.log.length + 1) * 56 ≤ 140737488355328) :
    Calls Tryz.prog 21 #[.pointer (some ⟨wb, 0, none⟩), .int .i64 (i : Int)] w fun e w' => e = .returned (.tuple #[.bool (decide ((ca m.cells (s.att i).status).2 = 1)), .int .i64 0]) ∧ ∃ ρ', St w' ρ' u j wb mb s (m.swap (s.att i).status 1 2) ∧ Ext (Sr u j) w w' ρ ρ' := by
  have he := end_ok h f h1 hi hfr hlog 2
  generalize (ca m.cells (s.att i).status).2 = x at *
  clear h
  go_enter Tryz.func21, Tryz.ntmps21
  go_wp2_with (go_at_call 52; refine he.mono ?_; clear he; rintro e w2 ⟨rfl, h2⟩)
  go_ret2
  exact ⟨rfl, h2⟩
end
end Go.Proofs.YtaikngpgmcpecaaGreat
