import Derived.Test.YtaikngpgmcpecaaGreatRLA
import Derived.Test.YtaikngpgmcpecaaGreatRLM
namespace Go.Proofs.YtaikngpgmcpecaaGreat
open Go.RowKit
section
variable {w : World} {qb rb : Nat} {sv : Nat → Value} {σ : Nat → Nat} {B D : Nat → Prop} {s : Ws} {m : Mm}
set_option maxHeartbeats 1600000 in
set_option maxRecDepth 1000000 in
theorem ris_any (h : DW w qb rb sv σ B s m) (hg : m.fit) {i : Nat} (hi : i < s.atts.length) (hco : (s.att i).status < m.cells.length) (hl : m.log.length ≤ 4611686018427387903) : Calls Tryz.prog 97 #[.pointer (some ⟨qb, 0, none⟩), .int .i64 (i : Int)] w fun e w' => e = .returned (.int .i64 (m.val (s.att i).status)) ∧ Keeps (fun _ => False) w w' := by
  obtain ⟨a, cap, f1, hx⟩ := h.l2
  obtain ⟨g, rfl, ⟨nb, nq⟩, _, _, _, x0, _⟩ := hx i hi
  have f0 := h.f0
  have nb0 := h.ap qb (.inl rfl)
  have hiI : (i : Int) < (s.atts.length : Int) := by omega
  have hm := fun W (K : Keeps (fun _ => False) w W) => rpeek_any (h.ri.new K) hg.fine hco hl
  have HW := (show Hid (DW w qb rb sv σ B s m) from h)
  obtain ⟨nn, hnn⟩ : ∃ x, Hid (x = s.atts.length) := ⟨_, rfl⟩
  obtain ⟨cc, hcc⟩ : ∃ x, Hid (x = (s.att i).status) := ⟨_, rfl⟩
  rw [← hnn.out] at f1 hiI
  rw [← hcc.out] at x0 hm
  have hiN : i < nn := by rw [hnn.out]; exact hi
  clear h hx
  rw [← hcc.out]
  obtain ⟨vv, hvv⟩ : ∃ x, x = (ca m.cells cc).2 := ⟨_, rfl⟩
  rw [← hvv] at hm
  show Calls _ _ _ _ fun e w' => e = .returned (.int .i64 (ca m.cells cc).2) ∧ _
  rw [← hvv]
  clear hvv
  go_enter Tryz.func97, Tryz.ntmps97
  go_wp2_with fail
  go_region_held3 (fun w' => w'.cell? ⟨qb, 0, none⟩ = some (.pointer (some ⟨rb, 0, none⟩)) ∧ w'.cell? ⟨qb, 2, none⟩ = some (.slice (some ⟨g, 0, none⟩) nn cap) ∧ w'.cell? ⟨g, i * 5 + 3, none⟩ = some (.int .i64 (cc : Int))) (go_keep) ((go_at_call 104; (with_reducible refine (hm _ ((Keeps.refl _ w).drew)).mono ?_); rintro e w4 ⟨rfl, K4⟩; have q0 := K4.cell (p := ⟨qb, 0, none⟩) (v := .pointer (some ⟨rb, 0, none⟩)) (by simpa using f0) id; have q1 := K4.cell (p := ⟨qb, 2, none⟩) (v := .slice (some ⟨g, 0, none⟩) nn cap) (by simpa using f1) id; have q2 := K4.cell (p := ⟨g, i * 5 + 3, none⟩) (v := .int .i64 (cc : Int)) (by simpa using x0) id))
  go_wp2_with fail
  go_ret
  exact ⟨rfl, ((Keeps.refl _ w).drew).trans K4⟩
set_option maxHeartbeats 1600000 in
set_option maxRecDepth 1000000 in
theorem rLoad_ok (h : DW w qb rb sv σ B s m) (hg : m.fit) {i : Nat} (hi : i < s.objs.length) (hco : s.ob i < m.cells.length) (hf : m.free = true) (hl : (m.log.length + 1) * 56 ≤ 140737488355328) : Calls Tryz.prog 33 #[.pointer (some ⟨qb, 0, none⟩), .int .i64 (i : Int)] w fun e w' => e = .returned (.tuple #[.int .i64 (ca m.cells (s.ob i)).2, .int .i64 0]) ∧ ∃ B', DW w' qb rb sv σ B' s (m.load (s.ob i)) ∧ LeftP w w' B B' := by
  have hc := robj_any h (i : Int)
  rw [inn_ok hi] at hc
  obtain ⟨a, cap, f1, hx⟩ := h.l1
  obtain ⟨g, rfl, ⟨nb, nq⟩, x0⟩ := hx i hi
  have f0 := h.f0
  have nb0 := h.ap qb (.inl rfl)
  have hiI : (i : Int) < (s.objs.length : Int) := by omega
  have hm := fun W (K : Keeps (fun _ => False) w W) => rload_fit (h.ri.new K) hg hco hf hl
  have HW := (show Hid (DW w qb rb sv σ B s m) from h)
  obtain ⟨nn, hnn⟩ : ∃ x, Hid (x = s.objs.length) := ⟨_, rfl⟩
  obtain ⟨cc, hcc⟩ : ∃ x, Hid (x = s.ob i) := ⟨_, rfl⟩
  rw [← hnn.out] at f1 hiI
  rw [← hcc.out] at x0 hm
  have hiN : i < nn := by rw [hnn.out]; exact hi
  clear h hx
  rw [← hcc.out]
  obtain ⟨vv, hvv⟩ : ∃ x, Hid (x = (ca m.cells cc).2) := ⟨_, rfl⟩
  rw [← hvv.out] at hm ⊢
  go_enter Tryz.func33, Tryz.ntmps33
  go_wp2_with ((go_at_call 82; refine hc.mono ?_; clear hc; rintro e w' ⟨rfl, rfl⟩))
  go_region_held3 (fun w' => w'.cell? ⟨qb, 0, none⟩ = some (.pointer (some ⟨rb, 0, none⟩)) ∧ w'.cell? ⟨qb, 1, none⟩ = some (.slice (some ⟨g, 0, none⟩) nn cap) ∧ w'.cell? ⟨g, i, none⟩ = some (.int .i64 (cc : Int))) (go_keep) ((go_at_call 83; (with_reducible refine (hm _ ((Keeps.refl _ w).drew)).mono ?_); rintro e w4 ⟨rfl, B', R4, L4⟩; have q0 := L4.keeps.cell (p := ⟨qb, 0, none⟩) (v := .pointer (some ⟨rb, 0, none⟩)) (by simpa using f0) nb0; have q1 := L4.keeps.cell (p := ⟨qb, 1, none⟩) (v := .slice (some ⟨g, 0, none⟩) nn cap) (by simpa using f1) nb0; have q2 := L4.keeps.cell (p := ⟨g, i, none⟩) (v := .int .i64 (cc : Int)) (by simpa using x0) nb))
  go_wp2_with fail
  go_ret2
  exact ⟨rfl, B', (HW.out.new ((Keeps.refl _ w).drew)).mem R4 L4, (LeftP.new ((Keeps.refl _ w).drew)).trans L4⟩
set_option maxHeartbeats 1600000 in
set_option maxRecDepth 1000000 in
theorem rLoad_cl (h : DW w qb rb sv σ B s m) {i : Nat} (hi : i < s.objs.length) (hco : s.ob i < m.cells.length) (hf : m.free = false) : Calls Tryz.prog 33 #[.pointer (some ⟨qb, 0, none⟩), .int .i64 (i : Int)] w fun e w' => e = .returned (.tuple #[.int .i64 0, .int .i64 31]) ∧ Keeps (fun _ => False) w w' := by
  have hc := robj_any h (i : Int)
  rw [inn_ok hi] at hc
  obtain ⟨a, cap, f1, hx⟩ := h.l1
  obtain ⟨g, rfl, ⟨nb, nq⟩, x0⟩ := hx i hi
  have f0 := h.f0
  have nb0 := h.ap qb (.inl rfl)
  have hiI : (i : Int) < (s.objs.length : Int) := by omega
  have hm := fun W (K : Keeps (fun _ => False) w W) => rload_closed (h.ri.new K) (there_ok hco) hf
  have HW := (show Hid (DW w qb rb sv σ B s m) from h)
  obtain ⟨nn, hnn⟩ : ∃ x, Hid (x = s.objs.length) := ⟨_, rfl⟩
  obtain ⟨cc, hcc⟩ : ∃ x, Hid (x = s.ob i) := ⟨_, rfl⟩
  rw [← hnn.out] at f1 hiI
  rw [← hcc.out] at x0 hm
  have hiN : i < nn := by rw [hnn.out]; exact hi
  clear h hx
  go_enter Tryz.func33, Tryz.ntmps33
  go_wp2_with ((go_at_call 82; refine hc.mono ?_; clear hc; rintro e w' ⟨rfl, rfl⟩))
  go_region_held3 (fun w' => w'.cell? ⟨qb, 0, none⟩ = some (.pointer (some ⟨rb, 0, none⟩)) ∧ w'.cell? ⟨qb, 1, none⟩ = some (.slice (some ⟨g, 0, none⟩) nn cap) ∧ w'.cell? ⟨g, i, none⟩ = some (.int .i64 (cc : Int))) (go_keep) ((go_at_call 83; (with_reducible refine (hm _ ((Keeps.refl _ w).drew)).mono ?_); rintro e w4 ⟨rfl, K4⟩; have q0 := K4.cell (p := ⟨qb, 0, none⟩) (v := .pointer (some ⟨rb, 0, none⟩)) (by simpa using f0) id; have q1 := K4.cell (p := ⟨qb, 1, none⟩) (v := .slice (some ⟨g, 0, none⟩) nn cap) (by simpa using f1) id; have q2 := K4.cell (p := ⟨g, i, none⟩) (v := .int .i64 (cc : Int)) (by simpa using x0) id))
  go_wp2_with fail
  go_ret2
  exact ⟨rfl, ((Keeps.refl _ w).drew).trans K4⟩
set_option maxHeartbeats 1600000 in
set_option maxRecDepth 1000000 in
theorem rLoad_no (h : DW w qb rb sv σ B s m) {i : Int} (hi : inn 0 s.objs.length i = false) : Calls Tryz.prog 33 #[.pointer (some ⟨qb, 0, none⟩), .int .i64 i] w fun e w' => e = .returned (.tuple #[.int .i64 0, .int .i64 50]) ∧ Keeps (fun _ => False) w w' := by
  have hc := robj_any h i
  rw [hi] at hc
  clear h hi
  go_enter Tryz.func33, Tryz.ntmps33
  go_wp2_with ((go_at_call 82; refine hc.mono ?_; clear hc; rintro e w' ⟨rfl, rfl⟩))
  go_ret2
  exact ⟨rfl, Keeps.refl _ _⟩
set_option maxHeartbeats 1600000 in
set_option maxRecDepth 1000000 in
theorem rStatus_ok (h : DW w qb rb sv σ B s m) (hg : m.fit) {i : Nat} (hi : i < s.atts.length) (hco : (s.att i).status < m.cells.length) (hf : m.free = true) (hl : (m.log.length + 1) * 56 ≤ 140737488355328) : Calls Tryz.prog 35 #[.pointer (some ⟨qb, 0, none⟩), .int .i64 (i : Int)] w fun e w' => e = .returned (.tuple #[.int .i64 (ca m.cells (s.att i).status).2, .int .i64 0]) ∧ ∃ B', DW w' qb rb sv σ B' s (m.load ((s.att i).status)) ∧ LeftP w w' B B' := by
  have hc := ratt_any h (i : Int)
  rw [inn_ok hi] at hc
  obtain ⟨a, cap, f1, hx⟩ := h.l2
  obtain ⟨g, rfl, ⟨nb, nq⟩, _, _, _, x0, _⟩ := hx i hi
  have f0 := h.f0
  have nb0 := h.ap qb (.inl rfl)
  have hiI : (i : Int) < (s.atts.length : Int) := by omega
  have hm := fun W (K : Keeps (fun _ => False) w W) => rload_fit (h.ri.new K) hg hco hf hl
  have HW := (show Hid (DW w qb rb sv σ B s m) from h)
  obtain ⟨nn, hnn⟩ : ∃ x, Hid (x = s.atts.length) := ⟨_, rfl⟩
  obtain ⟨cc, hcc⟩ : ∃ x, Hid (x = (s.att i).status) := ⟨_, rfl⟩
  rw [← hnn.out] at f1 hiI
  rw [← hcc.out] at x0 hm
  have hiN : i < nn := by rw [hnn.out]; exact hi
  clear h hx
  rw [← hcc.out]
  obtain ⟨vv, hvv⟩ : ∃ x, Hid (x = (ca m.cells cc).2) := ⟨_, rfl⟩
  rw [← hvv.out] at hm ⊢
  go_enter Tryz.func35, Tryz.ntmps35
  go_wp2_with ((go_at_call 84; refine hc.mono ?_; clear hc; rintro e w' ⟨rfl, rfl⟩))
  go_region_held3 (fun w' => w'.cell? ⟨qb, 0, none⟩ = some (.pointer (some ⟨rb, 0, none⟩)) ∧ w'.cell? ⟨qb, 2, none⟩ = some (.slice (some ⟨g, 0, none⟩) nn cap) ∧ w'.cell? ⟨g, i * 5 + 3, none⟩ = some (.int .i64 (cc : Int))) (go_keep) ((go_at_call 83; (with_reducible refine (hm _ ((Keeps.refl _ w).drew)).mono ?_); rintro e w4 ⟨rfl, B', R4, L4⟩; have q0 := L4.keeps.cell (p := ⟨qb, 0, none⟩) (v := .pointer (some ⟨rb, 0, none⟩)) (by simpa using f0) nb0; have q1 := L4.keeps.cell (p := ⟨qb, 2, none⟩) (v := .slice (some ⟨g, 0, none⟩) nn cap) (by simpa using f1) nb0; have q2 := L4.keeps.cell (p := ⟨g, i * 5 + 3, none⟩) (v := .int .i64 (cc : Int)) (by simpa using x0) nb))
  go_wp2_with fail
  go_ret2
  exact ⟨rfl, B', (HW.out.new ((Keeps.refl _ w).drew)).mem R4 L4, (LeftP.new ((Keeps.refl _ w).drew)).trans L4⟩
set_option maxHeartbeats 1600000 in
set_option maxRecDepth 1000000 in
theorem rStatus_cl (h : DW w qb rb sv σ B s m) {i : Nat} (hi : i < s.atts.length) (hco : (s.att i).status < m.cells.length) (hf : m.free = false) : Calls Tryz.prog 35 #[.pointer (some ⟨qb, 0, none⟩), .int .i64 (i : Int)] w fun e w' => e = .returned (.tuple #[.int .i64 0, .int .i64 31]) ∧ Keeps (fun _ => False) w w' := by
  have hc := ratt_any h (i : Int)
  rw [inn_ok hi] at hc
  obtain ⟨a, cap, f1, hx⟩ := h.l2
  obtain ⟨g, rfl, ⟨nb, nq⟩, _, _, _, x0, _⟩ := hx i hi
  have f0 := h.f0
  have nb0 := h.ap qb (.inl rfl)
  have hiI : (i : Int) < (s.atts.length : Int) := by omega
  have hm := fun W (K : Keeps (fun _ => False) w W) => rload_closed (h.ri.new K) (there_ok hco) hf
  have HW := (show Hid (DW w qb rb sv σ B s m) from h)
  obtain ⟨nn, hnn⟩ : ∃ x, Hid (x = s.atts.length) := ⟨_, rfl⟩
  obtain ⟨cc, hcc⟩ : ∃ x, Hid (x = (s.att i).status) := ⟨_, rfl⟩
  rw [← hnn.out] at f1 hiI
  rw [← hcc.out] at x0 hm
  have hiN : i < nn := by rw [hnn.out]; exact hi
  clear h hx
  go_enter Tryz.func35, Tryz.ntmps35
  go_wp2_with ((go_at_call 84; refine hc.mono ?_; clear hc; rintro e w' ⟨rfl, rfl⟩))
  go_region_held3 (fun w' => w'.cell? ⟨qb, 0, none⟩ = some (.pointer (some ⟨rb, 0, none⟩)) ∧ w'.cell? ⟨qb, 2, none⟩ = some (.slice (some ⟨g, 0, none⟩) nn cap) ∧ w'.cell? ⟨g, i * 5 + 3, none⟩ = some (.int .i64 (cc : Int))) (go_keep) ((go_at_call 83; (with_reducible refine (hm _ ((Keeps.refl _ w).drew)).mono ?_); rintro e w4 ⟨rfl, K4⟩; have q0 := K4.cell (p := ⟨qb, 0, none⟩) (v := .pointer (some ⟨rb, 0, none⟩)) (by simpa using f0) id; have q1 := K4.cell (p := ⟨qb, 2, none⟩) (v := .slice (some ⟨g, 0, none⟩) nn cap) (by simpa using f1) id; have q2 := K4.cell (p := ⟨g, i * 5 + 3, none⟩) (v := .int .i64 (cc : Int)) (by simpa using x0) id))
  go_wp2_with fail
  go_ret2
  exact ⟨rfl, ((Keeps.refl _ w).drew).trans K4⟩
set_option maxHeartbeats 1600000 in
set_option maxRecDepth 1000000 in
theorem rStatus_no (h : DW w qb rb sv σ B s m) {i : Int} (hi : inn 0 s.atts.length i = false) : Calls Tryz.prog 35 #[.pointer (some ⟨qb, 0, none⟩), .int .i64 i] w fun e w' => e = .returned (.tuple #[.int .i64 0, .int .i64 51]) ∧ Keeps (fun _ => False) w w' := by
  have hc := ratt_any h i
  rw [hi] at hc
  clear h hi
  go_enter Tryz.func35, Tryz.ntmps35
  go_wp2_with ((go_at_call 84; refine hc.mono ?_; clear hc; rintro e w' ⟨rfl, rfl⟩))
  go_ret2
  exact ⟨rfl, Keeps.refl _ _⟩
set_option maxHeartbeats 1600000 in
set_option maxRecDepth 1000000 in
theorem rFlag_ok (h : DW w qb rb sv σ B s m) (hg : m.fit) {i : Nat} (hi : i < s.atts.length) (hco : (s.att i).flag < m.cells.length) (hf : m.free = true) (hl : (m.log.length + 1) * 56 ≤ 140737488355328) : Calls Tryz.prog 78 #[.pointer (some ⟨qb, 0, none⟩), .int .i64 (i : Int)] w fun e w' => e = .returned (.tuple #[.bool (decide ((ca m.cells (s.att i).flag).2 = 1)), .int .i64 0]) ∧ ∃ B', DW w' qb rb sv σ B' s (m.load ((s.att i).flag)) ∧ LeftP w w' B B' := by
  have hc := ratt_any h (i : Int)
  rw [inn_ok hi] at hc
  obtain ⟨a, cap, f1, hx⟩ := h.l2
  obtain ⟨g, rfl, ⟨nb, nq⟩, _, _, _, _, x0⟩ := hx i hi
  have f0 := h.f0
  have nb0 := h.ap qb (.inl rfl)
  have hiI : (i : Int) < (s.atts.length : Int) := by omega
  have hm := fun W (K : Keeps (fun _ => False) w W) => rload_fit (h.ri.new K) hg hco hf hl
  have HW := (show Hid (DW w qb rb sv σ B s m) from h)
  obtain ⟨nn, hnn⟩ : ∃ x, Hid (x = s.atts.length) := ⟨_, rfl⟩
  obtain ⟨cc, hcc⟩ : ∃ x, Hid (x = (s.att i).flag) := ⟨_, rfl⟩
  rw [← hnn.out] at f1 hiI
  rw [← hcc.out] at x0 hm
  have hiN : i < nn := by rw [hnn.out]; exact hi
  clear h hx
  rw [← hcc.out]
  obtain ⟨vv, hvv⟩ : ∃ x, Hid (x = (ca m.cells cc).2) := ⟨_, rfl⟩
  rw [← hvv.out] at hm ⊢
  have hE : ((vv == 1) = true ∧ decide (vv = 1) = true) ∨ ((vv == 1) = false ∧ decide (vv = 1) = false) := by by_cases e : vv = 1 <;> simp [e]
  rcases hE with ⟨E1, E2⟩ | ⟨E1, E2⟩
  all_goals
    rw [E2]
    go_enter Tryz.func78, Tryz.ntmps78
    go_wp2_with ((go_at_call 84; refine hc.mono ?_; clear hc; rintro e w' ⟨rfl, rfl⟩))
    go_region_held3 (fun w' => w'.cell? ⟨qb, 0, none⟩ = some (.pointer (some ⟨rb, 0, none⟩)) ∧ w'.cell? ⟨qb, 2, none⟩ = some (.slice (some ⟨g, 0, none⟩) nn cap) ∧ w'.cell? ⟨g, i * 5 + 4, none⟩ = some (.int .i64 (cc : Int))) (go_keep) ((go_at_call 83; (with_reducible refine (hm _ ((Keeps.refl _ w).drew)).mono ?_); rintro e w4 ⟨rfl, B', R4, L4⟩; have q0 := L4.keeps.cell (p := ⟨qb, 0, none⟩) (v := .pointer (some ⟨rb, 0, none⟩)) (by simpa using f0) nb0; have q1 := L4.keeps.cell (p := ⟨qb, 2, none⟩) (v := .slice (some ⟨g, 0, none⟩) nn cap) (by simpa using f1) nb0; have q2 := L4.keeps.cell (p := ⟨g, i * 5 + 4, none⟩) (v := .int .i64 (cc : Int)) (by simpa using x0) nb))
    go_wp2_with fail
    go_ret2
    exact ⟨rfl, B', (HW.out.new ((Keeps.refl _ w).drew)).mem R4 L4, (LeftP.new ((Keeps.refl _ w).drew)).trans L4⟩
set_option maxHeartbeats 1600000 in
set_option maxRecDepth 1000000 in
theorem rFlag_cl (h : DW w qb rb sv σ B s m) {i : Nat} (hi : i < s.atts.length) (hco : (s.att i).flag < m.cells.length) (hf : m.free = false) : Calls Tryz.prog 78 #[.pointer (some ⟨qb, 0, none⟩), .int .i64 (i : Int)] w fun e w' => e = .returned (.tuple #[.bool false, .int .i64 31]) ∧ Keeps (fun _ => False) w w' := by
  have hc := ratt_any h (i : Int)
  rw [inn_ok hi] at hc
  obtain ⟨a, cap, f1, hx⟩ := h.l2
  obtain ⟨g, rfl, ⟨nb, nq⟩, _, _, _, _, x0⟩ := hx i hi
  have f0 := h.f0
  have nb0 := h.ap qb (.inl rfl)
  have hiI : (i : Int) < (s.atts.length : Int) := by omega
  have hm := fun W (K : Keeps (fun _ => False) w W) => rload_closed (h.ri.new K) (there_ok hco) hf
  have HW := (show Hid (DW w qb rb sv σ B s m) from h)
  obtain ⟨nn, hnn⟩ : ∃ x, Hid (x = s.atts.length) := ⟨_, rfl⟩
  obtain ⟨cc, hcc⟩ : ∃ x, Hid (x = (s.att i).flag) := ⟨_, rfl⟩
  rw [← hnn.out] at f1 hiI
  rw [← hcc.out] at x0 hm
  have hiN : i < nn := by rw [hnn.out]; exact hi
  clear h hx
  go_enter Tryz.func78, Tryz.ntmps78
  go_wp2_with ((go_at_call 84; refine hc.mono ?_; clear hc; rintro e w' ⟨rfl, rfl⟩))
  go_region_held3 (fun w' => w'.cell? ⟨qb, 0, none⟩ = some (.pointer (some ⟨rb, 0, none⟩)) ∧ w'.cell? ⟨qb, 2, none⟩ = some (.slice (some ⟨g, 0, none⟩) nn cap) ∧ w'.cell? ⟨g, i * 5 + 4, none⟩ = some (.int .i64 (cc : Int))) (go_keep) ((go_at_call 83; (with_reducible refine (hm _ ((Keeps.refl _ w).drew)).mono ?_); rintro e w4 ⟨rfl, K4⟩; have q0 := K4.cell (p := ⟨qb, 0, none⟩) (v := .pointer (some ⟨rb, 0, none⟩)) (by simpa using f0) id; have q1 := K4.cell (p := ⟨qb, 2, none⟩) (v := .slice (some ⟨g, 0, none⟩) nn cap) (by simpa using f1) id; have q2 := K4.cell (p := ⟨g, i * 5 + 4, none⟩) (v := .int .i64 (cc : Int)) (by simpa using x0) id))
  go_wp2_with fail
  go_ret2
  exact ⟨rfl, ((Keeps.refl _ w).drew).trans K4⟩
set_option maxHeartbeats 1600000 in
set_option maxRecDepth 1000000 in
theorem rFlag_no (h : DW w qb rb sv σ B s m) {i : Int} (hi : inn 0 s.atts.length i = false) : Calls Tryz.prog 78 #[.pointer (some ⟨qb, 0, none⟩), .int .i64 i] w fun e w' => e = .returned (.tuple #[.bool false, .int .i64 51]) ∧ Keeps (fun _ => False) w w' := by
  have hc := ratt_any h i
  rw [hi] at hc
  clear h hi
  go_enter Tryz.func78, Tryz.ntmps78
  go_wp2_with ((go_at_call 84; refine hc.mono ?_; clear hc; rintro e w' ⟨rfl, rfl⟩))
  go_ret2
  exact ⟨rfl, Keeps.refl _ _⟩
set_option maxHeartbeats 1600000 in
set_option maxRecDepth 1000000 in
theorem rturn_ok (h : DW w qb rb sv σ B s m) (hg : m.fit) {i : Nat} (h1 : 1 ≤ i) (hi : i < s.atts.length) (hco : (s.att i).status < m.cells.length) (hf : m.free = true) (hl : (m.log.length + 1) * 56 ≤ 140737488355328) (to_ : Int) : Calls Tryz.prog 99 #[.pointer (some ⟨qb, 0, none⟩), .int .i64 (i : Int), .int .i64 to_] w fun e w' => e = .returned (.tuple #[.bool (decide ((ca m.cells ((s.att i).status)).2 = 1)), .int .i64 0]) ∧ ∃ B', DW w' qb rb sv σ B' s (m.swap ((s.att i).status) 1 to_) ∧ LeftP w w' B B' := by
  have hc := rmade_any h (i : Int)
  rw [inn_ok1 h1 hi] at hc
  obtain ⟨a, cap, f1, hx⟩ := h.l2
  obtain ⟨g, rfl, ⟨nb, nq⟩, _, _, _, x0, _⟩ := hx i hi
  have f0 := h.f0
  have nb0 := h.ap qb (.inl rfl)
  have hiI : (i : Int) < (s.atts.length : Int) := by omega
  have hm := fun W (K : Keeps (fun _ => False) w W) => rswap_fit (h.ri.new K) hg hco hf hl 1 to_
  have HW := (show Hid (DW w qb rb sv σ B s m) from h)
  obtain ⟨nn, hnn⟩ : ∃ x, Hid (x = s.atts.length) := ⟨_, rfl⟩
  obtain ⟨cc, hcc⟩ : ∃ x, Hid (x = (s.att i).status) := ⟨_, rfl⟩
  rw [← hnn.out] at f1 hiI
  rw [← hcc.out] at x0 hm
  have hiN : i < nn := by rw [hnn.out]; exact hi
  clear h hx
  rw [← hcc.out]
  obtain ⟨vv, hvv⟩ : ∃ x, Hid (x = decide ((ca m.cells cc).2 = 1)) := ⟨_, rfl⟩
  rw [← hvv.out] at hm ⊢
  go_enter Tryz.func99, Tryz.ntmps99
  go_wp2_with ((go_at_call 96; refine hc.mono ?_; clear hc; rintro e w' ⟨rfl, rfl⟩))
  go_region_held3 (fun w' => w'.cell? ⟨qb, 0, none⟩ = some (.pointer (some ⟨rb, 0, none⟩)) ∧ w'.cell? ⟨qb, 2, none⟩ = some (.slice (some ⟨g, 0, none⟩) nn cap) ∧ w'.cell? ⟨g, i * 5 + 3, none⟩ = some (.int .i64 (cc : Int))) (go_keep) ((go_at_call 98; (with_reducible refine (hm _ ((Keeps.refl _ w).drew)).mono ?_); rintro e w4 ⟨rfl, B', R4, L4⟩; have q0 := L4.keeps.cell (p := ⟨qb, 0, none⟩) (v := .pointer (some ⟨rb, 0, none⟩)) (by simpa using f0) nb0; have q1 := L4.keeps.cell (p := ⟨qb, 2, none⟩) (v := .slice (some ⟨g, 0, none⟩) nn cap) (by simpa using f1) nb0; have q2 := L4.keeps.cell (p := ⟨g, i * 5 + 3, none⟩) (v := .int .i64 (cc : Int)) (by simpa using x0) nb))
  go_wp2_with fail
  go_ret2
  exact ⟨rfl, B', (HW.out.new ((Keeps.refl _ w).drew)).mem R4 L4, (LeftP.new ((Keeps.refl _ w).drew)).trans L4⟩
set_option maxHeartbeats 1600000 in
set_option maxRecDepth 1000000 in
theorem rturn_cl (h : DW w qb rb sv σ B s m) {i : Nat} (h1 : 1 ≤ i) (hi : i < s.atts.length) (hco : (s.att i).status < m.cells.length) (hf : m.free = false) (to_ : Int) : Calls Tryz.prog 99 #[.pointer (some ⟨qb, 0, none⟩), .int .i64 (i : Int), .int .i64 to_] w fun e w' => e = .returned (.tuple #[.bool false, .int .i64 31]) ∧ Keeps (fun _ => False) w w' := by
  have hc := rmade_any h (i : Int)
  rw [inn_ok1 h1 hi] at hc
  obtain ⟨a, cap, f1, hx⟩ := h.l2
  obtain ⟨g, rfl, ⟨nb, nq⟩, _, _, _, x0, _⟩ := hx i hi
  have f0 := h.f0
  have nb0 := h.ap qb (.inl rfl)
  have hiI : (i : Int) < (s.atts.length : Int) := by omega
  have hm := fun W (K : Keeps (fun _ => False) w W) => rswap_closed (h.ri.new K) (there_ok hco) hf 1 to_
  have HW := (show Hid (DW w qb rb sv σ B s m) from h)
  obtain ⟨nn, hnn⟩ : ∃ x, Hid (x = s.atts.length) := ⟨_, rfl⟩
  obtain ⟨cc, hcc⟩ : ∃ x, Hid (x = (s.att i).status) := ⟨_, rfl⟩
  rw [← hnn.out] at f1 hiI
  rw [← hcc.out] at x0 hm
  have hiN : i < nn := by rw [hnn.out]; exact hi
  clear h hx
  go_enter Tryz.func99, Tryz.ntmps99
  go_wp2_with ((go_at_call 96; refine hc.mono ?_; clear hc; rintro e w' ⟨rfl, rfl⟩))
  go_region_held3 (fun w' => w'.cell? ⟨qb, 0, none⟩ = some (.pointer (some ⟨rb, 0, none⟩)) ∧ w'.cell? ⟨qb, 2, none⟩ = some (.slice (some ⟨g, 0, none⟩) nn cap) ∧ w'.cell? ⟨g, i * 5 + 3, none⟩ = some (.int .i64 (cc : Int))) (go_keep) ((go_at_call 98; (with_reducible refine (hm _ ((Keeps.refl _ w).drew)).mono ?_); rintro e w4 ⟨rfl, K4⟩; have q0 := K4.cell (p := ⟨qb, 0, none⟩) (v := .pointer (some ⟨rb, 0, none⟩)) (by simpa using f0) id; have q1 := K4.cell (p := ⟨qb, 2, none⟩) (v := .slice (some ⟨g, 0, none⟩) nn cap) (by simpa using f1) id; have q2 := K4.cell (p := ⟨g, i * 5 + 3, none⟩) (v := .int .i64 (cc : Int)) (by simpa using x0) id))
  go_wp2_with fail
  go_ret2
  exact ⟨rfl, ((Keeps.refl _ w).drew).trans K4⟩
set_option maxHeartbeats 1600000 in
set_option maxRecDepth 1000000 in
theorem rturn_no (h : DW w qb rb sv σ B s m) {i : Int} (hi : inn 1 s.atts.length i = false) (to_ : Int) : Calls Tryz.prog 99 #[.pointer (some ⟨qb, 0, none⟩), .int .i64 i, .int .i64 to_] w fun e w' => e = .returned (.tuple #[.bool false, .int .i64 51]) ∧ Keeps (fun _ => False) w w' := by
  have hc := rmade_any h i
  rw [hi] at hc
  clear h hi
  go_enter Tryz.func99, Tryz.ntmps99
  go_wp2_with ((go_at_call 96; refine hc.mono ?_; clear hc; rintro e w' ⟨rfl, rfl⟩))
  go_ret2
  exact ⟨rfl, Keeps.refl _ _⟩
set_option maxHeartbeats 1600000 in
set_option maxRecDepth 1000000 in
theorem rMarkT_ok (h : DW w qb rb sv σ B s m) (hg : m.fit) {i : Nat} (h1 : 1 ≤ i) (hi : i < s.atts.length) (hco : (s.att i).flag < m.cells.length) (hf : m.free = true) (hl : (m.log.length + 1) * 56 ≤ 140737488355328) : Calls Tryz.prog 80 #[.pointer (some ⟨qb, 0, none⟩), .int .i64 (i : Int), .bool true] w fun e w' => e = .returned (.tuple #[.bool (decide ((ca m.cells ((s.att i).flag)).2 = 0)), .int .i64 0]) ∧ ∃ B', DW w' qb rb sv σ B' s (m.swap ((s.att i).flag) 0 1) ∧ LeftP w w' B B' := by
  have hc := rmade_any h (i : Int)
  rw [inn_ok1 h1 hi] at hc
  obtain ⟨a, cap, f1, hx⟩ := h.l2
  obtain ⟨g, rfl, ⟨nb, nq⟩, _, _, _, _, x0⟩ := hx i hi
  have f0 := h.f0
  have nb0 := h.ap qb (.inl rfl)
  have hiI : (i : Int) < (s.atts.length : Int) := by omega
  have hm := fun W (K : Keeps (fun _ => False) w W) => rswap_fit (h.ri.new K) hg hco hf hl 0 1
  have HW := (show Hid (DW w qb rb sv σ B s m) from h)
  obtain ⟨nn, hnn⟩ : ∃ x, Hid (x = s.atts.length) := ⟨_, rfl⟩
  obtain ⟨cc, hcc⟩ : ∃ x, Hid (x = (s.att i).flag) := ⟨_, rfl⟩
  rw [← hnn.out] at f1 hiI
  rw [← hcc.out] at x0 hm
  have hiN : i < nn := by rw [hnn.out]; exact hi
  clear h hx
  rw [← hcc.out]
  obtain ⟨vv, hvv⟩ : ∃ x, Hid (x = decide ((ca m.cells cc).2 = 0)) := ⟨_, rfl⟩
  rw [← hvv.out] at hm ⊢
  go_enter Tryz.func80, Tryz.ntmps80
  go_wp2_with ((go_at_call 96; refine hc.mono ?_; clear hc; rintro e w' ⟨rfl, rfl⟩))
  go_region_held3 (fun w' => w'.cell? ⟨qb, 0, none⟩ = some (.pointer (some ⟨rb, 0, none⟩)) ∧ w'.cell? ⟨qb, 2, none⟩ = some (.slice (some ⟨g, 0, none⟩) nn cap) ∧ w'.cell? ⟨g, i * 5 + 4, none⟩ = some (.int .i64 (cc : Int))) (go_keep) ((go_at_call 98; (with_reducible refine (hm _ ((Keeps.refl _ w).drew)).mono ?_); rintro e w4 ⟨rfl, B', R4, L4⟩; have q0 := L4.keeps.cell (p := ⟨qb, 0, none⟩) (v := .pointer (some ⟨rb, 0, none⟩)) (by simpa using f0) nb0; have q1 := L4.keeps.cell (p := ⟨qb, 2, none⟩) (v := .slice (some ⟨g, 0, none⟩) nn cap) (by simpa using f1) nb0; have q2 := L4.keeps.cell (p := ⟨g, i * 5 + 4, none⟩) (v := .int .i64 (cc : Int)) (by simpa using x0) nb))
  go_wp2_with fail
  go_ret2
  exact ⟨rfl, B', (HW.out.new ((Keeps.refl _ w).drew)).mem R4 L4, (LeftP.new ((Keeps.refl _ w).drew)).trans L4⟩
set_option maxHeartbeats 1600000 in
set_option maxRecDepth 1000000 in
theorem rMarkT_cl (h : DW w qb rb sv σ B s m) {i : Nat} (h1 : 1 ≤ i) (hi : i < s.atts.length) (hco : (s.att i).flag < m.cells.length) (hf : m.free = false) : Calls Tryz.prog 80 #[.pointer (some ⟨qb, 0, none⟩), .int .i64 (i : Int), .bool true] w fun e w' => e = .returned (.tuple #[.bool false, .int .i64 31]) ∧ Keeps (fun _ => False) w w' := by
  have hc := rmade_any h (i : Int)
  rw [inn_ok1 h1 hi] at hc
  obtain ⟨a, cap, f1, hx⟩ := h.l2
  obtain ⟨g, rfl, ⟨nb, nq⟩, _, _, _, _, x0⟩ := hx i hi
  have f0 := h.f0
  have nb0 := h.ap qb (.inl rfl)
  have hiI : (i : Int) < (s.atts.length : Int) := by omega
  have hm := fun W (K : Keeps (fun _ => False) w W) => rswap_closed (h.ri.new K) (there_ok hco) hf 0 1
  have HW := (show Hid (DW w qb rb sv σ B s m) from h)
  obtain ⟨nn, hnn⟩ : ∃ x, Hid (x = s.atts.length) := ⟨_, rfl⟩
  obtain ⟨cc, hcc⟩ : ∃ x, Hid (x = (s.att i).flag) := ⟨_, rfl⟩
  rw [← hnn.out] at f1 hiI
  rw [← hcc.out] at x0 hm
  have hiN : i < nn := by rw [hnn.out]; exact hi
  clear h hx
  go_enter Tryz.func80, Tryz.ntmps80
  go_wp2_with ((go_at_call 96; refine hc.mono ?_; clear hc; rintro e w' ⟨rfl, rfl⟩))
  go_region_held3 (fun w' => w'.cell? ⟨qb, 0, none⟩ = some (.pointer (some ⟨rb, 0, none⟩)) ∧ w'.cell? ⟨qb, 2, none⟩ = some (.slice (some ⟨g, 0, none⟩) nn cap) ∧ w'.cell? ⟨g, i * 5 + 4, none⟩ = some (.int .i64 (cc : Int))) (go_keep) ((go_at_call 98; (with_reducible refine (hm _ ((Keeps.refl _ w).drew)).mono ?_); rintro e w4 ⟨rfl, K4⟩; have q0 := K4.cell (p := ⟨qb, 0, none⟩) (v := .pointer (some ⟨rb, 0, none⟩)) (by simpa using f0) id; have q1 := K4.cell (p := ⟨qb, 2, none⟩) (v := .slice (some ⟨g, 0, none⟩) nn cap) (by simpa using f1) id; have q2 := K4.cell (p := ⟨g, i * 5 + 4, none⟩) (v := .int .i64 (cc : Int)) (by simpa using x0) id))
  go_wp2_with fail
  go_ret2
  exact ⟨rfl, ((Keeps.refl _ w).drew).trans K4⟩
set_option maxHeartbeats 1600000 in
set_option maxRecDepth 1000000 in
theorem rMarkT_no (h : DW w qb rb sv σ B s m) {i : Int} (hi : inn 1 s.atts.length i = false) : Calls Tryz.prog 80 #[.pointer (some ⟨qb, 0, none⟩), .int .i64 i, .bool true] w fun e w' => e = .returned (.tuple #[.bool false, .int .i64 51]) ∧ Keeps (fun _ => False) w w' := by
  have hc := rmade_any h i
  rw [hi] at hc
  clear h hi
  go_enter Tryz.func80, Tryz.ntmps80
  go_wp2_with ((go_at_call 96; refine hc.mono ?_; clear hc; rintro e w' ⟨rfl, rfl⟩))
  go_ret2
  exact ⟨rfl, Keeps.refl _ _⟩
set_option maxHeartbeats 1600000 in
set_option maxRecDepth 1000000 in
theorem rMarkF_ok (h : DW w qb rb sv σ B s m) (hg : m.fit) {i : Nat} (h1 : 1 ≤ i) (hi : i < s.atts.length) (hco : (s.att i).flag < m.cells.length) (hf : m.free = true) (hl : (m.log.length + 1) * 56 ≤ 140737488355328) : Calls Tryz.prog 80 #[.pointer (some ⟨qb, 0, none⟩), .int .i64 (i : Int), .bool false] w fun e w' => e = .returned (.tuple #[.bool (decide ((ca m.cells ((s.att i).flag)).2 = 1)), .int .i64 0]) ∧ ∃ B', DW w' qb rb sv σ B' s (m.swap ((s.att i).flag) 1 0) ∧ LeftP w w' B B' := by
  have hc := rmade_any h (i : Int)
  rw [inn_ok1 h1 hi] at hc
  obtain ⟨a, cap, f1, hx⟩ := h.l2
  obtain ⟨g, rfl, ⟨nb, nq⟩, _, _, _, _, x0⟩ := hx i hi
  have f0 := h.f0
  have nb0 := h.ap qb (.inl rfl)
  have hiI : (i : Int) < (s.atts.length : Int) := by omega
  have hm := fun W (K : Keeps (fun _ => False) w W) => rswap_fit (h.ri.new K) hg hco hf hl 1 0
  have HW := (show Hid (DW w qb rb sv σ B s m) from h)
  obtain ⟨nn, hnn⟩ : ∃ x, Hid (x = s.atts.length) := ⟨_, rfl⟩
  obtain ⟨cc, hcc⟩ : ∃ x, Hid (x = (s.att i).flag) := ⟨_, rfl⟩
  rw [← hnn.out] at f1 hiI
  rw [← hcc.out] at x0 hm
  have hiN : i < nn := by rw [hnn.out]; exact hi
  clear h hx
  rw [← hcc.out]
  obtain ⟨vv, hvv⟩ : ∃ x, Hid (x = decide ((ca m.cells cc).2 = 1)) := ⟨_, rfl⟩
  rw [← hvv.out] at hm ⊢
  go_enter Tryz.func80, Tryz.ntmps80
  go_wp2_with ((go_at_call 96; refine hc.mono ?_; clear hc; rintro e w' ⟨rfl, rfl⟩))
  go_region_held3 (fun w' => w'.cell? ⟨qb, 0, none⟩ = some (.pointer (some ⟨rb, 0, none⟩)) ∧ w'.cell? ⟨qb, 2, none⟩ = some (.slice (some ⟨g, 0, none⟩) nn cap) ∧ w'.cell? ⟨g, i * 5 + 4, none⟩ = some (.int .i64 (cc : Int))) (go_keep) ((go_at_call 98; (with_reducible refine (hm _ ((Keeps.refl _ w).drew)).mono ?_); rintro e w4 ⟨rfl, B', R4, L4⟩; have q0 := L4.keeps.cell (p := ⟨qb, 0, none⟩) (v := .pointer (some ⟨rb, 0, none⟩)) (by simpa using f0) nb0; have q1 := L4.keeps.cell (p := ⟨qb, 2, none⟩) (v := .slice (some ⟨g, 0, none⟩) nn cap) (by simpa using f1) nb0; have q2 := L4.keeps.cell (p := ⟨g, i * 5 + 4, none⟩) (v := .int .i64 (cc : Int)) (by simpa using x0) nb))
  go_wp2_with fail
  go_ret2
  exact ⟨rfl, B', (HW.out.new ((Keeps.refl _ w).drew)).mem R4 L4, (LeftP.new ((Keeps.refl _ w).drew)).trans L4⟩
set_option maxHeartbeats 1600000 in
set_option maxRecDepth 1000000 in
theorem rMarkF_cl (h : DW w qb rb sv σ B s m) {i : Nat} (h1 : 1 ≤ i) (hi : i < s.atts.length) (hco : (s.att i).flag < m.cells.length) (hf : m.free = false) : Calls Tryz.prog 80 #[.pointer (some ⟨qb, 0, none⟩), .int .i64 (i : Int), .bool false] w fun e w' => e = .returned (.tuple #[.bool false, .int .i64 31]) ∧ Keeps (fun _ => False) w w' := by
  have hc := rmade_any h (i : Int)
  rw [inn_ok1 h1 hi] at hc
  obtain ⟨a, cap, f1, hx⟩ := h.l2
  obtain ⟨g, rfl, ⟨nb, nq⟩, _, _, _, _, x0⟩ := hx i hi
  have f0 := h.f0
  have nb0 := h.ap qb (.inl rfl)
  have hiI : (i : Int) < (s.atts.length : Int) := by omega
  have hm := fun W (K : Keeps (fun _ => False) w W) => rswap_closed (h.ri.new K) (there_ok hco) hf 1 0
  have HW := (show Hid (DW w qb rb sv σ B s m) from h)
  obtain ⟨nn, hnn⟩ : ∃ x, Hid (x = s.atts.length) := ⟨_, rfl⟩
  obtain ⟨cc, hcc⟩ : ∃ x, Hid (x = (s.att i).flag) := ⟨_, rfl⟩
  rw [← hnn.out] at f1 hiI
  rw [← hcc.out] at x0 hm
  have hiN : i < nn := by rw [hnn.out]; exact hi
  clear h hx
  go_enter Tryz.func80, Tryz.ntmps80
  go_wp2_with ((go_at_call 96; refine hc.mono ?_; clear hc; rintro e w' ⟨rfl, rfl⟩))
  go_region_held3 (fun w' => w'.cell? ⟨qb, 0, none⟩ = some (.pointer (some ⟨rb, 0, none⟩)) ∧ w'.cell? ⟨qb, 2, none⟩ = some (.slice (some ⟨g, 0, none⟩) nn cap) ∧ w'.cell? ⟨g, i * 5 + 4, none⟩ = some (.int .i64 (cc : Int))) (go_keep) ((go_at_call 98; (with_reducible refine (hm _ ((Keeps.refl _ w).drew)).mono ?_); rintro e w4 ⟨rfl, K4⟩; have q0 := K4.cell (p := ⟨qb, 0, none⟩) (v := .pointer (some ⟨rb, 0, none⟩)) (by simpa using f0) id; have q1 := K4.cell (p := ⟨qb, 2, none⟩) (v := .slice (some ⟨g, 0, none⟩) nn cap) (by simpa using f1) id; have q2 := K4.cell (p := ⟨g, i * 5 + 4, none⟩) (v := .int .i64 (cc : Int)) (by simpa using x0) id))
  go_wp2_with fail
  go_ret2
  exact ⟨rfl, ((Keeps.refl _ w).drew).trans K4⟩
set_option maxHeartbeats 1600000 in
set_option maxRecDepth 1000000 in
theorem rMarkF_no (h : DW w qb rb sv σ B s m) {i : Int} (hi : inn 1 s.atts.length i = false) : Calls Tryz.prog 80 #[.pointer (some ⟨qb, 0, none⟩), .int .i64 i, .bool false] w fun e w' => e = .returned (.tuple #[.bool false, .int .i64 51]) ∧ Keeps (fun _ => False) w w' := by
  have hc := rmade_any h i
  rw [hi] at hc
  clear h hi
  go_enter Tryz.func80, Tryz.ntmps80
  go_wp2_with ((go_at_call 96; refine hc.mono ?_; clear hc; rintro e w' ⟨rfl, rfl⟩))
  go_ret2
  exact ⟨rfl, Keeps.refl _ _⟩
set_option maxHeartbeats 1600000 in
set_option maxRecDepth 1000000 in
theorem rKill_ok (h : DW w qb rb sv σ B s m) (hg : m.fit) {i : Nat} (h1 : 1 ≤ i) (hi : i < s.atts.length) (hco : (s.att i).status < m.cells.length) (hf : m.free = true) (hl : (m.log.length + 1) * 56 ≤ 140737488355328) : Calls Tryz.prog 75 #[.pointer (some ⟨qb, 0, none⟩), .int .i64 (i : Int)] w fun e w' => e = .returned (.tuple #[.bool (decide ((ca m.cells ((s.att i).status)).2 = 1)), .int .i64 0]) ∧ ∃ B', DW w' qb rb sv σ B' s (m.swap ((s.att i).status) 1 3) ∧ LeftP w w' B B' := by
  have hm := rturn_ok h hg h1 hi hco hf hl 3
  obtain ⟨vv, hvv⟩ : ∃ x, Hid (x = decide ((ca m.cells ((s.att i).status)).2 = 1)) := ⟨_, rfl⟩
  rw [← hvv.out] at hm ⊢
  clear h
  go_enter Tryz.func75, Tryz.ntmps75
  go_wp2_with ((go_at_call 99; refine hm.mono ?_; clear hm; rintro e w4 ⟨rfl, B', R4, L4⟩))
  go_ret2
  exact ⟨rfl, B', R4, L4⟩
set_option maxHeartbeats 1600000 in
set_option maxRecDepth 1000000 in
theorem rKill_cl (h : DW w qb rb sv σ B s m) {i : Nat} (h1 : 1 ≤ i) (hi : i < s.atts.length) (hco : (s.att i).status < m.cells.length) (hf : m.free = false) : Calls Tryz.prog 75 #[.pointer (some ⟨qb, 0, none⟩), .int .i64 (i : Int)] w fun e w' => e = .returned (.tuple #[.bool false, .int .i64 31]) ∧ Keeps (fun _ => False) w w' := by
  have hm := rturn_cl h h1 hi hco hf 3
  clear h
  go_enter Tryz.func75, Tryz.ntmps75
  go_wp2_with ((go_at_call 99; refine hm.mono ?_; clear hm; rintro e w4 ⟨rfl, K4⟩))
  go_ret2
  exact ⟨rfl, K4⟩
set_option maxHeartbeats 1600000 in
set_option maxRecDepth 1000000 in
theorem rKill_no (h : DW w qb rb sv σ B s m) {i : Int} (hi : inn 1 s.atts.length i = false) : Calls Tryz.prog 75 #[.pointer (some ⟨qb, 0, none⟩), .int .i64 i] w fun e w' => e = .returned (.tuple #[.bool false, .int .i64 51]) ∧ Keeps (fun _ => False) w w' := by
  have hm := rturn_no h hi 3
  clear h
  go_enter Tryz.func75, Tryz.ntmps75
  go_wp2_with ((go_at_call 99; refine hm.mono ?_; clear hm; rintro e w4 ⟨rfl, K4⟩))
  go_ret2
  exact ⟨rfl, K4⟩
set_option maxHeartbeats 1600000 in
set_option maxRecDepth 1000000 in
theorem rCommit_ok (h : DW w qb rb sv σ B s m) (hg : m.fit) {i : Nat} (h1 : 1 ≤ i) (hi : i < s.atts.length) (hco : (s.att i).status < m.cells.length) (hf : m.free = true) (hl : (m.log.length + 1) * 56 ≤ 140737488355328) : Calls Tryz.prog 76 #[.pointer (some ⟨qb, 0, none⟩), .int .i64 (i : Int)] w fun e w' => e = .returned (.tuple #[.bool (decide ((ca m.cells ((s.att i).status)).2 = 1)), .int .i64 0]) ∧ ∃ B', DW w' qb rb sv σ B' s (m.swap ((s.att i).status) 1 2) ∧ LeftP w w' B B' := by
  have hm := rturn_ok h hg h1 hi hco hf hl 2
  obtain ⟨vv, hvv⟩ : ∃ x, Hid (x = decide ((ca m.cells ((s.att i).status)).2 = 1)) := ⟨_, rfl⟩
  rw [← hvv.out] at hm ⊢
  clear h
  go_enter Tryz.func76, Tryz.ntmps76
  go_wp2_with ((go_at_call 99; refine hm.mono ?_; clear hm; rintro e w4 ⟨rfl, B', R4, L4⟩))
  go_ret2
  exact ⟨rfl, B', R4, L4⟩
set_option maxHeartbeats 1600000 in
set_option maxRecDepth 1000000 in
theorem rCommit_cl (h : DW w qb rb sv σ B s m) {i : Nat} (h1 : 1 ≤ i) (hi : i < s.atts.length) (hco : (s.att i).status < m.cells.length) (hf : m.free = false) : Calls Tryz.prog 76 #[.pointer (some ⟨qb, 0, none⟩), .int .i64 (i : Int)] w fun e w' => e = .returned (.tuple #[.bool false, .int .i64 31]) ∧ Keeps (fun _ => False) w w' := by
  have hm := rturn_cl h h1 hi hco hf 2
  clear h
  go_enter Tryz.func76, Tryz.ntmps76
  go_wp2_with ((go_at_call 99; refine hm.mono ?_; clear hm; rintro e w4 ⟨rfl, K4⟩))
  go_ret2
  exact ⟨rfl, K4⟩
set_option maxHeartbeats 1600000 in
set_option maxRecDepth 1000000 in
theorem rCommit_no (h : DW w qb rb sv σ B s m) {i : Int} (hi : inn 1 s.atts.length i = false) : Calls Tryz.prog 76 #[.pointer (some ⟨qb, 0, none⟩), .int .i64 i] w fun e w' => e = .returned (.tuple #[.bool false, .int .i64 51]) ∧ Keeps (fun _ => False) w w' := by
  have hm := rturn_no h hi 2
  clear h
  go_enter Tryz.func76, Tryz.ntmps76
  go_wp2_with ((go_at_call 99; refine hm.mono ?_; clear hm; rintro e w4 ⟨rfl, K4⟩))
  go_ret2
  exact ⟨rfl, K4⟩
end
end Go.Proofs.YtaikngpgmcpecaaGreat
