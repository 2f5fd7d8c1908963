import Derived.Test.YtaikngpgmcpecaaGreatRLSt
namespace Go.Proofs.YtaikngpgmcpecaaGreat
open Go.RowKit
/-- A number within a list. -/
def inn (lo : Int) (n : Nat) (i : Int) : Bool := decide (lo ≤ i) && decide (i < (n : Int))
theorem inn_ok {n i : Nat} (h : i < n) : inn 0 n (i : Int) = true := by simp [inn]; omega
theorem inn_ok1 {n i : Nat} (h1 : 1 ≤ i) (h : i < n) : inn 1 n (i : Int) = true := by simp [inn]; omega
theorem inn_nat {n : Nat} {i : Int} (h : inn 0 n i = true) : ∃ k : Nat, i = (k : Int) ∧ k < n := by
  simp [inn] at h
  exact ⟨i.toNat, by omega, by omega⟩
section
variable {w : World} {qb rb : Nat} {sv : Nat → Value} {σ : Nat → Nat} {B D : Nat → Prop} {s : Ws} {m : Mm}
theorem DW.fld (h : DW w qb rb sv σ B s m) {o : Nat} (o1 : 1 ≤ o) (o2 : o ≤ 5) : ∃ a cap, sv o = .slice a (dsw s o).n cap ∧ w.cell? ⟨qb, o, none⟩ = some (.slice a (dsw s o).n cap) ∧ ∀ j u, (dsw s o).xs[j]? = some u → 0 < (dsw s o).n → ∃ g, a = some ⟨g, 0, none⟩ ∧ w.cell? ⟨g, j, none⟩ = some u ∧ w.frozen? ⟨g, j, none⟩ = false ∧ ¬ B g ∧ g ≠ qb := by
  obtain ⟨a, cap, e, hg⟩ := owns_slice (h.ds.ow o o1 o2)
  refine ⟨a, cap, e, by rw [← e]; exact h.ds.fs o o1 o2, fun j u hu hn => ?_⟩
  obtain ⟨g, ea, eb⟩ := hg hn
  refine ⟨g, ea, owns_cell (h.ds.ow o o1 o2) eb hu, ?_, h.ap g (.inr ⟨o, o1, o2, eb⟩), fun e' => ?_⟩
  · have own := h.ds.ow o o1 o2
    rw [e, ea] at own
    exact own.frozenAt j
  · have := h.ds.ps o g o1 o2 eb
    rw [e', h.ds.pq] at this
    omega
/-- The objects' cells. -/
theorem DW.l1 (h : DW w qb rb sv σ B s m) : ∃ a cap, w.cell? ⟨qb, 1, none⟩ = some (.slice a s.objs.length cap) ∧ ∀ i, i < s.objs.length → ∃ g, a = some ⟨g, 0, none⟩ ∧ (¬ B g ∧ g ≠ qb) ∧ w.cell? ⟨g, i, none⟩ = some (.int .i64 (s.ob i : Int)) := by
  obtain ⟨a, cap, _, hc, hx⟩ := h.fld (o := 1) (by omega) (by omega)
  refine ⟨a, cap, hc, fun i hi => ?_⟩
  obtain ⟨g, e1, e2, _, nb⟩ := hx (i * 1 + 0) (.int .i64 (s.ob i : Int)) (by show (fl oc s.objs)[i * 1 + 0]? = _; rw [fl_get oc_len s.objs i 0 (by omega), getD_get (d := 0) hi]; rfl) (Nat.lt_of_le_of_lt (Nat.zero_le _) hi)
  exact ⟨g, e1, nb, by simpa using e2⟩
/-- The attempts. -/
theorem DW.l2 (h : DW w qb rb sv σ B s m) : ∃ a cap, w.cell? ⟨qb, 2, none⟩ = some (.slice a s.atts.length cap) ∧ ∀ i, i < s.atts.length → ∃ g, a = some ⟨g, 0, none⟩ ∧ (¬ B g ∧ g ≠ qb) ∧ w.cell? ⟨g, i * 5, none⟩ = some (.int .i64 (s.att i).thread) ∧ w.cell? ⟨g, i * 5 + 1, none⟩ = some (.int .i64 (s.att i).stamp) ∧ w.cell? ⟨g, i * 5 + 2, none⟩ = some (.int .i64 (s.att i).prio) ∧ w.cell? ⟨g, i * 5 + 3, none⟩ = some (.int .i64 ((s.att i).status : Int)) ∧ w.cell? ⟨g, i * 5 + 4, none⟩ = some (.int .i64 ((s.att i).flag : Int)) := by
  obtain ⟨a, cap, _, hc, hx⟩ := h.fld (o := 2) (by omega) (by omega)
  refine ⟨a, cap, hc, fun i hi => ?_⟩
  have hg : ∀ j, j < 5 → (dsw s 2).xs[i * 5 + j]? = (ac (s.att i))[j]? := fun j hj => by
    show (fl ac s.atts)[i * 5 + j]? = _
    rw [fl_get ac_len s.atts i j hj, getD_get (d := at0) hi]; rfl
  have hn : 0 < (dsw s 2).n := Nat.lt_of_le_of_lt (Nat.zero_le _) hi
  obtain ⟨g, e1, e2, _, nb⟩ := hx (i * 5) _ (hg 0 (by omega)) hn
  obtain ⟨g1, f1, e3, _⟩ := hx (i * 5 + 1) _ (hg 1 (by omega)) hn
  obtain ⟨g2, f2, e4, _⟩ := hx (i * 5 + 2) _ (hg 2 (by omega)) hn
  obtain ⟨g3, f3, e5, _⟩ := hx (i * 5 + 3) _ (hg 3 (by omega)) hn
  obtain ⟨g4, f4, e6, _⟩ := hx (i * 5 + 4) _ (hg 4 (by omega)) hn
  rw [e1] at f1 f2 f3 f4
  cases f1
  cases f2
  cases f3
  cases f4
  exact ⟨g, e1, nb, e2, e3, e4, e5, e6⟩
/-- The locators. -/
theorem DW.l3 (h : DW w qb rb sv σ B s m) : ∃ a cap, w.cell? ⟨qb, 3, none⟩ = some (.slice a s.locs.length cap) ∧ ∀ i, i < s.locs.length → ∃ g, a = some ⟨g, 0, none⟩ ∧ (¬ B g ∧ g ≠ qb) ∧ w.cell? ⟨g, i * 3, none⟩ = some (.int .i64 ((s.lo i).owner : Int)) ∧ w.cell? ⟨g, i * 3 + 1, none⟩ = some (.int .i64 ((s.lo i).old : Int)) ∧ w.cell? ⟨g, i * 3 + 2, none⟩ = some (.int .i64 ((s.lo i).new : Int)) := by
  obtain ⟨a, cap, _, hc, hx⟩ := h.fld (o := 3) (by omega) (by omega)
  refine ⟨a, cap, hc, fun i hi => ?_⟩
  have hg : ∀ j, j < 3 → (dsw s 3).xs[i * 3 + j]? = (Go.Proofs.YtaikngpgmcpecaaGreat.l3 (s.lo i))[j]? := fun j hj => by
    show (fl Go.Proofs.YtaikngpgmcpecaaGreat.l3 s.locs)[i * 3 + j]? = _
    rw [fl_get l3_len s.locs i j hj, getD_get (d := lo0) hi]; rfl
  have hn : 0 < (dsw s 3).n := Nat.lt_of_le_of_lt (Nat.zero_le _) hi
  obtain ⟨g, e1, e2, _, nb⟩ := hx (i * 3) _ (hg 0 (by omega)) hn
  obtain ⟨g1, f1, e3, _⟩ := hx (i * 3 + 1) _ (hg 1 (by omega)) hn
  obtain ⟨g2, f2, e4, _⟩ := hx (i * 3 + 2) _ (hg 2 (by omega)) hn
  rw [e1] at f1 f2
  cases f1
  cases f2
  exact ⟨g, e1, nb, e2, e3, e4⟩
/-- Which have been used. -/
theorem DW.l4 (h : DW w qb rb sv σ B s m) : ∃ a cap, w.cell? ⟨qb, 4, none⟩ = some (.slice a s.locs.length cap) ∧ ∀ i, i < s.locs.length → ∃ g, a = some ⟨g, 0, none⟩ ∧ (¬ B g ∧ g ≠ qb) ∧ w.cell? ⟨g, i, none⟩ = some (.bool (s.lo i).used) ∧ w.frozen? ⟨g, i, none⟩ = false := by
  obtain ⟨a, cap, _, hc, hx⟩ := h.fld (o := 4) (by omega) (by omega)
  refine ⟨a, cap, hc, fun i hi => ?_⟩
  obtain ⟨g, e1, e2, e3, nb⟩ := hx (i * 1 + 0) (.bool (s.lo i).used) (by show (fl lu s.locs)[i * 1 + 0]? = _; rw [fl_get lu_len s.locs i 0 (by omega), getD_get (d := lo0) hi]; rfl) (Nat.lt_of_le_of_lt (Nat.zero_le _) hi)
  exact ⟨g, e1, nb, by simpa using e2, by simpa using e3⟩
/-- The values. -/
theorem DW.l5 (h : DW w qb rb sv σ B s m) : ∃ a cap, w.cell? ⟨qb, 5, none⟩ = some (.slice a s.vals.length cap) ∧ ∀ i, i < s.vals.length → ∃ g, a = some ⟨g, 0, none⟩ ∧ (¬ B g ∧ g ≠ qb) ∧ w.cell? ⟨g, i * 3, none⟩ = some (.int .i64 (s.vl i).num) ∧ w.cell? ⟨g, i * 3 + 1, none⟩ = some (.int .i64 (s.vl i).next) ∧ w.cell? ⟨g, i * 3 + 2, none⟩ = some (.bool (s.vl i).dead) ∧ (∀ o, o < 3 → w.frozen? ⟨g, i * 3 + o, none⟩ = false) := by
  obtain ⟨a, cap, _, hc, hx⟩ := h.fld (o := 5) (by omega) (by omega)
  refine ⟨a, cap, hc, fun i hi => ?_⟩
  have hg : ∀ j, j < 3 → (dsw s 5).xs[i * 3 + j]? = (vc3 (s.vl i))[j]? := fun j hj => by
    show (fl vc3 s.vals)[i * 3 + j]? = _
    rw [fl_get vc3_len s.vals i j hj, getD_get (d := vl0) hi]; rfl
  have hn : 0 < (dsw s 5).n := Nat.lt_of_le_of_lt (Nat.zero_le _) hi
  obtain ⟨g, e1, e2, z0, nb⟩ := hx (i * 3) _ (hg 0 (by omega)) hn
  obtain ⟨g1, f1, e3, z1, _⟩ := hx (i * 3 + 1) _ (hg 1 (by omega)) hn
  obtain ⟨g2, f2, e4, z2, _⟩ := hx (i * 3 + 2) _ (hg 2 (by omega)) hn
  rw [e1] at f1 f2
  cases f1
  cases f2
  refine ⟨g, e1, nb, e2, e3, e4, fun o ho => ?_⟩
  match o, ho with
  | 0, _ => exact z0
  | 1, _ => exact z1
  | 2, _ => exact z2
set_option maxHeartbeats 1600000 in
set_option maxRecDepth 1000000 in
theorem robj_any (h : DW w qb rb sv σ B s m) (i : Int) : Calls Tryz.prog 82 #[.pointer (some ⟨qb, 0, none⟩), .int .i64 i] w fun e w' => e = .returned (.bool (inn 0 s.objs.length i)) ∧ w = w' := by
  obtain ⟨a, cap, f0, _⟩ := h.l1
  generalize s.objs.length = nn at *
  clear h
  by_cases h0 : 0 ≤ i
  · have h0' : decide (0 ≤ i) = true := by simp [h0]
    have e : inn 0 nn i = decide (i < (nn : Int)) := by simp [inn, h0]
    rw [e]
    clear e h0
    go_enter Tryz.func82, Tryz.ntmps82
    go_wp2_with fail
    go_ret
    exact ⟨rfl, rfl⟩
  · have h0' : decide (0 ≤ i) = false := by simp [h0]
    have e : inn 0 nn i = false := by simp [inn]; omega
    rw [e]
    go_enter Tryz.func82, Tryz.ntmps82
    go_wp2_with fail
    go_ret
    exact ⟨rfl, rfl⟩
set_option maxHeartbeats 1600000 in
set_option maxRecDepth 1000000 in
theorem ratt_any (h : DW w qb rb sv σ B s m) (i : Int) : Calls Tryz.prog 84 #[.pointer (some ⟨qb, 0, none⟩), .int .i64 i] w fun e w' => e = .returned (.bool (inn 0 s.atts.length i)) ∧ w = w' := by
  obtain ⟨a, cap, f0, _⟩ := h.l2
  generalize s.atts.length = nn at *
  clear h
  by_cases h0 : 0 ≤ i
  · have h0' : decide (0 ≤ i) = true := by simp [h0]
    have e : inn 0 nn i = decide (i < (nn : Int)) := by simp [inn, h0]
    rw [e]
    clear e h0
    go_enter Tryz.func84, Tryz.ntmps84
    go_wp2_with fail
    go_ret
    exact ⟨rfl, rfl⟩
  · have h0' : decide (0 ≤ i) = false := by simp [h0]
    have e : inn 0 nn i = false := by simp [inn]; omega
    rw [e]
    go_enter Tryz.func84, Tryz.ntmps84
    go_wp2_with fail
    go_ret
    exact ⟨rfl, rfl⟩
set_option maxHeartbeats 1600000 in
set_option maxRecDepth 1000000 in
theorem rmade_any (h : DW w qb rb sv σ B s m) (i : Int) : Calls Tryz.prog 96 #[.pointer (some ⟨qb, 0, none⟩), .int .i64 i] w fun e w' => e = .returned (.bool (inn 1 s.atts.length i)) ∧ w = w' := by
  obtain ⟨a, cap, f0, _⟩ := h.l2
  generalize s.atts.length = nn at *
  clear h
  by_cases h0 : 1 ≤ i
  · have h0' : decide (1 ≤ i) = true := by simp [h0]
    have e : inn 1 nn i = decide (i < (nn : Int)) := by simp [inn, h0]
    rw [e]
    clear e h0
    go_enter Tryz.func96, Tryz.ntmps96
    go_wp2_with fail
    go_ret
    exact ⟨rfl, rfl⟩
  · have h0' : decide (1 ≤ i) = false := by simp [h0]
    have e : inn 1 nn i = false := by simp [inn]; omega
    rw [e]
    go_enter Tryz.func96, Tryz.ntmps96
    go_wp2_with fail
    go_ret
    exact ⟨rfl, rfl⟩
set_option maxHeartbeats 1600000 in
set_option maxRecDepth 1000000 in
theorem rloc_any (h : DW w qb rb sv σ B s m) (i : Int) : Calls Tryz.prog 94 #[.pointer (some ⟨qb, 0, none⟩), .int .i64 i] w fun e w' => e = .returned (.bool (inn 0 s.locs.length i)) ∧ w = w' := by
  obtain ⟨a, cap, f0, _⟩ := h.l3
  generalize s.locs.length = nn at *
  clear h
  by_cases h0 : 0 ≤ i
  · have h0' : decide (0 ≤ i) = true := by simp [h0]
    have e : inn 0 nn i = decide (i < (nn : Int)) := by simp [inn, h0]
    rw [e]
    clear e h0
    go_enter Tryz.func94, Tryz.ntmps94
    go_wp2_with fail
    go_ret
    exact ⟨rfl, rfl⟩
  · have h0' : decide (0 ≤ i) = false := by simp [h0]
    have e : inn 0 nn i = false := by simp [inn]; omega
    rw [e]
    go_enter Tryz.func94, Tryz.ntmps94
    go_wp2_with fail
    go_ret
    exact ⟨rfl, rfl⟩
set_option maxHeartbeats 1600000 in
set_option maxRecDepth 1000000 in
theorem robjcell_ok (h : DW w qb rb sv σ B s m) {i : Nat} (hi : i < s.objs.length) : Calls Tryz.prog 62 #[.pointer (some ⟨qb, 0, none⟩), .int .i64 (i : Int)] w fun e w' => e = .returned (.tuple #[.int .i64 (s.ob i : Int), .int .i64 0]) ∧ Keeps (fun _ => False) w w' := by
  have hc := robj_any h (i : Int)
  rw [inn_ok hi] at hc
  obtain ⟨a, cap, f0, hx⟩ := h.l1
  obtain ⟨g, rfl, _, x0⟩ := hx i hi
  have hiI : (i : Int) < (s.objs.length : Int) := by omega
  generalize hnn : s.objs.length = nn at *
  clear hnn
  clear h hx
  go_enter Tryz.func62, Tryz.ntmps62
  go_wp2_with ((go_at_call 82; refine hc.mono ?_; clear hc; rintro e w' ⟨rfl, rfl⟩))
  go_ret2
  exact ⟨rfl, Keeps.refl _ _⟩
set_option maxHeartbeats 1600000 in
set_option maxRecDepth 1000000 in
theorem robjcell_no (h : DW w qb rb sv σ B s m) {i : Int} (hi : inn 0 s.objs.length i = false) : Calls Tryz.prog 62 #[.pointer (some ⟨qb, 0, none⟩), .int .i64 i] w fun e w' => e = .returned (.tuple #[.int .i64 0, .int .i64 50]) ∧ Keeps (fun _ => False) w w' := by
  have hc := robj_any h i
  rw [hi] at hc
  clear h hi
  go_enter Tryz.func62, Tryz.ntmps62
  go_wp2_with ((go_at_call 82; refine hc.mono ?_; clear hc; rintro e w' ⟨rfl, rfl⟩))
  go_ret2
  exact ⟨rfl, Keeps.refl _ _⟩
set_option maxHeartbeats 1600000 in
set_option maxRecDepth 1000000 in
theorem rstcell_ok (h : DW w qb rb sv σ B s m) {i : Nat} (hi : i < s.atts.length) : Calls Tryz.prog 64 #[.pointer (some ⟨qb, 0, none⟩), .int .i64 (i : Int)] w fun e w' => e = .returned (.tuple #[.int .i64 ((s.att i).status : Int), .int .i64 0]) ∧ Keeps (fun _ => False) w w' := by
  have hc := ratt_any h (i : Int)
  rw [inn_ok hi] at hc
  obtain ⟨a, cap, f0, hx⟩ := h.l2
  obtain ⟨g, rfl, _, _, _, _, x3, _⟩ := hx i hi
  have hiI : (i : Int) < (s.atts.length : Int) := by omega
  generalize hnn : s.atts.length = nn at *
  clear hnn
  clear h hx
  go_enter Tryz.func64, Tryz.ntmps64
  go_wp2_with ((go_at_call 84; refine hc.mono ?_; clear hc; rintro e w' ⟨rfl, rfl⟩))
  go_ret2
  exact ⟨rfl, Keeps.refl _ _⟩
set_option maxHeartbeats 1600000 in
set_option maxRecDepth 1000000 in
theorem rstcell_no (h : DW w qb rb sv σ B s m) {i : Int} (hi : inn 0 s.atts.length i = false) : Calls Tryz.prog 64 #[.pointer (some ⟨qb, 0, none⟩), .int .i64 i] w fun e w' => e = .returned (.tuple #[.int .i64 0, .int .i64 51]) ∧ Keeps (fun _ => False) w w' := by
  have hc := ratt_any h i
  rw [hi] at hc
  clear h hi
  go_enter Tryz.func64, Tryz.ntmps64
  go_wp2_with ((go_at_call 84; refine hc.mono ?_; clear hc; rintro e w' ⟨rfl, rfl⟩))
  go_ret2
  exact ⟨rfl, Keeps.refl _ _⟩
set_option maxHeartbeats 1600000 in
set_option maxRecDepth 1000000 in
theorem rflcell_ok (h : DW w qb rb sv σ B s m) {i : Nat} (hi : i < s.atts.length) : Calls Tryz.prog 66 #[.pointer (some ⟨qb, 0, none⟩), .int .i64 (i : Int)] w fun e w' => e = .returned (.tuple #[.int .i64 ((s.att i).flag : Int), .int .i64 0]) ∧ Keeps (fun _ => False) w w' := by
  have hc := ratt_any h (i : Int)
  rw [inn_ok hi] at hc
  obtain ⟨a, cap, f0, hx⟩ := h.l2
  obtain ⟨g, rfl, _, _, _, _, _, x4⟩ := hx i hi
  have hiI : (i : Int) < (s.atts.length : Int) := by omega
  generalize hnn : s.atts.length = nn at *
  clear hnn
  clear h hx
  go_enter Tryz.func66, Tryz.ntmps66
  go_wp2_with ((go_at_call 84; refine hc.mono ?_; clear hc; rintro e w' ⟨rfl, rfl⟩))
  go_ret2
  exact ⟨rfl, Keeps.refl _ _⟩
set_option maxHeartbeats 1600000 in
set_option maxRecDepth 1000000 in
theorem rflcell_no (h : DW w qb rb sv σ B s m) {i : Int} (hi : inn 0 s.atts.length i = false) : Calls Tryz.prog 66 #[.pointer (some ⟨qb, 0, none⟩), .int .i64 i] w fun e w' => e = .returned (.tuple #[.int .i64 0, .int .i64 51]) ∧ Keeps (fun _ => False) w w' := by
  have hc := ratt_any h i
  rw [hi] at hc
  clear h hi
  go_enter Tryz.func66, Tryz.ntmps66
  go_wp2_with ((go_at_call 84; refine hc.mono ?_; clear hc; rintro e w' ⟨rfl, rfl⟩))
  go_ret2
  exact ⟨rfl, Keeps.refl _ _⟩
end
end Go.Proofs.YtaikngpgmcpecaaGreat
