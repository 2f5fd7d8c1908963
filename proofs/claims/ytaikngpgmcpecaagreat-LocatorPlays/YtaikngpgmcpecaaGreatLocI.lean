import Derived.Test.YtaikngpgmcpecaaGreatLocH
namespace Go.Proofs.YtaikngpgmcpecaaGreat
open Go.RowKit
def Mm.swap (m : Mm) (c : Nat) (old next : Int) : Mm := m.take 2 c (if (ca m.cells c).2 = old then next else (ca m.cells c).2) (decide ((ca m.cells c).2 = old))
def Mm.load (m : Mm) (c : Nat) : Mm := m.take 1 c (ca m.cells c).2 true
def Ws.put (s : Ws) (i : Nat) (v : Vl) : Ws := { s with vals := s.vals.set i v }
def Ws.use (s : Ws) (i : Nat) (b : Bool) : Ws := { s with locs := s.locs.set i { s.lo i with used := b } }
section
variable {w w' : World} {ρ ρ' : Nat → Nat} {u j wb mb : Nat} {s s' : Ws} {m m' : Mm} {vo va vl vn : Value}
theorem sswap' (h : St w ρ u j wb mb s m) {c : Nat} (hc : c < m.cells.length) (hfr : m.free = true) (hlog : (m.log.length + 1) * 56 ≤ 140737488355328) (old next : Int) :
    Calls Tryz.prog 51 #[.pointer (some ⟨mb, 0, none⟩), .int .i64 (c : Int), .int .i64 old, .int .i64 next] w fun e w' =>
      e = .returned (.tuple #[.bool (decide ((ca m.cells c).2 = old)), .int .i64 0]) ∧ ∃ ρ', St w' ρ' u j wb mb s (m.swap c old next) ∧ Ext (Sr u j) w w' ρ ρ' ∧ Ext (fun r => r = u) w w' ρ ρ' := by
  obtain ⟨F, hm1, hF⟩ := h.mj
  refine (swap_ok hm1 hc hfr hlog old next).mono ?_
  rintro e w' ⟨rfl, F', h', l⟩
  obtain ⟨ρ', k⟩ := MJ.next hF h' l
  exact ⟨rfl, ρ', (h.mem k).1, (h.mem k).2, k.2.1⟩
theorem sload' (h : St w ρ u j wb mb s m) {c : Nat} (hc : c < m.cells.length) (hfr : m.free = true) (hlog : (m.log.length + 1) * 56 ≤ 140737488355328) :
    Calls Tryz.prog 81 #[.pointer (some ⟨mb, 0, none⟩), .int .i64 (c : Int)] w fun e w' =>
      e = .returned (.tuple #[.int .i64 (ca m.cells c).2, .int .i64 0]) ∧ ∃ ρ', St w' ρ' u j wb mb s (m.load c) ∧ Ext (Sr u j) w w' ρ ρ' := sload h hc hfr hlog
theorem sswapC (h : St w ρ u j wb mb s m) {c : Nat} (hc : c < m.cells.length) (hfr : m.free = false) (old next : Int) :
    Calls Tryz.prog 51 #[.pointer (some ⟨mb, 0, none⟩), .int .i64 (c : Int), .int .i64 old, .int .i64 next] w fun e w' => e = .returned (.tuple #[.bool false, .int .i64 31]) ∧ Keeps (fun _ => False) w w' := by
  obtain ⟨F, hm1, hF⟩ := h.mj
  exact swap_closed hm1 (there_ok hc) hfr old next
theorem sloadC (h : St w ρ u j wb mb s m) {c : Nat} (hc : c < m.cells.length) (hfr : m.free = false) :
    Calls Tryz.prog 81 #[.pointer (some ⟨mb, 0, none⟩), .int .i64 (c : Int)] w fun e w' => e = .returned (.tuple #[.int .i64 0, .int .i64 31]) ∧ Keeps (fun _ => False) w w' := by
  obtain ⟨F, hm1, hF⟩ := h.mj
  exact load_closed hm1 (there_ok hc) hfr

/-- A block of the world is written: the others stand. -/
theorem PJ.far {k g r e z n : Nat} {v : Value} {xs : List Value} (h : PJ w ρ ⟨wb, k, none⟩ r e z v n xs) (K : Keeps (fun i => i = g) w w') (hg : ρ g ≠ r) (hb : wb ≠ g) : PJ w' ρ ⟨wb, k, none⟩ r e z v n xs :=
  ⟨K.cell h.at_ hb, K.owns h.row (fun x hx e => hg (by rw [← e]; exact h.role x hx)), h.role⟩
theorem ext_own {g : Nat} (hb : Bnd w ρ) (K : Keeps (fun i => i = g) w w') (hg : j ≤ ρ g ∧ ρ g < j + 5) : Ext (fun r => j ≤ r ∧ r < j + 5) w w' ρ ρ :=
  ⟨K.mono (fun i _ e => by subst e; exact hg), fun _ _ => rfl, fun i hi => .inr (hb i hi)⟩
theorem St.setV (h : St w ρ u j wb mb s m) (hw : WV w ρ j wb mb s vo va vl vn) {g i : Nat} (hg : vn.ownBlock = some g) (hi : i < s.vals.length) (v : Vl) :
    St (set3 w g (i * 3) v) ρ u j wb mb (s.put i v) m ∧ Ext (Sr u j) w (set3 w g (i * 3) v) ρ ρ := by
  have K := set3_keeps w g (i * 3) v
  have rg := hw.pv.role g hg
  have nb : wb ≠ g := fun e => by have := hw.role; rw [e, rg] at this; omega
  refine h.own ⟨vo, va, vl, vn, hw.role, K.cell hw.mem nb, fun o ho => (K.frozen (p := ⟨wb, o, none⟩) hw.lt nb).trans (hw.z o ho), hw.po.far K (by omega) nb, hw.pa.far K (by omega) nb, hw.pl.far K (by omega) nb, K.cell hw.pv.at_ nb, ?_, hw.pv.role⟩ (ext_own h.bnd K (by omega)) (fun i hi => h.bnd i (Nat.le_trans K.size hi))
  have row := hw.pv.row
  obtain ⟨a, cap, rfl, hs⟩ := hw.pv.slice
  obtain ⟨g', e1, e2, _⟩ := hs (by omega)
  rw [hg] at e2
  cases e2
  subst e1
  have := stv row hi v
  simpa [Ws.put] using this
theorem St.setU (h : St w ρ u j wb mb s m) (hw : WV w ρ j wb mb s vo va vl vn) {g i : Nat} (hg : vl.ownBlock = some g) (hi : i < s.locs.length) (b : Bool) :
    St (w.setCell ⟨g, i * 4 + 3, none⟩ (.bool b)) ρ u j wb mb (s.use i b) m ∧ Ext (Sr u j) w (w.setCell ⟨g, i * 4 + 3, none⟩ (.bool b)) ρ ρ := by
  have K := keeps_set w g (i * 4 + 3) (.bool b)
  have rg := hw.pl.role g hg
  have nb : wb ≠ g := fun e => by have := hw.role; rw [e, rg] at this; omega
  refine h.own ⟨vo, va, vl, vn, hw.role, K.cell hw.mem nb, fun o ho => (K.frozen (p := ⟨wb, o, none⟩) hw.lt nb).trans (hw.z o ho), hw.po.far K (by omega) nb, hw.pa.far K (by omega) nb, ⟨K.cell hw.pl.at_ nb, ?_, hw.pl.role⟩, hw.pv.far K (by omega) nb⟩ (ext_own h.bnd K (by omega)) (fun i hi => h.bnd i (Nat.le_trans K.size hi))
  have row := hw.pl.row
  obtain ⟨a, cap, rfl, hs⟩ := hw.pl.slice
  obtain ⟨g', e1, e2, _⟩ := hs (by omega)
  rw [hg] at e2
  cases e2
  subst e1
  have h1 := (row.stored (i * 4 + 3) (.bool b)).1
  have e1 := fl_set lc_len s.locs i 3 (s.lo i) { s.lo i with used := b } (.bool b) (getD_get (d := lo0) hi) (by omega) rfl
  rw [← e1] at h1
  simpa [Ws.use] using h1

set_option maxHeartbeats 1600000 in
set_option maxRecDepth 1000000 in
theorem Put_loc (h : St w ρ u j wb mb s m) {i : Int} (hi : i < 0 ∨ (s.locs.length : Int) ≤ i) (v : Vl) :
    Calls Tryz.prog 18 #[.pointer (some ⟨wb, 0, none⟩), .int .i64 i, .agg #[.int .i64 v.num, .int .i64 v.next, .bool v.dead]] w fun e w' => e = .returned (.int .i64 52) ∧ Keeps (fun _ => False) w w' := by
  obtain ⟨w0, hw0⟩ : ∃ w0, w0 = w.alloc (.cells #[.int .i64 v.num, .int .i64 v.next, .bool v.dead] 37) := ⟨_, rfl⟩
  have K0 : Keeps (fun _ => False) w w0 := by rw [hw0]; exact (Keeps.refl _ w).alloc _
  obtain ⟨vo, va, vl, vn, hw⟩ := (h.new K0).1.wj
  have hl := locator_no hw hi
  have hq := leq0
  clear h hw
  go_enter Tryz.func18, Tryz.ntmps18
  go_wp2_with fail
  rw [← hw0]
  clear hw0
  refine hl.mono ?_
  clear hl
  rintro e w' ⟨rfl, rfl⟩
  go_wp2_with fail
  go_ret
  exact ⟨rfl, K0⟩
set_option maxHeartbeats 1600000 in
set_option maxRecDepth 1000000 in
theorem Put_own (h : St w ρ u j wb mb s m) {i : Nat} (hi : i < s.locs.length) (ho : (s.lo i).owner = 0) (v : Vl) :
    Calls Tryz.prog 18 #[.pointer (some ⟨wb, 0, none⟩), .int .i64 (i : Int), .agg #[.int .i64 v.num, .int .i64 v.next, .bool v.dead]] w fun e w' => e = .returned (.int .i64 56) ∧ Keeps (fun _ => False) w w' := by
  obtain ⟨w0, hw0⟩ : ∃ w0, w0 = w.alloc (.cells #[.int .i64 v.num, .int .i64 v.next, .bool v.dead] 37) := ⟨_, rfl⟩
  have K0 : Keeps (fun _ => False) w w0 := by rw [hw0]; exact (Keeps.refl _ w).alloc _
  obtain ⟨vo, va, vl, vn, hw⟩ := (h.new K0).1.wj
  obtain ⟨gl, hgl, rl, _, l0, _, _, _⟩ := hw.loc hi
  rw [ho] at l0
  have hl := locator_ok hw hi hgl
  have hq := leq gl (i * 4)
  clear h hw ho
  go_enter Tryz.func18, Tryz.ntmps18
  go_wp2_with fail
  rw [← hw0]
  clear hw0
  refine hl.mono ?_
  clear hl
  rintro e w' ⟨rfl, rfl⟩
  go_wp2_with fail
  go_ret
  exact ⟨rfl, K0⟩
set_option maxHeartbeats 1600000 in
set_option maxRecDepth 1000000 in
theorem Put_done (h : St w ρ u j wb mb s m) (f : Wf s m) {i : Nat} (hi : i < s.locs.length) (ho : (s.lo i).owner ≠ 0) (hC : s.isC m (s.lo i).owner = true) (v : Vl) :
    Calls Tryz.prog 18 #[.pointer (some ⟨wb, 0, none⟩), .int .i64 (i : Int), .agg #[.int .i64 v.num, .int .i64 v.next, .bool v.dead]] w fun e w' => e = .returned (.int .i64 57) ∧ Keeps (fun _ => False) w w' := by
  obtain ⟨w0, hw0⟩ : ∃ w0, w0 = w.alloc (.cells #[.int .i64 v.num, .int .i64 v.next, .bool v.dead] 37) := ⟨_, rfl⟩
  have K0 : Keeps (fun _ => False) w w0 := by rw [hw0]; exact (Keeps.refl _ w).alloc _
  obtain ⟨vo, va, vl, vn, hw⟩ := (h.new K0).1.wj
  obtain ⟨gl, hgl, rl, _, l0, _, _, _⟩ := hw.loc hi
  obtain ⟨_, _, hown⟩ := f.lo i hi
  have hc := committed_any (h.new K0).1 hown (f.at_ _ hown).1
  rw [hC] at hc
  have hl := locator_ok hw hi hgl
  have hq := leq gl (i * 4)
  generalize (s.lo i).owner = o at *
  have d1 : ((o : Int) == 0) = false := by simp; omega
  have d2 : (o == 0) = false := by simp; omega
  have d3 : decide ((o : Int) = 0) = false := by simp; omega
  clear h hw
  go_enter Tryz.func18, Tryz.ntmps18
  go_wp2_with fail
  rw [← hw0]
  clear hw0
  refine hl.mono ?_
  clear hl
  rintro e w' ⟨rfl, rfl⟩
  go_wp2_with (go_at_call 46; refine hc.mono ?_; clear hc; rintro e w2 ⟨rfl, k2⟩)
  go_ret
  exact ⟨rfl, K0.trans k2⟩
set_option maxHeartbeats 1600000 in
set_option maxRecDepth 1000000 in
theorem Put_ok (h : St w ρ u j wb mb s m) (f : Wf s m) {i : Nat} (hi : i < s.locs.length) (ho : (s.lo i).owner ≠ 0) (hC : s.isC m (s.lo i).owner = false) (v : Vl) :
    Calls Tryz.prog 18 #[.pointer (some ⟨wb, 0, none⟩), .int .i64 (i : Int), .agg #[.int .i64 v.num, .int .i64 v.next, .bool v.dead]] w fun e w' => e = .returned (.int .i64 0) ∧ ∃ ρ', St w' ρ' u j wb mb (s.put i v) m ∧ Ext (Sr u j) w w' ρ ρ' := by
  obtain ⟨w0, hw0⟩ : ∃ w0, w0 = w.alloc (.cells #[.int .i64 v.num, .int .i64 v.next, .bool v.dead] 37) := ⟨_, rfl⟩
  have K0 : Keeps (fun _ => False) w w0 := by rw [hw0]; exact (Keeps.refl _ w).alloc _
  have b0 : w0.cell? ⟨w.heap.size, 0, none⟩ = some (.int .i64 v.num) := by rw [hw0]; simp
  have b1 : w0.cell? ⟨w.heap.size, 1, none⟩ = some (.int .i64 v.next) := by rw [hw0]; simp
  have b2 : w0.cell? ⟨w.heap.size, 2, none⟩ = some (.bool v.dead) := by rw [hw0]; simp
  obtain ⟨h0, x0⟩ := h.new K0
  obtain ⟨vo, va, vl, vn, hw⟩ := h0.wj
  obtain ⟨gl, hgl, rl, _, l0, _, l2, _⟩ := hw.loc hi
  obtain ⟨hnew, _, hown⟩ := f.lo i hi
  rw [hnew] at l2
  have hiv : i < s.vals.length := by rw [f.vl]; exact hi
  obtain ⟨gv, hgv, rv, lv, v0, v1, v2⟩ := hw.ver hiv
  have hc := committed_any h0 hown (f.at_ _ hown).1
  rw [hC] at hc
  have hl := locator_ok hw hi hgl
  have hq := leq gl (i * 4)
  have hav : ∀ (W : World) (k : Keeps (fun _ => False) w0 W), _ := fun W k => atV (hw.new h0.bnd k).pv hiv hgv
  have fin : ∀ (W : World) (k : Keeps (fun _ => False) w0 W), _ := fun W k => ((h0.new k).1.setV (hw.new h0.bnd k) hgv hiv v)
  have xn : ∀ (W : World) (k : Keeps (fun _ => False) w0 W), _ := fun W k => (h0.new k).2
  have ngl : ¬ gl = gv := fun e => by rw [e] at rl; omega
  have ngl' : ¬ gv = gl := fun e => ngl e.symm
  have b00 : ρ w.heap.size = 0 := h.bnd _ (Nat.le_refl _)
  have ngb : ¬ gv = w.heap.size := fun e => by rw [e] at rv; omega
  have ngb' : ¬ w.heap.size = gv := fun e => ngb e.symm
  have zv : ∀ o, w0.frozen? ⟨gv, o, none⟩ = false := fun o => by
    have row := hw.pv.row
    obtain ⟨a, cap, e0, hs⟩ := hw.pv.slice
    obtain ⟨g', e1, e2, _⟩ := hs (by omega)
    rw [hgv] at e2
    cases e2
    rw [e0, e1] at row
    exact row.frozenAt o
  generalize (s.lo i).owner = o at *
  have d1 : ((o : Int) == 0) = false := by simp; omega
  have d2 : (o == 0) = false := by simp; omega
  have d3 : decide ((o : Int) = 0) = false := by simp; omega
  generalize s.vl i = V at *
  clear h hw hnew h0
  go_enter Tryz.func18, Tryz.ntmps18
  go_wp2_with fail
  rw [← hw0]
  clear hw0
  refine hl.mono ?_
  clear hl
  rintro e w' ⟨rfl, rfl⟩
  go_wp2_with (go_at_call 46; refine hc.mono ?_; clear hc; rintro e w2 ⟨rfl, k2⟩)
  have KD := k2.drew
  have zv2 : ∀ o, w2.frozen? ⟨gv, o, none⟩ = false := fun o => (k2.frozen (p := ⟨gv, o, none⟩) lv (fun e => e)).trans (zv o)
  have z0 := zv2 (i * 3)
  have z1 := zv2 (i * 3 + 1)
  have z2 := zv2 (i * 3 + 2)
  replace b0 := k2.cell b0 (fun e => e)
  replace b1 := k2.cell b1 (fun e => e)
  replace b2 := k2.cell b2 (fun e => e)
  replace l2 := k2.cell l2 (fun e => e)
  replace v0 := k2.cell v0 (fun e => e)
  replace v1 := k2.cell v1 (fun e => e)
  replace v2 := k2.cell v2 (fun e => e)
  clear zv zv2 l0
  go_region_held3 (fun w' => w'.cell? ⟨gl, i * 4 + 2, none⟩ = some (.int .i64 (i : Int)) ∧ w'.cell? ⟨w.heap.size, 0, none⟩ = some (.int .i64 v.num) ∧ w'.cell? ⟨w.heap.size, 1, none⟩ = some (.int .i64 v.next) ∧ w'.cell? ⟨w.heap.size, 2, none⟩ = some (.bool v.dead)) (go_keep) ((go_at_call 49; refine (hav _ KD).mono ?_; rintro e w3 ⟨rfl, rfl⟩))
  all_goals
    (try simp only [Exit.then])
    go_wp2_with fail
    go_ret
    obtain ⟨f1, f2⟩ := fin _ KD
    exact ⟨rfl, ρ, f1, x0.trans ((xn _ KD).trans f2)⟩
end
end Go.Proofs.YtaikngpgmcpecaaGreat
