import Derived.Test.YtaikngpgmcpecaaGreatLocK
namespace Go.Proofs.YtaikngpgmcpecaaGreat
open Go.RowKit
section
variable {w w' : World} {ρ ρ' : Nat → Nat} {u j wb mb : Nat} {s s' : Ws} {m m' : Mm} {vo va vl vn : Value}
set_option maxHeartbeats 1600000 in
set_option maxRecDepth 1000000 in
theorem Acq_obj (h : St w ρ u j wb mb s m) {o : Int} (hi : o < 0 ∨ (s.objs.length : Int) ≤ o) (x y : Int) :
    Calls Tryz.prog 20 #[.pointer (some ⟨wb, 0, none⟩), .int .i64 o, .int .i64 x, .int .i64 y] w fun e w' => e = .returned (.tuple #[.bool false, .int .i64 50]) ∧ w = w' := by
  have ho := OCell_no h hi
  clear h
  go_enter Tryz.func20, Tryz.ntmps20
  go_wp2_with (first | (go_at_call 50; refine ho.mono ?_; clear ho; rintro e w' ⟨rfl, rfl⟩))
  go_ret2
  exact ⟨rfl, rfl⟩
set_option maxHeartbeats 1600000 in
set_option maxRecDepth 1000000 in
theorem Acq_next (h : St w ρ u j wb mb s m) {o : Nat} (hi : o < s.objs.length) (x : Int) {y : Int} (hy : y < 0 ∨ (s.locs.length : Int) ≤ y) :
    Calls Tryz.prog 20 #[.pointer (some ⟨wb, 0, none⟩), .int .i64 (o : Int), .int .i64 x, .int .i64 y] w fun e w' => e = .returned (.tuple #[.bool false, .int .i64 52]) ∧ w = w' := by
  have ho := OCell_ok h hi
  obtain ⟨vo, va, vl, vn, hw⟩ := h.wj
  have hn := locator_no hw hy
  have hq := leq0
  generalize s.ob o = O at *
  clear h hw
  go_enter Tryz.func20, Tryz.ntmps20
  go_wp2_with (first | (go_at_call 50; refine ho.mono ?_; clear ho; rintro e w' ⟨rfl, rfl⟩) | (go_at_call 48; refine hn.mono ?_; clear hn; rintro e w' ⟨rfl, rfl⟩))
  go_ret2
  exact ⟨rfl, rfl⟩
set_option maxHeartbeats 1600000 in
set_option maxRecDepth 1000000 in
theorem Acq_have (h : St w ρ u j wb mb s m) {o : Nat} (hi : o < s.objs.length) {x : Int} (hx : x < 0 ∨ (s.locs.length : Int) ≤ x) {y : Nat} (hy : y < s.locs.length) :
    Calls Tryz.prog 20 #[.pointer (some ⟨wb, 0, none⟩), .int .i64 (o : Int), .int .i64 x, .int .i64 (y : Int)] w fun e w' => e = .returned (.tuple #[.bool false, .int .i64 52]) ∧ w = w' := by
  have ho := OCell_ok h hi
  obtain ⟨vo, va, vl, vn, hw⟩ := h.wj
  obtain ⟨gl, hgl, rl, ll, l0, _, _, l3⟩ := hw.loc hy
  have hn := locator_ok hw hy hgl
  have hq := leq gl (y * 4)
  have hh := locator_no hw hx
  have hq2 := leq0
  generalize s.ob o = O at *
  clear h hw l0 l3
  go_enter Tryz.func20, Tryz.ntmps20
  go_wp2_with (first | (go_at_call 50; refine ho.mono ?_; clear ho; rintro e w' ⟨rfl, rfl⟩) | (go_at_call 48; refine hn.mono ?_; clear hn; rintro e w' ⟨rfl, rfl⟩) | (go_at_call 48; refine hh.mono ?_; clear hh; rintro e w' ⟨rfl, rfl⟩))
  go_ret2
  exact ⟨rfl, rfl⟩
set_option maxHeartbeats 1600000 in
set_option maxRecDepth 1000000 in
theorem Acq_used (h : St w ρ u j wb mb s m) {o : Nat} (hi : o < s.objs.length) {x : Nat} (hx : x < s.locs.length) {y : Nat} (hy : y < s.locs.length) (hU : (s.lo y).used = true) :
    Calls Tryz.prog 20 #[.pointer (some ⟨wb, 0, none⟩), .int .i64 (o : Int), .int .i64 (x : Int), .int .i64 (y : Int)] w fun e w' => e = .returned (.tuple #[.bool false, .int .i64 55]) ∧ w = w' := by
  have ho := OCell_ok h hi
  obtain ⟨vo, va, vl, vn, hw⟩ := h.wj
  obtain ⟨gl, hgl, rl, ll, l0, _, _, l3⟩ := hw.loc hy
  have hn := locator_ok hw hy hgl
  have hq := leq gl (y * 4)
  have hh := locator_ok hw hx hgl
  have hq2 := leq gl (x * 4)
  rw [hU] at l3
  generalize s.ob o = O at *
  clear h hw l0 hU
  go_enter Tryz.func20, Tryz.ntmps20
  go_wp2_with (first | (go_at_call 50; refine ho.mono ?_; clear ho; rintro e w' ⟨rfl, rfl⟩) | (go_at_call 48; refine hn.mono ?_; clear hn; rintro e w' ⟨rfl, rfl⟩) | (go_at_call 48; refine hh.mono ?_; clear hh; rintro e w' ⟨rfl, rfl⟩))
  go_ret2
  exact ⟨rfl, rfl⟩
set_option maxHeartbeats 1600000 in
set_option maxRecDepth 1000000 in
theorem Acq_done (h : St w ρ u j wb mb s m) (f : Wf s m) {o : Nat} (hi : o < s.objs.length) {x : Nat} (hx : x < s.locs.length) {y : Nat} (hy : y < s.locs.length) (hU : (s.lo y).used = false) (hC : s.isC m (s.lo y).owner = true) :
    Calls Tryz.prog 20 #[.pointer (some ⟨wb, 0, none⟩), .int .i64 (o : Int), .int .i64 (x : Int), .int .i64 (y : Int)] w fun e w' => e = .returned (.tuple #[.bool false, .int .i64 57]) ∧ Keeps (fun _ => False) w w' := by
  have ho := OCell_ok h hi
  obtain ⟨vo, va, vl, vn, hw⟩ := h.wj
  obtain ⟨gl, hgl, rl, ll, l0, _, _, l3⟩ := hw.loc hy
  have hn := locator_ok hw hy hgl
  have hq := leq gl (y * 4)
  have hh := locator_ok hw hx hgl
  have hq2 := leq gl (x * 4)
  rw [hU] at l3
  obtain ⟨_, _, hown⟩ := f.lo y hy
  have hc := committed_any h hown (f.at_ _ hown).1
  rw [hC] at hc
  generalize s.ob o = O at *
  generalize (s.lo y).owner = W at *
  clear h hw hU
  go_enter Tryz.func20, Tryz.ntmps20
  go_wp2_with (first | (go_at_call 50; refine ho.mono ?_; clear ho; rintro e w' ⟨rfl, rfl⟩) | (go_at_call 48; refine hn.mono ?_; clear hn; rintro e w' ⟨rfl, rfl⟩) | (go_at_call 48; refine hh.mono ?_; clear hh; rintro e w' ⟨rfl, rfl⟩) | (go_at_call 46; refine hc.mono ?_; clear hc; rintro e w2 ⟨rfl, k2⟩))
  go_ret2
  exact ⟨rfl, k2⟩
set_option maxHeartbeats 1600000 in
set_option maxRecDepth 1000000 in
theorem Acq_closed (h : St w ρ u j wb mb s m) (f : Wf s m) {o : Nat} (hi : o < s.objs.length) {x : Nat} (hx : x < s.locs.length) {y : Nat} (hy : y < s.locs.length) (hU : (s.lo y).used = false) (hC : s.isC m (s.lo y).owner = false) (hfr : m.free = false) :
    Calls Tryz.prog 20 #[.pointer (some ⟨wb, 0, none⟩), .int .i64 (o : Int), .int .i64 (x : Int), .int .i64 (y : Int)] w fun e w' => e = .returned (.tuple #[.bool false, .int .i64 31]) ∧ ∃ ρ', St w' ρ' u j wb mb (s.use y false) m ∧ Ext (Sr u j) w w' ρ ρ' := by
  have ho := OCell_ok h hi
  obtain ⟨vo, va, vl, vn, hw⟩ := h.wj
  obtain ⟨gl, hgl, rl, ll, l0, _, _, l3⟩ := hw.loc hy
  have hn := locator_ok hw hy hgl
  have hq := leq gl (y * 4)
  have hh := locator_ok hw hx hgl
  have hq2 := leq gl (x * 4)
  rw [hU] at l3
  obtain ⟨_, _, hown⟩ := f.lo y hy
  have hc := committed_any h hown (f.at_ _ hown).1
  rw [hC] at hc
  have zl : ∀ o, w.frozen? ⟨gl, o, none⟩ = false := fun o => by
    have row := hw.pl.row
    obtain ⟨a, cap, e0, hs⟩ := hw.pl.slice
    obtain ⟨g', e1, e2, _⟩ := hs (by omega)
    rw [hgl] at e2
    cases e2
    rw [e0, e1] at row
    exact row.frozenAt o
  have f0 := hw.mem
  have hl : ∀ (W : World) (k : Keeps (fun _ => False) w W), _ := fun W k => sswapC (h.new k).1 (f.ob o hi).1 hfr (x : Int) (y : Int)
  have fin : ∀ (W : World) (k : Keeps (fun _ => False) w W), _ := fun W k => ((h.new k).1.setU (hw.new h.bnd k) hgl hy false)
  have xn : ∀ (W : World) (k : Keeps (fun _ => False) w W), _ := fun W k => (h.new k).2
  generalize s.ob o = O at *
  generalize (s.lo y).owner = OW at *
  clear h hw hU
  go_enter Tryz.func20, Tryz.ntmps20
  go_wp2_with (first | (go_at_call 50; refine ho.mono ?_; clear ho; rintro e w' ⟨rfl, rfl⟩) | (go_at_call 48; refine hn.mono ?_; clear hn; rintro e w' ⟨rfl, rfl⟩) | (go_at_call 48; refine hh.mono ?_; clear hh; rintro e w' ⟨rfl, rfl⟩) | (go_at_call 46; refine hc.mono ?_; clear hc; rintro e w2 ⟨rfl, k2⟩; replace f0 := k2.cell f0 (fun e => e)) | (go_at_call 51; refine (hl _ k2).mono ?_; clear hl; rintro e w3 ⟨rfl, k3⟩; replace k3 := k2.trans k3; replace l3 := k3.cell l3 (fun e => e); have z3 := (k3.frozen (p := ⟨gl, y * 4 + 3, none⟩) ll (fun e => e)).trans (zl _)))
  go_ret2
  exact ⟨rfl, ρ, (fin _ k3).1, (xn _ k3).trans (fin _ k3).2⟩
set_option maxHeartbeats 1600000 in
set_option maxRecDepth 1000000 in
theorem Acq_ok (h : St w ρ u j wb mb s m) (f : Wf s m) {o : Nat} (hi : o < s.objs.length) {x : Nat} (hx : x < s.locs.length) {y : Nat} (hy : y < s.locs.length) (hU : (s.lo y).used = false) (hC : s.isC m (s.lo y).owner = false) (hfr : m.free = true) (hlog : (m.log.length + 1) * 56 ≤ 140737488355328) :
    Calls Tryz.prog 20 #[.pointer (some ⟨wb, 0, none⟩), .int .i64 (o : Int), .int .i64 (x : Int), .int .i64 (y : Int)] w fun e w' => e = .returned (.tuple #[.bool (decide ((ca m.cells (s.ob o)).2 = (x : Int))), .int .i64 0]) ∧ ∃ ρ', St w' ρ' u j wb mb (s.use y (decide ((ca m.cells (s.ob o)).2 = (x : Int)))) (m.swap (s.ob o) (x : Int) (y : Int)) ∧ Ext (Sr u j) w w' ρ ρ' := by
  have ho := OCell_ok h hi
  obtain ⟨vo, va, vl, vn, hw⟩ := h.wj
  obtain ⟨gl, hgl, rl, ll, l0, _, _, l3⟩ := hw.loc hy
  have hn := locator_ok hw hy hgl
  have hq := leq gl (y * 4)
  have hh := locator_ok hw hx hgl
  have hq2 := leq gl (x * 4)
  rw [hU] at l3
  obtain ⟨_, _, hown⟩ := f.lo y hy
  have hc := committed_any h hown (f.at_ _ hown).1
  rw [hC] at hc
  have zl : ∀ o, w.frozen? ⟨gl, o, none⟩ = false := fun o => by
    have row := hw.pl.row
    obtain ⟨a, cap, e0, hs⟩ := hw.pl.slice
    obtain ⟨g', e1, e2, _⟩ := hs (by omega)
    rw [hgl] at e2
    cases e2
    rw [e0, e1] at row
    exact row.frozenAt o
  have f0 := hw.mem
  have hl : ∀ (W : World) (k : Keeps (fun _ => False) w W), _ := fun W k => sswap' (h.new k).1 (f.ob o hi).1 hfr hlog (x : Int) (y : Int)
  have hww : ∀ (W : World) (k : Keeps (fun _ => False) w W), _ := fun W k => hw.new h.bnd k
  have xn : ∀ (W : World) (k : Keeps (fun _ => False) w W), _ := fun W k => (h.new k).2
  have nu2 : ¬ ρ gl = u := fun e => h.ap (by omega)
  have nu1 : ∀ r, j ≤ r → r < j + 5 → ¬ r = u := fun r h1 h2 e => h.ap (by omega)
  generalize (ca m.cells (s.ob o)).2 = cv at *
  generalize s.ob o = O at *
  generalize (s.lo y).owner = OW at *
  generalize hb : decide (cv = (x : Int)) = bb at *
  clear h hw hU hb
  go_enter Tryz.func20, Tryz.ntmps20
  go_wp2_with (first | (go_at_call 50; refine ho.mono ?_; clear ho; rintro e w' ⟨rfl, rfl⟩) | (go_at_call 48; refine hn.mono ?_; clear hn; rintro e w' ⟨rfl, rfl⟩) | (go_at_call 48; refine hh.mono ?_; clear hh; rintro e w' ⟨rfl, rfl⟩) | (go_at_call 46; refine hc.mono ?_; clear hc; rintro e w2 ⟨rfl, k2⟩; replace f0 := k2.cell f0 (fun e => e)) | (go_at_call 51; refine (hl _ k2).mono ?_; clear hl; rintro e w3 ⟨rfl, ρ3, h3, x3, y3⟩; replace l3 := y3.cell (p := ⟨gl, y * 4 + 3, none⟩) (k2.cell l3 (fun e => e)) nu2; have z3 := (y3.keeps.frozen (p := ⟨gl, y * 4 + 3, none⟩) (Nat.lt_of_lt_of_le ll k2.size) nu2).trans ((k2.frozen (p := ⟨gl, y * 4 + 3, none⟩) ll (fun e => e)).trans (zl _))))
  go_ret2
  obtain ⟨f1, f2⟩ := h3.setU ((hww _ k2).ext y3 nu1) hgl hy bb
  exact ⟨rfl, ρ3, f1, (xn _ k2).trans (x3.trans f2)⟩
end
end Go.Proofs.YtaikngpgmcpecaaGreat
