import Derived.Test.YtaikngpgmcpecaaGreatLocW
namespace Go.Proofs.YtaikngpgmcpecaaGreat
open Go.RowKit

section
variable {w w' : World} {ρ ρ' : Nat → Nat} {u j wb mb : Nat} {s s' : Ws} {m m' : Mm}
/-- An attempt joins the list. -/
theorem sadda (h : St w ρ u j wb mb s m) (hn : s.atts.length ≤ 70000) (x : At) :
    Calls Tryz.prog 86 #[.pointer (some ⟨wb, 2, none⟩), .agg #[.int .i64 x.thread, .int .i64 x.stamp, .int .i64 x.prio, .int .i64 (x.status : Int), .int .i64 (x.flag : Int)]] w fun e w' =>
      e = .returned (.int .i64 (s.atts.length : Int)) ∧ ∃ ρ', St w' ρ' u j wb mb { s with atts := s.atts ++ [x] } m ∧ Ext (Sr u j) w w' ρ ρ' := by
  obtain ⟨vo, va, vl, vn, hw⟩ := h.wj
  refine (addA hw.pa (hw.z 2 (by omega)) (by rw [hw.role]; omega) hn x).mono ?_
  rintro e w' ⟨rfl, v', ρ', p, a⟩
  exact ⟨rfl, ρ', h.own ⟨_, _, _, _, hw.addA a p⟩ (a.ext' hw.role (by omega)) a.bnd⟩
theorem saddl (h : St w ρ u j wb mb s m) (hn : s.locs.length ≤ 70000) (x : Lo) :
    Calls Tryz.prog 88 #[.pointer (some ⟨wb, 3, none⟩), .agg #[.int .i64 (x.owner : Int), .int .i64 (x.old : Int), .int .i64 (x.new : Int), .bool x.used]] w fun e w' =>
      e = .returned (.int .i64 (s.locs.length : Int)) ∧ ∃ ρ', St w' ρ' u j wb mb { s with locs := s.locs ++ [x] } m ∧ Ext (Sr u j) w w' ρ ρ' := by
  obtain ⟨vo, va, vl, vn, hw⟩ := h.wj
  refine (addL hw.pl (hw.z 3 (by omega)) (by rw [hw.role]; omega) hn x).mono ?_
  rintro e w' ⟨rfl, v', ρ', p, a⟩
  exact ⟨rfl, ρ', h.own ⟨_, _, _, _, hw.addL a p⟩ (a.ext' hw.role (by omega)) a.bnd⟩
theorem saddv (h : St w ρ u j wb mb s m) (hn : s.vals.length ≤ 70000) (x : Vl) :
    Calls Tryz.prog 87 #[.pointer (some ⟨wb, 4, none⟩), .agg #[.int .i64 x.num, .int .i64 x.next, .bool x.dead]] w fun e w' =>
      e = .returned (.int .i64 (s.vals.length : Int)) ∧ ∃ ρ', St w' ρ' u j wb mb { s with vals := s.vals ++ [x] } m ∧ Ext (Sr u j) w w' ρ ρ' := by
  obtain ⟨vo, va, vl, vn, hw⟩ := h.wj
  refine (addV hw.pv (hw.z 4 (by omega)) (by rw [hw.role]; omega) hn x).mono ?_
  rintro e w' ⟨rfl, v', ρ', p, a⟩
  exact ⟨rfl, ρ', h.own ⟨_, _, _, _, hw.addV a p⟩ (a.ext' hw.role (by omega)) a.bnd⟩
theorem saddo (h : St w ρ u j wb mb s m) (hn : s.objs.length ≤ 70000) (x : Nat) :
    Calls Tryz.prog 41 #[.pointer (some ⟨wb, 1, none⟩), .int .i64 (x : Int)] w fun e w' =>
      e = .returned (.int .i64 (s.objs.length : Int)) ∧ ∃ ρ', St w' ρ' u j wb mb { s with objs := s.objs ++ [x] } m ∧ Ext (Sr u j) w w' ρ ρ' := by
  obtain ⟨vo, va, vl, vn, hw⟩ := h.wj
  refine (addO hw.po (hw.z 1 (by omega)) (by rw [hw.role]; omega) hn x).mono ?_
  rintro e w' ⟨rfl, v', ρ', p, a⟩
  exact ⟨rfl, ρ', h.own ⟨_, _, _, _, hw.addO a p⟩ (a.ext' hw.role (by omega)) a.bnd⟩

/-- A locator with a fresh version. -/
def Ws.lay (s : Ws) (att old : Nat) (v : Vl) : Ws := { s with locs := s.locs ++ [⟨att, old, s.vals.length, false⟩], vals := s.vals ++ [v] }
/-- A fresh attempt. -/
def Ws.beg (s : Ws) (th st pr : Int) (c : Nat) : Ws := { s with atts := s.atts ++ [⟨th, st, pr, c, c + 1⟩] }

theorem Ext.wr {S : Nat → Prop} {w w' w'' : World} {ρ ρ' : Nat → Nat} {B : Nat} (x : Ext S w w' ρ ρ') (k : Keeps (fun i => i = B) w' w'') (hB : w.heap.size ≤ B) : Ext S w w'' ρ ρ' :=
  ⟨x.keeps.trans' k (fun _ _ e => e) (fun i hi e => by omega), x.old, x.new⟩
/-- Five cells of a box that has no role. -/
structure B5 (w : World) (ρ : Nat → Nat) (B : Nat) (a b c d e : Value) : Prop where
  r : ρ B = 0
  c0 : w.cell? ⟨B, 0, none⟩ = some a
  c1 : w.cell? ⟨B, 1, none⟩ = some b
  c2 : w.cell? ⟨B, 2, none⟩ = some c
  c3 : w.cell? ⟨B, 3, none⟩ = some d
  c4 : w.cell? ⟨B, 4, none⟩ = some e
  z : ∀ o, w.frozen? ⟨B, o, none⟩ = false
theorem B5.lt {B : Nat} {a b c d e : Value} (h : B5 w ρ B a b c d e) : B < w.heap.size := World.block_lt_of_cell? _ _ h.c0
theorem B5.ext {S : Nat → Prop} {B : Nat} {a b c d e : Value} (h : B5 w ρ B a b c d e) (x : Ext S w w' ρ ρ') (hS : ¬ S 0) : B5 w' ρ' B a b c d e :=
  have n : ¬ S (ρ B) := by rw [h.r]; exact hS
  ⟨(x.old B h.lt).trans h.r, x.cell h.c0 n, x.cell h.c1 n, x.cell h.c2 n, x.cell h.c3 n, x.cell h.c4 n, fun o => (x.keeps.frozen (p := ⟨B, o, none⟩) h.lt n).trans (h.z o)⟩
theorem B5.set3 {B : Nat} {a b c d e : Value} (h : B5 w ρ B a b c d e) (v : Value) : B5 (w.setCell ⟨B, 3, none⟩ v) ρ B a b c v e := by
  have o : ∀ k u, k ≠ 3 → w.cell? ⟨B, k, none⟩ = some u → (w.setCell ⟨B, 3, none⟩ v).cell? ⟨B, k, none⟩ = some u := fun k u hk hu => by
    rw [World.cell?_setCell_other _ _ _ _ (fun e => by cases e; exact hk rfl)]; exact hu
  exact ⟨h.r, o _ _ (by decide) h.c0, o _ _ (by decide) h.c1, o _ _ (by decide) h.c2, World.cell?_setCell_same _ _ _ h.c3, o _ _ (by decide) h.c4, fun k => by rw [World.frozen?_setCell]; exact h.z k⟩
theorem B5.set4 {B : Nat} {a b c d e : Value} (h : B5 w ρ B a b c d e) (v : Value) : B5 (w.setCell ⟨B, 4, none⟩ v) ρ B a b c d v := by
  have o : ∀ k u, k ≠ 4 → w.cell? ⟨B, k, none⟩ = some u → (w.setCell ⟨B, 4, none⟩ v).cell? ⟨B, k, none⟩ = some u := fun k u hk hu => by
    rw [World.cell?_setCell_other _ _ _ _ (fun e => by cases e; exact hk rfl)]; exact hu
  exact ⟨h.r, o _ _ (by decide) h.c0, o _ _ (by decide) h.c1, o _ _ (by decide) h.c2, o _ _ (by decide) h.c3, World.cell?_setCell_same _ _ _ h.c4, fun k => by rw [World.frozen?_setCell]; exact h.z k⟩

set_option maxHeartbeats 1600000 in
set_option maxRecDepth 1000000 in
theorem begin_att (h : St w ρ u j wb mb s m) (hn : s.atts.length ≤ 70000) (hl : m.cells.length + 2 ≤ 65536) (th st pr x y sv : Int) :
    Calls Tryz.prog 38 #[.pointer (some ⟨wb, 0, none⟩), .agg #[.int .i64 th, .int .i64 st, .int .i64 pr, .int .i64 x, .int .i64 y], .int .i64 sv] w fun e w' =>
      e = .returned (.int .i64 (s.atts.length : Int)) ∧ ∃ ρ', St w' ρ' u j wb mb (s.beg th st pr m.cells.length) ((m.make sv).make 0) ∧ Ext (Sr u j) w w' ρ ρ' := by
  obtain ⟨w0, hw0⟩ : ∃ w0, w0 = w.alloc (.cells #[.int .i64 th, .int .i64 st, .int .i64 pr, .int .i64 x, .int .i64 y] 99) := ⟨_, rfl⟩
  have K0 : Keeps (fun _ => False) w w0 := by rw [hw0]; exact (Keeps.refl _ w).alloc _
  obtain ⟨h0, x0⟩ := h.new K0
  have nS := Sr.not0 h
  have b0 : B5 w0 ρ w.heap.size (.int .i64 th) (.int .i64 st) (.int .i64 pr) (.int .i64 x) (.int .i64 y) := by
    refine ⟨h.bnd _ (Nat.le_refl _), ?_, ?_, ?_, ?_, ?_, fun o => ?_⟩ <;> rw [hw0] <;> simp
  have hc1 := cell_any h0 sv (by omega)
  have n0 : w.heap.size = w.heap.size := rfl
  generalize hB : w.heap.size = B at b0 n0
  clear h K0
  go_enter Tryz.func38, Tryz.ntmps38
  go_wp2_with fail
  rw [← hw0]
  clear hw0
  refine hc1.mono ?_
  clear hc1
  rintro e w1 ⟨rfl, ρ1, h1, x1⟩
  have b1 := b0.ext x1 nS
  obtain ⟨w2, hw2⟩ : ∃ w2, w2 = w1.setCell ⟨B, 3, none⟩ (.int .i64 (m.cells.length : Int)) := ⟨_, rfl⟩
  have b2 := b1.set3 (.int .i64 (m.cells.length : Int))
  have k2 := keeps_set w1 B 3 (.int .i64 (m.cells.length : Int))
  rw [← hw2] at b2 k2
  have h2 := h1.wr k2 b1.r
  have f3 := b1.c3
  have z3 := b1.z 3
  have hc2 := cell_any h2 0 (by simp [Mm.make]; omega)
  have eq1 : ((m.make sv).cells.length : Int) = (m.cells.length : Int) + 1 := by simp [Mm.make]
  rw [eq1] at hc2
  clear h1 b0
  subst hB
  go_wp2_with fail
  rw [← hw2]
  clear hw2 f3 z3
  refine hc2.mono ?_
  clear hc2
  rintro e w3 ⟨rfl, ρ3, h3, x3⟩
  have b3 := b2.ext x3 nS
  obtain ⟨w4, hw4⟩ : ∃ w4, w4 = w3.setCell ⟨w.heap.size, 4, none⟩ (.int .i64 ((m.cells.length : Int) + 1)) := ⟨_, rfl⟩
  have b4 := b3.set4 (.int .i64 ((m.cells.length : Int) + 1))
  have k4 := keeps_set w3 w.heap.size 4 (.int .i64 ((m.cells.length : Int) + 1))
  rw [← hw4] at b4 k4
  have h4 := h3.wr k4 b3.r
  have f4 := b3.c4
  have z4 := b3.z 4
  have hadd := fun (W : World) (k : Keeps (fun _ => False) w4 W) => sadda (h4.new k).1 hn ⟨th, st, pr, m.cells.length, m.cells.length + 1⟩
  have eq2 : ((m.cells.length + 1 : Nat) : Int) = (m.cells.length : Int) + 1 := by omega
  simp only [eq2] at hadd
  have KD : Keeps (fun _ => False) w4 w4.drew := (Keeps.refl _ w4).drew
  have xx : Ext (Sr u j) w w4 ρ ρ3 := ((((x0.trans x1).wr k2 (Nat.le_refl _)).trans x3).wr k4 (Nat.le_refl _))
  go_wp2_with fail
  rw [← hw4]
  clear hw4 f4 z4
  have d0 := b4.c0
  have d1 := b4.c1
  have d2 := b4.c2
  have d3 := b4.c3
  have d4 := b4.c4
  go_region_with (go_at_call 86; refine (hadd _ KD).mono ?_; rintro e w5 ⟨rfl, ρ5, h5, x5⟩)
  all_goals
    (try simp only [Exit.then])
    go_wp2_with fail
    go_ret
    exact ⟨rfl, ρ5, h5, (xx.trans (h4.new KD).2).trans x5⟩
set_option maxHeartbeats 1600000 in
set_option maxRecDepth 1000000 in
theorem lay_any (h : St w ρ u j wb mb s m) (hn : s.locs.length ≤ 70000) (hn' : s.vals.length ≤ 70000) (att old : Nat) (v : Vl) :
    Calls Tryz.prog 39 #[.pointer (some ⟨wb, 0, none⟩), .int .i64 (att : Int), .int .i64 (old : Int), .agg #[.int .i64 v.num, .int .i64 v.next, .bool v.dead]] w fun e w' =>
      e = .returned (.int .i64 (s.locs.length : Int)) ∧ ∃ ρ', St w' ρ' u j wb mb (s.lay att old v) m ∧ Ext (Sr u j) w w' ρ ρ' := by
  obtain ⟨w0, hw0⟩ : ∃ w0, w0 = w.alloc (.cells #[.int .i64 v.num, .int .i64 v.next, .bool v.dead] 37) := ⟨_, rfl⟩
  have K0 : Keeps (fun _ => False) w w0 := by rw [hw0]; exact (Keeps.refl _ w).alloc _
  obtain ⟨h0, x0⟩ := h.new K0
  have d0 : w0.cell? ⟨w.heap.size, 0, none⟩ = some (.int .i64 v.num) := by rw [hw0]; simp
  have d1 : w0.cell? ⟨w.heap.size, 1, none⟩ = some (.int .i64 v.next) := by rw [hw0]; simp
  have d2 : w0.cell? ⟨w.heap.size, 2, none⟩ = some (.bool v.dead) := by rw [hw0]; simp
  have KD : Keeps (fun _ => False) w0 w0.drew := (Keeps.refl _ w0).drew
  have hadd := saddv (h0.new KD).1 hn' v
  clear h K0
  go_enter Tryz.func39, Tryz.ntmps39
  go_wp2_with fail
  rw [← hw0]
  clear hw0
  go_region_with (go_at_call 87; refine hadd.mono ?_; rintro e w5 ⟨rfl, ρ5, h5, x5⟩)
  all_goals
    (try simp only [Exit.then])
    have hl := saddl h5 hn ⟨att, old, s.vals.length, false⟩
    have x6 := (x0.trans (h0.new KD).2).trans x5
    clear hadd d0 d1 d2 h0 h5
    go_wp2_with (go_at_call 88; refine hl.mono ?_; clear hl; rintro e w7 ⟨rfl, ρ7, h7, x7⟩)
    go_ret
    exact ⟨rfl, ρ7, h7, x6.trans x7⟩

end
end Go.Proofs.YtaikngpgmcpecaaGreat
