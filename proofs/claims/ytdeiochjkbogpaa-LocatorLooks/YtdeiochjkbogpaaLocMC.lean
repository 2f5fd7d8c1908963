import Derived.Test.YtdeiochjkbogpaaLocW
import Derived.Laws.ResultCell
namespace Go.Proofs.Ytdeiochjkbogpaa
open Go.RowKit

section
variable {w w' : World} {ρ ρ' : Nat → Nat} {u j wb mb : Nat} {s s' : Ws} {m m' : Mm}
/-- An attempt joins the list. -/
theorem sadda (h : St w ρ u j wb mb s m) (hn : s.atts.length ≤ 70000) (x : At) :
    Calls Try.prog 54 #[.pointer (some ⟨wb, 2, none⟩), .agg #[.int .i64 x.thread, .int .i64 x.stamp, .int .i64 x.prio, .int .i64 (x.status : Int), .int .i64 (x.flag : Int)]] w fun e w' =>
      e = .returned (.int .i64 (s.atts.length : Int)) ∧ ∃ ρ', St w' ρ' u j wb mb { s with atts := s.atts ++ [x] } m ∧ Ext (Sr u j) w w' ρ ρ' := by
  obtain ⟨vo, va, vl, vn, hw⟩ := h.wj
  refine (addA hw.pa (hw.z 2 (by omega)) (by rw [hw.role]; omega) hn x).mono ?_
  rintro e w' ⟨rfl, v', ρ', p, a⟩
  exact ⟨rfl, ρ', h.own ⟨_, _, _, _, hw.addA a p⟩ (a.ext' hw.role (by omega)) a.bnd⟩
theorem saddl (h : St w ρ u j wb mb s m) (hn : s.locs.length ≤ 70000) (x : Lo) :
    Calls Try.prog 56 #[.pointer (some ⟨wb, 3, none⟩), .agg #[.int .i64 (x.owner : Int), .int .i64 (x.old : Int), .int .i64 (x.new : Int), .bool x.used]] w fun e w' =>
      e = .returned (.int .i64 (s.locs.length : Int)) ∧ ∃ ρ', St w' ρ' u j wb mb { s with locs := s.locs ++ [x] } m ∧ Ext (Sr u j) w w' ρ ρ' := by
  obtain ⟨vo, va, vl, vn, hw⟩ := h.wj
  refine (addL hw.pl (hw.z 3 (by omega)) (by rw [hw.role]; omega) hn x).mono ?_
  rintro e w' ⟨rfl, v', ρ', p, a⟩
  exact ⟨rfl, ρ', h.own ⟨_, _, _, _, hw.addL a p⟩ (a.ext' hw.role (by omega)) a.bnd⟩
theorem saddv (h : St w ρ u j wb mb s m) (hn : s.vals.length ≤ 70000) (x : Vl) :
    Calls Try.prog 55 #[.pointer (some ⟨wb, 4, none⟩), .agg #[.int .i64 x.num, .int .i64 x.next, .bool x.dead]] w fun e w' =>
      e = .returned (.int .i64 (s.vals.length : Int)) ∧ ∃ ρ', St w' ρ' u j wb mb { s with vals := s.vals ++ [x] } m ∧ Ext (Sr u j) w w' ρ ρ' := by
  obtain ⟨vo, va, vl, vn, hw⟩ := h.wj
  refine (addV hw.pv (hw.z 4 (by omega)) (by rw [hw.role]; omega) hn x).mono ?_
  rintro e w' ⟨rfl, v', ρ', p, a⟩
  exact ⟨rfl, ρ', h.own ⟨_, _, _, _, hw.addV a p⟩ (a.ext' hw.role (by omega)) a.bnd⟩
theorem saddo (h : St w ρ u j wb mb s m) (hn : s.objs.length ≤ 70000) (x : Nat) :
    Calls Try.prog 30 #[.pointer (some ⟨wb, 1, none⟩), .int .i64 (x : Int)] w fun e w' =>
      e = .returned (.int .i64 (s.objs.length : Int)) ∧ ∃ ρ', St w' ρ' u j wb mb { s with objs := s.objs ++ [x] } m ∧ Ext (Sr u j) w w' ρ ρ' := by
  obtain ⟨vo, va, vl, vn, hw⟩ := h.wj
  refine (addO hw.po (hw.z 1 (by omega)) (by rw [hw.role]; omega) hn x).mono ?_
  rintro e w' ⟨rfl, v', ρ', p, a⟩
  exact ⟨rfl, ρ', h.own ⟨_, _, _, _, hw.addO a p⟩ (a.ext' hw.role (by omega)) a.bnd⟩

/-- A locator with a fresh version. -/
def Ws.lay (s : Ws) (att old : Nat) (v : Vl) : Ws := { s with locs := s.locs ++ [⟨att, old, s.vals.length, false⟩], vals := s.vals ++ [v] }
/-- A fresh attempt. -/
def Ws.beg (s : Ws) (th st pr : Int) (c : Nat) : Ws := { s with atts := s.atts ++ [⟨th, st, pr, c, c + 1⟩] }

theorem Ext.wr {S : Nat → Prop} {w w' w'' : World} {ρ ρ' : Nat → Nat} {B : Nat} (x : Ext S w w' ρ ρ') (k : Keeps (fun i => i = B) w' w'') (hB : w.heap.size ≤ B) : Ext S w w'' ρ ρ' :=
  ⟨x.keeps.trans' k (fun _ _ e => e) (fun i hi e => by omega), x.old, x.new⟩
/-- Five cells of a box that has no role. -/
structure B5 (w : World) (ρ : Nat → Nat) (B : Nat) (a b c d e : Value) : Prop where
  r : ρ B = 0
  c0 : w.cell? ⟨B, 0, none⟩ = some a
  c1 : w.cell? ⟨B, 1, none⟩ = some b
  c2 : w.cell? ⟨B, 2, none⟩ = some c
  c3 : w.cell? ⟨B, 3, none⟩ = some d
  c4 : w.cell? ⟨B, 4, none⟩ = some e
  z : ∀ o, w.frozen? ⟨B, o, none⟩ = false
theorem B5.lt {B : Nat} {a b c d e : Value} (h : B5 w ρ B a b c d e) : B < w.heap.size := World.block_lt_of_cell? _ _ h.c0
theorem B5.ext {S : Nat → Prop} {B : Nat} {a b c d e : Value} (h : B5 w ρ B a b c d e) (x : Ext S w w' ρ ρ') (hS : ¬ S 0) : B5 w' ρ' B a b c d e :=
  have n : ¬ S (ρ B) := by rw [h.r]; exact hS
  ⟨(x.old B h.lt).trans h.r, x.cell h.c0 n, x.cell h.c1 n, x.cell h.c2 n, x.cell h.c3 n, x.cell h.c4 n, fun o => (x.keeps.frozen (p := ⟨B, o, none⟩) h.lt n).trans (h.z o)⟩
theorem B5.set3 {B : Nat} {a b c d e : Value} (h : B5 w ρ B a b c d e) (v : Value) : B5 (w.setCell ⟨B, 3, none⟩ v) ρ B a b c v e := by
  have o : ∀ k u, k ≠ 3 → w.cell? ⟨B, k, none⟩ = some u → (w.setCell ⟨B, 3, none⟩ v).cell? ⟨B, k, none⟩ = some u := fun k u hk hu => by
    rw [World.cell?_setCell_other _ _ _ _ (fun e => by cases e; exact hk rfl)]; exact hu
  exact ⟨h.r, o _ _ (by decide) h.c0, o _ _ (by decide) h.c1, o _ _ (by decide) h.c2, World.cell?_setCell_same _ _ _ h.c3, o _ _ (by decide) h.c4, fun k => by rw [World.frozen?_setCell]; exact h.z k⟩
theorem B5.set4 {B : Nat} {a b c d e : Value} (h : B5 w ρ B a b c d e) (v : Value) : B5 (w.setCell ⟨B, 4, none⟩ v) ρ B a b c d v := by
  have o : ∀ k u, k ≠ 4 → w.cell? ⟨B, k, none⟩ = some u → (w.setCell ⟨B, 4, none⟩ v).cell? ⟨B, k, none⟩ = some u := fun k u hk hu => by
    rw [World.cell?_setCell_other _ _ _ _ (fun e => by cases e; exact hk rfl)]; exact hu
  exact ⟨h.r, o _ _ (by decide) h.c0, o _ _ (by decide) h.c1, o _ _ (by decide) h.c2, o _ _ (by decide) h.c3, World.cell?_setCell_same _ _ _ h.c4, fun k => by rw [World.frozen?_setCell]; exact h.z k⟩

set_option maxHeartbeats 1600000 in
set_option maxRecDepth 1000000 in
theorem begin_att (h : St w ρ u j wb mb s m) (hn : s.atts.length ≤ 70000) (hl : m.cells.length + 2 ≤ 65536) (th st pr x y sv : Int) :
    Calls Try.prog 27 #[.pointer (some ⟨wb, 0, none⟩), .agg #[.int .i64 th, .int .i64 st, .int .i64 pr, .int .i64 x, .int .i64 y], .int .i64 sv] w fun e w' =>
      e = .returned (.int .i64 (s.atts.length : Int)) ∧ ∃ ρ', St w' ρ' u j wb mb (s.beg th st pr m.cells.length) ((m.make sv).make 0) ∧ Ext (Sr u j) w w' ρ ρ' := by
  obtain ⟨w0, hw0⟩ : ∃ w0, w0 = w.alloc (.cells #[.int .i64 th, .int .i64 st, .int .i64 pr, .int .i64 x, .int .i64 y] 90) := ⟨_, rfl⟩
  have K0 : Keeps (fun _ => False) w w0 := by rw [hw0]; exact (Keeps.refl _ w).alloc _
  obtain ⟨h0, x0⟩ := h.new K0
  have nS := Sr.not0 h
  have b0 : B5 w0 ρ w.heap.size (.int .i64 th) (.int .i64 st) (.int .i64 pr) (.int .i64 x) (.int .i64 y) := by
    refine ⟨h.bnd _ (Nat.le_refl _), ?_, ?_, ?_, ?_, ?_, fun o => ?_⟩ <;> rw [hw0] <;> simp
  have hc1 := cell_any h0 sv (by omega)
  have n0 : w.heap.size = w.heap.size := rfl
  generalize hB : w.heap.size = B at b0 n0
  clear h K0
  go_enter Try.func27, Try.ntmps27
  go_wp2_with fail
  rw [← hw0]
  clear hw0
  refine hc1.mono ?_
  clear hc1
  rintro e w1 ⟨rfl, ρ1, h1, x1⟩
  have b1 := b0.ext x1 nS
  obtain ⟨w2, hw2⟩ : ∃ w2, w2 = w1.setCell ⟨B, 3, none⟩ (.int .i64 (m.cells.length : Int)) := ⟨_, rfl⟩
  have b2 := b1.set3 (.int .i64 (m.cells.length : Int))
  have k2 := keeps_set w1 B 3 (.int .i64 (m.cells.length : Int))
  rw [← hw2] at b2 k2
  have h2 := h1.wr k2 b1.r
  have f3 := b1.c3
  have z3 := b1.z 3
  have hc2 := cell_any h2 0 (by simp [Mm.make]; omega)
  have eq1 : ((m.make sv).cells.length : Int) = (m.cells.length : Int) + 1 := by simp [Mm.make]
  rw [eq1] at hc2
  clear h1 b0
  subst hB
  go_wp2_with fail
  rw [← hw2]
  clear hw2 f3 z3
  refine hc2.mono ?_
  clear hc2
  rintro e w3 ⟨rfl, ρ3, h3, x3⟩
  have b3 := b2.ext x3 nS
  obtain ⟨w4, hw4⟩ : ∃ w4, w4 = w3.setCell ⟨w.heap.size, 4, none⟩ (.int .i64 ((m.cells.length : Int) + 1)) := ⟨_, rfl⟩
  have b4 := b3.set4 (.int .i64 ((m.cells.length : Int) + 1))
  have k4 := keeps_set w3 w.heap.size 4 (.int .i64 ((m.cells.length : Int) + 1))
  rw [← hw4] at b4 k4
  have h4 := h3.wr k4 b3.r
  have f4 := b3.c4
  have z4 := b3.z 4
  have hadd := fun (W : World) (k : Keeps (fun _ => False) w4 W) => sadda (h4.new k).1 hn ⟨th, st, pr, m.cells.length, m.cells.length + 1⟩
  have eq2 : ((m.cells.length + 1 : Nat) : Int) = (m.cells.length : Int) + 1 := by omega
  simp only [eq2] at hadd
  have KD : Keeps (fun _ => False) w4 w4.drew := (Keeps.refl _ w4).drew
  have xx : Ext (Sr u j) w w4 ρ ρ3 := ((((x0.trans x1).wr k2 (Nat.le_refl _)).trans x3).wr k4 (Nat.le_refl _))
  go_wp2_with fail
  rw [← hw4]
  clear hw4 f4 z4
  have d0 := b4.c0
  have d1 := b4.c1
  have d2 := b4.c2
  have d3 := b4.c3
  have d4 := b4.c4
  go_region_with (go_at_call 54; refine (hadd _ KD).mono ?_; rintro e w5 ⟨rfl, ρ5, h5, x5⟩)
  all_goals
    (try simp only [Exit.then])
    go_wp2_with fail
    go_ret
    exact ⟨rfl, ρ5, h5, (xx.trans (h4.new KD).2).trans x5⟩
set_option maxHeartbeats 1600000 in
set_option maxRecDepth 1000000 in
theorem lay_any (h : St w ρ u j wb mb s m) (hn : s.locs.length ≤ 70000) (hn' : s.vals.length ≤ 70000) (att old : Nat) (v : Vl) :
    Calls Try.prog 28 #[.pointer (some ⟨wb, 0, none⟩), .int .i64 (att : Int), .int .i64 (old : Int), .agg #[.int .i64 v.num, .int .i64 v.next, .bool v.dead]] w fun e w' =>
      e = .returned (.int .i64 (s.locs.length : Int)) ∧ ∃ ρ', St w' ρ' u j wb mb (s.lay att old v) m ∧ Ext (Sr u j) w w' ρ ρ' := by
  obtain ⟨w0, hw0⟩ : ∃ w0, w0 = w.alloc (.cells #[.int .i64 v.num, .int .i64 v.next, .bool v.dead] 52) := ⟨_, rfl⟩
  have K0 : Keeps (fun _ => False) w w0 := by rw [hw0]; exact (Keeps.refl _ w).alloc _
  obtain ⟨h0, x0⟩ := h.new K0
  have d0 : w0.cell? ⟨w.heap.size, 0, none⟩ = some (.int .i64 v.num) := by rw [hw0]; simp
  have d1 : w0.cell? ⟨w.heap.size, 1, none⟩ = some (.int .i64 v.next) := by rw [hw0]; simp
  have d2 : w0.cell? ⟨w.heap.size, 2, none⟩ = some (.bool v.dead) := by rw [hw0]; simp
  have KD : Keeps (fun _ => False) w0 w0.drew := (Keeps.refl _ w0).drew
  have hadd := saddv (h0.new KD).1 hn' v
  clear h K0
  go_enter Try.func28, Try.ntmps28
  go_wp2_with fail
  rw [← hw0]
  clear hw0
  go_region_with (go_at_call 55; refine hadd.mono ?_; rintro e w5 ⟨rfl, ρ5, h5, x5⟩)
  all_goals
    (try simp only [Exit.then])
    have hl := saddl h5 hn ⟨att, old, s.vals.length, false⟩
    have x6 := (x0.trans (h0.new KD).2).trans x5
    clear hadd d0 d1 d2 h0 h5
    go_wp2_with (go_at_call 56; refine hl.mono ?_; clear hl; rintro e w7 ⟨rfl, ρ7, h7, x7⟩)
    go_ret
    exact ⟨rfl, ρ7, h7, x6.trans x7⟩

end
end Go.Proofs.Ytdeiochjkbogpaa
namespace Go.Proofs.Ytdeiochjkbogpaa
open Go.RowKit

theorem weq (wb : Nat) : ∀ w : World, (binOp .eql 29 (.pointer (some ⟨wb, 0, none⟩)) (.pointer none)).run Try.prog w = .ok (.bool false) w := fun w => by kernel_rfl
theorem aeq (g o : Nat) : ∀ w : World, (binOp .eql 101 (.pointer (some ⟨g, o, none⟩)) (.pointer none)).run Try.prog w = .ok (.bool false) w := fun w => by kernel_rfl
theorem aeq0 : ∀ w : World, (binOp .eql 101 (.pointer none) (.pointer none)).run Try.prog w = .ok (.bool true) w := fun w => by kernel_rfl
theorem leq (g o : Nat) : ∀ w : World, (binOp .eql 97 (.pointer (some ⟨g, o, none⟩)) (.pointer none)).run Try.prog w = .ok (.bool false) w := fun w => by kernel_rfl
theorem leq0 : ∀ w : World, (binOp .eql 97 (.pointer none) (.pointer none)).run Try.prog w = .ok (.bool true) w := fun w => by kernel_rfl
theorem veq (g o : Nat) : ∀ w : World, (binOp .eql 105 (.pointer (some ⟨g, o, none⟩)) (.pointer none)).run Try.prog w = .ok (.bool false) w := fun w => by kernel_rfl
theorem veq0 : ∀ w : World, (binOp .eql 105 (.pointer none) (.pointer none)).run Try.prog w = .ok (.bool true) w := fun w => by kernel_rfl
theorem oeq (g o : Nat) : ∀ w : World, (binOp .eql 112 (.pointer (some ⟨g, o, none⟩)) (.pointer none)).run Try.prog w = .ok (.bool false) w := fun w => by kernel_rfl
theorem oeq0 : ∀ w : World, (binOp .eql 112 (.pointer none) (.pointer none)).run Try.prog w = .ok (.bool true) w := fun w => by kernel_rfl

section
variable {w w' : World} {ρ ρ' : Nat → Nat} {u j wb mb : Nat} {s s' : Ws} {m m' : Mm} {vo va vl vn : Value}
/-- What lies in the lists. -/
theorem WV.att (h : WV w ρ j wb mb s vo va vl vn) {i : Nat} (hi : i < s.atts.length) : ∃ g, va.ownBlock = some g ∧ ρ g = j + 2 ∧ g < w.heap.size ∧ w.cell? ⟨g, i * 5, none⟩ = some (.int .i64 (s.att i).thread) ∧ w.cell? ⟨g, i * 5 + 1, none⟩ = some (.int .i64 (s.att i).stamp) ∧ w.cell? ⟨g, i * 5 + 2, none⟩ = some (.int .i64 (s.att i).prio) ∧ w.cell? ⟨g, i * 5 + 3, none⟩ = some (.int .i64 ((s.att i).status : Int)) ∧ w.cell? ⟨g, i * 5 + 4, none⟩ = some (.int .i64 ((s.att i).flag : Int)) := by
  obtain ⟨a, cap, _, hs⟩ := h.pa.slice
  obtain ⟨g, _, hg, hr⟩ := hs (by omega)
  have q : ∀ {k : Nat} {v : Value}, (ac (s.att i))[k]? = some v → w.cell? ⟨g, i * 5 + k, none⟩ = some v := fun e => pool_cell ac_len h.pa hg (getD_get (d := at0) hi) e
  exact ⟨g, hg, hr, owns_lt' h.pa.row g hg, q (k := 0) rfl, q (k := 1) rfl, q (k := 2) rfl, q (k := 3) rfl, q (k := 4) rfl⟩
theorem WV.loc (h : WV w ρ j wb mb s vo va vl vn) {i : Nat} (hi : i < s.locs.length) : ∃ g, vl.ownBlock = some g ∧ ρ g = j + 3 ∧ g < w.heap.size ∧ w.cell? ⟨g, i * 4, none⟩ = some (.int .i64 ((s.lo i).owner : Int)) ∧ w.cell? ⟨g, i * 4 + 1, none⟩ = some (.int .i64 ((s.lo i).old : Int)) ∧ w.cell? ⟨g, i * 4 + 2, none⟩ = some (.int .i64 ((s.lo i).new : Int)) ∧ w.cell? ⟨g, i * 4 + 3, none⟩ = some (.bool (s.lo i).used) := by
  obtain ⟨a, cap, _, hs⟩ := h.pl.slice
  obtain ⟨g, _, hg, hr⟩ := hs (by omega)
  have q : ∀ {k : Nat} {v : Value}, (lc (s.lo i))[k]? = some v → w.cell? ⟨g, i * 4 + k, none⟩ = some v := fun e => pool_cell lc_len h.pl hg (getD_get (d := lo0) hi) e
  exact ⟨g, hg, hr, owns_lt' h.pl.row g hg, q (k := 0) rfl, q (k := 1) rfl, q (k := 2) rfl, q (k := 3) rfl⟩
theorem WV.ver (h : WV w ρ j wb mb s vo va vl vn) {i : Nat} (hi : i < s.vals.length) : ∃ g, vn.ownBlock = some g ∧ ρ g = j + 4 ∧ g < w.heap.size ∧ w.cell? ⟨g, i * 3, none⟩ = some (.int .i64 (s.vl i).num) ∧ w.cell? ⟨g, i * 3 + 1, none⟩ = some (.int .i64 (s.vl i).next) ∧ w.cell? ⟨g, i * 3 + 2, none⟩ = some (.bool (s.vl i).dead) := by
  obtain ⟨a, cap, _, hs⟩ := h.pv.slice
  obtain ⟨g, _, hg, hr⟩ := hs (by omega)
  have q : ∀ {k : Nat} {v : Value}, (vc3 (s.vl i))[k]? = some v → w.cell? ⟨g, i * 3 + k, none⟩ = some v := fun e => pool_cell vc3_len h.pv hg (getD_get (d := vl0) hi) e
  exact ⟨g, hg, hr, owns_lt' h.pv.row g hg, q (k := 0) rfl, q (k := 1) rfl, q (k := 2) rfl⟩
theorem WV.obj (h : WV w ρ j wb mb s vo va vl vn) {i : Nat} (hi : i < s.objs.length) : ∃ g, vo.ownBlock = some g ∧ ρ g = j + 1 ∧ g < w.heap.size ∧ w.cell? ⟨g, i * 1, none⟩ = some (.int .i64 (s.ob i : Int)) := by
  obtain ⟨a, cap, _, hs⟩ := h.po.slice
  obtain ⟨g, _, hg, hr⟩ := hs (by omega)
  have q : ∀ {k : Nat} {v : Value}, (oc (s.ob i))[k]? = some v → w.cell? ⟨g, i * 1 + k, none⟩ = some v := fun e => pool_cell oc_len h.po hg (getD_get (d := 0) hi) e
  exact ⟨g, hg, hr, owns_lt' h.po.row g hg, q (k := 0) rfl⟩

set_option maxHeartbeats 800000 in
set_option maxRecDepth 1000000 in
theorem attempt_ok (h : WV w ρ j wb mb s vo va vl vn) {i g : Nat} (hi : i < s.atts.length) (hg : va.ownBlock = some g) :
    Calls Try.prog 33 #[.pointer (some ⟨wb, 0, none⟩), .int .i64 (i : Int)] w fun e w' => e = .returned (.pointer (some ⟨g, i * 5, none⟩)) ∧ w = w' := by
  have ha := atA h.pa hi hg
  have hp := weq wb
  clear h
  go_enter Try.func33, Try.ntmps33
  go_wp2_with (go_at_call 58; refine ha.mono ?_; rintro e w' ⟨rfl, rfl⟩)
  go_ret
  exact ⟨rfl, rfl⟩
set_option maxHeartbeats 800000 in
set_option maxRecDepth 1000000 in
theorem attempt_no (h : WV w ρ j wb mb s vo va vl vn) {i : Int} (hi : i < 0 ∨ (s.atts.length : Int) ≤ i) :
    Calls Try.prog 33 #[.pointer (some ⟨wb, 0, none⟩), .int .i64 i] w fun e w' => e = .returned (.pointer none) ∧ w = w' := by
  have ha := atNotA h.pa hi
  have hp := weq wb
  clear h
  go_enter Try.func33, Try.ntmps33
  go_wp2_with (go_at_call 58; refine ha.mono ?_; rintro e w' ⟨rfl, rfl⟩)
  go_ret
  exact ⟨rfl, rfl⟩
set_option maxHeartbeats 800000 in
set_option maxRecDepth 1000000 in
theorem locator_ok (h : WV w ρ j wb mb s vo va vl vn) {i g : Nat} (hi : i < s.locs.length) (hg : vl.ownBlock = some g) :
    Calls Try.prog 37 #[.pointer (some ⟨wb, 0, none⟩), .int .i64 (i : Int)] w fun e w' => e = .returned (.pointer (some ⟨g, i * 4, none⟩)) ∧ w = w' := by
  have ha := atL h.pl hi hg
  have hp := weq wb
  clear h
  go_enter Try.func37, Try.ntmps37
  go_wp2_with (go_at_call 29; refine ha.mono ?_; rintro e w' ⟨rfl, rfl⟩)
  go_ret
  exact ⟨rfl, rfl⟩
set_option maxHeartbeats 800000 in
set_option maxRecDepth 1000000 in
theorem locator_no (h : WV w ρ j wb mb s vo va vl vn) {i : Int} (hi : i < 0 ∨ (s.locs.length : Int) ≤ i) :
    Calls Try.prog 37 #[.pointer (some ⟨wb, 0, none⟩), .int .i64 i] w fun e w' => e = .returned (.pointer none) ∧ w = w' := by
  have ha := atNotL h.pl hi
  have hp := weq wb
  clear h
  go_enter Try.func37, Try.ntmps37
  go_wp2_with (go_at_call 29; refine ha.mono ?_; rintro e w' ⟨rfl, rfl⟩)
  go_ret
  exact ⟨rfl, rfl⟩

/-- Whether an attempt has committed. -/
def Ws.isC (s : Ws) (m : Mm) (a : Nat) : Bool := decide ((ca m.cells (s.att a).status).2 = 2)
theorem WV.new (h : WV w ρ j wb mb s vo va vl vn) (hb : Bnd w ρ) (k : Keeps (fun _ => False) w w') : WV w' ρ j wb mb s vo va vl vn := h.ext (Ext.alloc (S := fun _ => False) hb k).1 (fun _ _ _ e => e)
set_option maxHeartbeats 1600000 in
set_option maxRecDepth 1000000 in
theorem committed_any (h : St w ρ u j wb mb s m) {i : Nat} (hi : i < s.atts.length) (hc : (s.att i).status < m.cells.length) :
    Calls Try.prog 35 #[.pointer (some ⟨wb, 0, none⟩), .int .i64 (i : Int)] w fun e w' => e = .returned (.bool (s.isC m i)) ∧ Keeps (fun _ => False) w w' := by
  obtain ⟨vo, va, vl, vn, hw⟩ := h.wj
  obtain ⟨g, hg, hr, hl, _, _, _, d3, _⟩ := hw.att hi
  have ha : ∀ U : KS w, _ := fun U => atA (hw.new h.bnd U.property).pa hi hg
  have hpk : ∀ U : KS w, _ := fun U => speek (h.new U.property).1 hc
  have d3' := ks_cell d3
  have f0' := ks_cell hw.mem
  have hNE : Nonempty (KS w) := ⟨⟨w, Keeps.refl _ w⟩⟩
  clear h hw d3
  show Calls _ _ _ _ fun e w' => e = .returned (.bool (decide ((ca m.cells (s.att i).status).2 = 2))) ∧ _
  generalize (ca m.cells (s.att i).status).2 = x at *
  go_enter Try.func35, Try.ntmps35
  go_wp2_with fail
  refine wp_region_ks (by kernel_rfl) (by kernel_rfl) ?_
  repeat (go_big_quiet_step (first | (go_at_call 58; refine (ha _).mono ?_; rintro e w2 ⟨rfl, rfl⟩; exact ⟨rfl, _, rfl⟩) | (go_at_call 43; refine (hpk _).mono ?_; rintro e w2 ⟨rfl, rfl⟩; exact ⟨rfl, _, rfl⟩)))
  refine wpQuiet_nil ?_
  rintro _ ⟨U, rfl⟩
  go_wp2_with fail
  go_ret
  exact ⟨rfl, U.property⟩
end
end Go.Proofs.Ytdeiochjkbogpaa
namespace Go.Proofs.Ytdeiochjkbogpaa
open Go.RowKit

/-- The locator in an object's cell, the version that is current, its value. -/
def Ws.at_ (s : Ws) (m : Mm) (o : Nat) : Nat := (ca m.cells (s.ob o)).2.toNat
def Ws.now (s : Ws) (m : Mm) (o : Nat) : Nat := if s.isC m (s.lo (s.at_ m o)).owner then (s.lo (s.at_ m o)).new else (s.lo (s.at_ m o)).old
def Ws.value (s : Ws) (m : Mm) (o : Nat) : Vl := s.vl (s.now m o)
def Ws.com (s : Ws) (m : Mm) : List Vl := (List.range s.objs.length).map (s.value m)

/-- What every world keeps to. -/
structure Wf (s : Ws) (m : Mm) : Prop where
  vl : s.vals.length = s.locs.length
  lo : ∀ i, i < s.locs.length → (s.lo i).new = i ∧ (s.lo i).old < s.locs.length ∧ (s.lo i).owner < s.atts.length
  at_ : ∀ i, i < s.atts.length → (s.att i).status < m.cells.length ∧ (s.att i).flag < m.cells.length
  ob : ∀ i, i < s.objs.length → s.ob i < m.cells.length ∧ (ca m.cells (s.ob i)).2 = (s.at_ m i : Int) ∧ s.at_ m i < s.locs.length
  na : s.atts.length ≤ 16384
  nl : s.locs.length ≤ 16384
  no : s.objs.length ≤ 80
  a1 : 1 ≤ s.atts.length

theorem keeps_set3 (w : World) (b : Nat) (x y z : Value) : Keeps (fun k => k = b) w (((w.setCell ⟨b, 0, none⟩ x).setCell ⟨b, 1, none⟩ y).setCell ⟨b, 2, none⟩ z) :=
  ((keeps_set _ _ _ _).trans (keeps_set _ _ _ _)).trans (keeps_set _ _ _ _)
section
variable {w w' : World} {ρ ρ' : Nat → Nat} {u j wb mb : Nat} {s s' : Ws} {m m' : Mm} {vo va vl vn : Value}
set_option maxHeartbeats 1600000 in
set_option maxRecDepth 1000000 in
theorem value_any (h : St w ρ u j wb mb s m) (f : Wf s m) {i : Nat} (hi : i < s.objs.length) :
    Calls Try.prog 20 #[.pointer (some ⟨wb, 0, none⟩), .int .i64 (i : Int)] w fun e w' => e = .returned (vv (s.value m i)) ∧ Keeps (fun _ => False) w w' := by
  obtain ⟨hoc, hov, hol⟩ := f.ob i hi
  obtain ⟨hnew, hold, hown⟩ := f.lo _ hol
  have hsc := (f.at_ _ hown).1
  have hvn : s.now m i < s.vals.length := by
    rw [f.vl]; unfold Ws.now; split
    · rw [hnew]; exact hol
    · exact hold
  have now1 : s.isC m (s.lo (s.at_ m i)).owner = true → s.now m i = (s.lo (s.at_ m i)).new := fun e => by simp [Ws.now, e]
  have now0 : s.isC m (s.lo (s.at_ m i)).owner = false → s.now m i = (s.lo (s.at_ m i)).old := fun e => by simp [Ws.now, e]
  show Calls _ _ _ _ fun e w' => e = .returned (vv (s.vl (s.now m i))) ∧ _
  obtain ⟨w0, hw0⟩ : ∃ w0, w0 = w.alloc (.cells #[.int .i64 0, .int .i64 0, .bool false] 52) := ⟨_, rfl⟩
  have K0 : Keeps (fun _ => False) w w0 := by rw [hw0]; exact (Keeps.refl _ w).alloc _
  have b0 : w0.cell? ⟨w.heap.size, 0, none⟩ = some (.int .i64 0) := by rw [hw0]; simp
  have b1 : w0.cell? ⟨w.heap.size, 1, none⟩ = some (.int .i64 0) := by rw [hw0]; simp
  have b2 : w0.cell? ⟨w.heap.size, 2, none⟩ = some (.bool false) := by rw [hw0]; simp
  have bz : ∀ o, w0.frozen? ⟨w.heap.size, o, none⟩ = false := by intro o; rw [hw0]; simp
  have h0 := (h.new K0).1
  have bl : w.heap.size < w0.heap.size := by rw [hw0]; simp
  obtain ⟨vo, va, vl, vn, hw⟩ := h0.wj
  obtain ⟨go, hgo, _, _, do0⟩ := hw.obj hi
  obtain ⟨gl, hgl, rl, _, l0, l1, l2, _⟩ := hw.loc hol
  obtain ⟨gv, hgv, rv, lv, v0, v1, v2⟩ := hw.ver hvn
  have ngv : ¬ gv = w.heap.size := fun e => by rw [e, h.bnd _ (Nat.le_refl _)] at rv; omega
  have ngl : ¬ gl = w.heap.size := fun e => by rw [e, h.bnd _ (Nat.le_refl _)] at rl; omega
  have ngl' : ¬ w.heap.size = gl := fun e => ngl e.symm
  have ngv' : ¬ w.heap.size = gv := fun e => ngv e.symm
  have ha : ∀ U : KS w0, _ := fun U => atO (hw.new h0.bnd U.property).po hi hgo
  simp only [Nat.mul_one] at ha do0
  have hpk : ∀ U : KS w0, _ := fun U => speek (h0.new U.property).1 hoc
  rw [hov] at hpk
  have hal : ∀ U : KS w0, _ := fun U => atL (hw.new h0.bnd U.property).pl hol hgl
  have hco : ∀ U : KS w0, _ := fun U => committed_any (h0.new U.property).1 hown hsc
  have hav : ∀ (W : World) (k : Keeps (fun _ => False) w0 W), _ := fun W k => atV (hw.new h0.bnd k).pv hvn hgv
  have d0' := ks_cell do0
  have f0' := ks_cell hw.mem
  have hNE : Nonempty (KS w0) := ⟨⟨w0, Keeps.refl _ w0⟩⟩
  have hq := leq gl (s.at_ m i * 4)
  generalize hat : s.at_ m i = at_ at *
  generalize hc : s.isC m (s.lo at_).owner = cc at *
  generalize s.now m i = nw at *
  generalize s.vl nw = V at *
  generalize s.lo at_ = L at *
  clear h hw hov hnew hat
  go_enter Try.func20, Try.ntmps20
  go_wp2_with fail
  rw [← hw0]
  clear hw0
  refine wp_region_ks (by kernel_rfl) (by kernel_rfl) ?_
  repeat (go_big_quiet_step (first | (go_at_call 44; refine (ha _).mono ?_; rintro e w2 ⟨rfl, rfl⟩; exact ⟨rfl, _, rfl⟩) | (go_at_call 43; refine (hpk _).mono ?_; rintro e w2 ⟨rfl, rfl⟩; exact ⟨rfl, _, rfl⟩)))
  refine wpQuiet_nil ?_
  rintro _ ⟨U, rfl⟩
  have l0' := U.property.cell l0 (fun e => e)
  cases cc with
  | true =>
    obtain rfl := now1 rfl
    go_wp2_with (first | (go_at_call 29; refine (hal U).mono ?_; rintro e w2 ⟨rfl, rfl⟩) | (go_at_call 35; refine (hco U).mono ?_; rintro e w2 ⟨rfl, k2⟩))
    have K2 := U.property.trans k2
    have KD := K2.drew
    replace l2 := K2.cell l2 (fun e => e)
    replace b0 := K2.cell b0 (fun e => e)
    replace b1 := K2.cell b1 (fun e => e)
    replace b2 := K2.cell b2 (fun e => e)
    replace v0 := K2.cell v0 (fun e => e)
    replace v1 := K2.cell v1 (fun e => e)
    replace v2 := K2.cell v2 (fun e => e)
    have bz' : ∀ o, w2.frozen? ⟨w.heap.size, o, none⟩ = false := fun o => (K2.frozen (p := ⟨w.heap.size, o, none⟩) bl (fun e => e)).trans (bz o)
    have z0 := bz' 0
    have z1 := bz' 1
    have z2 := bz' 2
    clear ha hpk hal hco d0' f0' hNE l0 l0' bz bz'
    go_region_held3 (fun w' => w'.cell? ⟨gl, at_ * 4 + 2, none⟩ = some (.int .i64 (L.new : Int)) ∧ w'.cell? ⟨gv, L.new * 3, none⟩ = some (.int .i64 V.num) ∧ w'.cell? ⟨gv, L.new * 3 + 1, none⟩ = some (.int .i64 V.next) ∧ w'.cell? ⟨gv, L.new * 3 + 2, none⟩ = some (.bool V.dead)) (go_keep) ((go_at_call 38; refine (hav _ KD).mono ?_; rintro e w3 ⟨rfl, rfl⟩))
    all_goals
      (try simp only [Exit.then])
      go_wp2_with fail
      (try simp only [Exit.inBlock, Exit.then])
      refine bodyPost_ret (v := .agg #[.int .i64 V.num, .int .i64 V.next, .bool V.dead]) ?_ rfl ⟨rfl, ?_⟩
      · simp [results, Try.f20, go_sem, b0, b1, b2]
      · exact K0.trans' ((K2.drew).trans' (keeps_set3 _ w.heap.size _ _ _) (S := fun _ => False) (U := fun i => i = w.heap.size) (fun _ _ e => e.elim) (fun _ _ e => e)) (fun _ _ e => e) (fun i hi e => by omega)
  | false =>
    obtain rfl := now0 rfl
    go_wp2_with (first | (go_at_call 29; refine (hal U).mono ?_; rintro e w2 ⟨rfl, rfl⟩) | (go_at_call 35; refine (hco U).mono ?_; rintro e w2 ⟨rfl, k2⟩))
    have K2 := U.property.trans k2
    have KD := K2.drew
    replace l1 := K2.cell l1 (fun e => e)
    replace b0 := K2.cell b0 (fun e => e)
    replace b1 := K2.cell b1 (fun e => e)
    replace b2 := K2.cell b2 (fun e => e)
    replace v0 := K2.cell v0 (fun e => e)
    replace v1 := K2.cell v1 (fun e => e)
    replace v2 := K2.cell v2 (fun e => e)
    have bz' : ∀ o, w2.frozen? ⟨w.heap.size, o, none⟩ = false := fun o => (K2.frozen (p := ⟨w.heap.size, o, none⟩) bl (fun e => e)).trans (bz o)
    have z0 := bz' 0
    have z1 := bz' 1
    have z2 := bz' 2
    clear ha hpk hal hco d0' f0' hNE l0 l0' bz bz'
    go_region_held3 (fun w' => w'.cell? ⟨gl, at_ * 4 + 1, none⟩ = some (.int .i64 (L.old : Int)) ∧ w'.cell? ⟨gv, L.old * 3, none⟩ = some (.int .i64 V.num) ∧ w'.cell? ⟨gv, L.old * 3 + 1, none⟩ = some (.int .i64 V.next) ∧ w'.cell? ⟨gv, L.old * 3 + 2, none⟩ = some (.bool V.dead)) (go_keep) ((go_at_call 38; refine (hav _ KD).mono ?_; rintro e w3 ⟨rfl, rfl⟩))
    all_goals
      (try simp only [Exit.then])
      go_wp2_with fail
      (try simp only [Exit.inBlock, Exit.then])
      refine bodyPost_ret (v := .agg #[.int .i64 V.num, .int .i64 V.next, .bool V.dead]) ?_ rfl ⟨rfl, ?_⟩
      · simp [results, Try.f20, go_sem, b0, b1, b2]
      · exact K0.trans' ((K2.drew).trans' (keeps_set3 _ w.heap.size _ _ _) (S := fun _ => False) (U := fun i => i = w.heap.size) (fun _ _ e => e.elim) (fun _ _ e => e)) (fun _ _ e => e) (fun i hi e => by omega)
end
end Go.Proofs.Ytdeiochjkbogpaa
namespace Go.Proofs.Ytdeiochjkbogpaa
open Go.RowKit

theorem madeVals (n : Nat) : (madeCells #[.int .i64 0, .int .i64 0, .bool false] (n * 3)).toList = fl vc3 (List.replicate n vl0) := by
  apply List.ext_getElem?
  intro j
  have hl : (fl vc3 (List.replicate n vl0)).length = n * 3 := by rw [fl_length vc3_len]; simp
  by_cases hj : j < n * 3
  · have hi : j / 3 < n := by omega
    have e := fl_get vc3_len (List.replicate n vl0) (j / 3) (j % 3) (by omega)
    rw [show j / 3 * 3 + j % 3 = j by omega] at e
    rw [e, List.getElem?_replicate, if_pos hi]
    have h3 : j % 3 = 0 ∨ j % 3 = 1 ∨ j % 3 = 2 := by omega
    rcases h3 with h | h | h <;> simp [madeCells, hj, h, vc3, vl0]
  · rw [List.getElem?_eq_none (by rw [Array.length_toList, size_madeCells]; omega), List.getElem?_eq_none (by omega)]

def set3 (W : World) (g o : Nat) (x : Vl) : World := ((W.setCell ⟨g, o, none⟩ (.int .i64 x.num)).setCell ⟨g, o + 1, none⟩ (.int .i64 x.next)).setCell ⟨g, o + 2, none⟩ (.bool x.dead)
theorem set3_keeps (W : World) (g o : Nat) (x : Vl) : Keeps (fun k => k = g) W (set3 W g o x) := ((keeps_set _ _ _ _).trans (keeps_set _ _ _ _)).trans (keeps_set _ _ _ _)
/-- A value is written into a row. -/
theorem stv {W : World} {base e g n cap : Nat} {L : List Vl} {i : Nat} (own : W.ownsRow base e 3 (.slice (some ⟨g, 0, none⟩) n cap) n (fl vc3 L)) (hi : i < L.length) (x : Vl) :
    (set3 W g (i * 3) x).ownsRow base e 3 (.slice (some ⟨g, 0, none⟩) n cap) n (fl vc3 (L.set i x)) := by
  have e1 := fl_set vc3_len L i 0 (L.getD i vl0) ⟨x.num, (L.getD i vl0).next, (L.getD i vl0).dead⟩ (.int .i64 x.num) (getD_get hi) (by omega) rfl
  have h1 := (own.stored (i * 3) (.int .i64 x.num)).1
  rw [show i * 3 = i * 3 + 0 from rfl, ← e1] at h1
  have q1 : (L.set i ⟨x.num, (L.getD i vl0).next, (L.getD i vl0).dead⟩)[i]? = some ⟨x.num, (L.getD i vl0).next, (L.getD i vl0).dead⟩ := by rw [List.getElem?_set_self hi]
  have e2 := fl_set vc3_len _ i 1 _ ⟨x.num, x.next, (L.getD i vl0).dead⟩ (.int .i64 x.next) q1 (by omega) rfl
  have h2 := (h1.stored (i * 3 + 1) (.int .i64 x.next)).1
  rw [← e2, List.set_set] at h2
  have q2 : (L.set i ⟨x.num, x.next, (L.getD i vl0).dead⟩)[i]? = some ⟨x.num, x.next, (L.getD i vl0).dead⟩ := by rw [List.getElem?_set_self hi]
  have e3 := fl_set vc3_len _ i 2 _ x (.bool x.dead) q2 (by omega) rfl
  have h3 := (h2.stored (i * 3 + 2) (.bool x.dead)).1
  rw [← e3, List.set_set] at h3
  exact h3

theorem infoV' : (Try.prog.info? 52).map (fun i => (i.zero, i.size, i.bytes)) = some (some (.agg #[.int .i64 0, .int .i64 0, .bool false]), 3, 24) := by kernel_rfl

section
variable {w w' : World} {ρ ρ' : Nat → Nat} {u j wb mb : Nat} {s s' : Ws} {m m' : Mm} {vo va vl vn : Value}
set_option maxHeartbeats 800000 in
set_option maxRecDepth 1000000 in
theorem objects_any (h : St w ρ u j wb mb s m) :
    Calls Try.prog 19 #[.pointer (some ⟨wb, 0, none⟩)] w fun e w' => e = .returned (.int .i64 (s.objs.length : Int)) ∧ w = w' := by
  obtain ⟨vo, va, vl, vn, hw⟩ := h.wj
  have hs := sizeO hw.po
  have hp := weq wb
  clear h hw
  go_enter Try.func19, Try.ntmps19
  go_wp2_with (go_at_call 42; refine hs.mono ?_; rintro e w' ⟨rfl, rfl⟩)
  go_ret
  exact ⟨rfl, rfl⟩

set_option maxHeartbeats 3200000 in
set_option maxRecDepth 1000000 in
theorem com_any (h : St w ρ u j wb mb s m) (f : Wf s m) :
    Calls Try.prog 6 #[.pointer (some ⟨wb, 0, none⟩)] w fun e w' => e = .returned (.slice (some ⟨w.heap.size, 0, none⟩) s.objs.length s.objs.length) ∧
      w'.ownsRow w.heap.size 52 3 (.slice (some ⟨w.heap.size, 0, none⟩) s.objs.length s.objs.length) s.objs.length (fl vc3 (s.com m)) ∧ Keeps (fun _ => False) w w' := by
  obtain ⟨i0, hi0, hz0, hz1, hz2⟩ := info_parts infoV'
  have hno := f.no
  have ho := objects_any h
  have hV : ∀ (W : World) (_ : Keeps (fun _ => False) w W) (i : Nat) (_ : i < s.objs.length), _ := fun W k i hi => value_any (h.new k).1 f hi
  have HV : Hid (∀ (W : World) (_ : Keeps (fun _ => False) w W) (i : Nat) (_ : i < s.objs.length), Calls Try.prog 20 #[.pointer (some ⟨wb, 0, none⟩), .int .i64 (i : Int)] W fun e w' => e = .returned (vv (s.value m i)) ∧ Keeps (fun _ => False) W w') := hV
  have hcom : Hid (s.com m = (List.range s.objs.length).map (s.value m)) := rfl
  clear hV h f
  generalize s.objs.length = n at *
  have hmk : ∀ W : World, (Instr.makeSlice 27 (.int .i64 (n : Int)) (.int .i64 (n : Int))).run Try.prog W = .ok (.slice (some ⟨W.heap.size, 0, none⟩) n n) (W.alloc (.cells (madeCells #[.int .i64 0, .int .i64 0, .bool false] (n * 3)) 52)) := fun W => by
    have := run_make (P := Try.prog) W 27 52 i0 _ underV hi0 hz0 .i64 .i64 n n (by omega) (by omega) (by rw [hz2]; omega) (by omega)
    rw [hz1] at this
    simpa [Value.cells] using this
  have K0 : Keeps (fun _ => False) w (w.alloc (.cells (madeCells #[.int .i64 0, .int .i64 0, .bool false] (n * 3)) 52)) := (Keeps.refl _ w).alloc _
  have own0 : (w.alloc (.cells (madeCells #[.int .i64 0, .int .i64 0, .bool false] (n * 3)) 52)).ownsRow w.heap.size 52 3 (.slice (some ⟨w.heap.size, 0, none⟩) n n) n (fl vc3 (List.replicate n vl0)) := by
    have := World.ownsRow_lit (base := w.heap.size) (e := 52) (size := 3) w (madeCells #[.int .i64 0, .int .i64 0, .bool false] (n * 3)) n (Nat.le_refl _) (by unfold maxLen; omega) (by simp [size_madeCells])
    rw [madeVals] at this; exact this
  go_enter Try.func6, Try.ntmps6
  go_wp2_with (go_at_call 19; refine ho.mono ?_; clear ho; rintro e w' ⟨rfl, rfl⟩)
  clear hmk
  go_loopw [10] (fun iv wr => ∃ (i : Nat) (L : List Vl), iv = .int .i64 (i : Int) ∧ i ≤ n ∧ L.length = n ∧ Hid (∀ k, k < i → L[k]? = some (s.value m k)) ∧ wr.ownsRow w.heap.size 52 3 (.slice (some ⟨w.heap.size, 0, none⟩) n n) n (fl vc3 L) ∧ Keeps (fun _ => False) w wr) (fun iv _ => n - (intOf iv).toNat)
  case atStart => exact ⟨0, List.replicate n vl0, rfl, Nat.zero_le _, by simp, (fun k hk => by omega), own0, K0⟩
  case round =>
    clear own0 K0
    obtain ⟨i, L, rfl, hin, hL, hv, own, hk⟩ := hrel
    by_cases hlt : i < n
    · have hltI : (i : Int) < (n : Int) := by omega
      have hiL : i < L.length := by omega
      have A := HV.out wr hk i hlt
      obtain ⟨x, hx⟩ : ∃ x, Hid (s.value m i = x) := ⟨_, rfl⟩
      rw [show s.value m i = x from hx] at A
      have HL : Hid (L.length = n) := hL
      have HK : Hid (Keeps (fun _ => False) w wr) := hk
      clear hL hk
      have wl := HK.out.size
      go_wp2_with (go_at_call 20; refine A.mono ?_; clear A; rintro e w2 ⟨rfl, k2⟩; have own2 := k2.owns own (fun _ _ e => e); have z0 := own2.frozenAt (i * 3); have z1 := own2.frozenAt (i * 3 + 1); have z2 := own2.frozenAt (i * 3 + 2); have c0 := owns_cell own2 rfl (j := i * 3) (u := .int .i64 (L.getD i vl0).num) (by have := fl_get vc3_len L i 0 (by omega); rw [getD_get (d := vl0) hiL] at this; exact this); have c1 := owns_cell own2 rfl (j := i * 3 + 1) (u := .int .i64 (L.getD i vl0).next) (by have := fl_get vc3_len L i 1 (by omega); rw [getD_get (d := vl0) hiL] at this; exact this); have c2 := owns_cell own2 rfl (j := i * 3 + 2) (u := .bool (L.getD i vl0).dead) (by have := fl_get vc3_len L i 2 (by omega); rw [getD_get (d := vl0) hiL] at this; exact this); simp only [vv])
      have own3 := stv own2 hiL x
      go_roundw
      case rel =>
        refine ⟨i + 1, L.set i x, by go_num, by omega, by rw [List.length_set]; exact HL.out, fun k hk => ?_, own3, HK.out.trans' (k2.trans' (set3_keeps w2 w.heap.size (i * 3) x) (U := fun k => k = w.heap.size) (fun _ _ e => e.elim) (fun _ _ e => e)) (fun _ _ e => e) (fun a ha e => by omega)⟩
        rw [List.getElem?_set]
        by_cases e : i = k
        · subst e; rw [if_pos rfl, if_pos hiL, ← hx.out]
        · rw [if_neg e]; exact hv.out k (by omega)
      case measure => simp [intOf]; omega
    · have hltI : ¬ (i : Int) < (n : Int) := by omega
      have e : L = s.com m := by
        rw [hcom.out]
        apply List.ext_getElem?
        intro k
        by_cases hk' : k < n
        · rw [hv.out k (by omega)]; simp [hk']
        · rw [List.getElem?_eq_none (by omega), List.getElem?_eq_none (by simp; omega)]
      rw [e] at own
      clear e hL
      go_wp2_with fail
      go_ret
      exact ⟨rfl, own, hk⟩
end
end Go.Proofs.Ytdeiochjkbogpaa
namespace Go.Proofs.Ytdeiochjkbogpaa
open Go.RowKit
section
variable {w w' : World} {ρ ρ' : Nat → Nat} {u j wb mb : Nat} {s s' : Ws} {m m' : Mm} {vo va vl vn : Value}
/-- Whether there is room for an attempt. -/
def Ws.roomA (s : Ws) (m : Mm) : Bool := decide (s.atts.length < 16384) && decide (m.cells.length + 2 ≤ 65536)
set_option maxHeartbeats 1600000 in
set_option maxRecDepth 1000000 in
theorem Attempt_ok (h : St w ρ u j wb mb s m) (hr : s.roomA m = true) (th st pr : Int) :
    Calls Try.prog 13 #[.pointer (some ⟨wb, 0, none⟩), .agg #[.int .i64 th, .int .i64 st, .int .i64 pr]] w fun e w' =>
      e = .returned (.tuple #[.int .i64 (s.atts.length : Int), .int .i64 0]) ∧ ∃ ρ', St w' ρ' u j wb mb (s.beg th st pr m.cells.length) ((m.make 1).make 0) ∧ Ext (Sr u j) w w' ρ ρ' := by
  simp only [Ws.roomA, Bool.and_eq_true, decide_eq_true_eq] at hr
  obtain ⟨h1, h2⟩ := hr
  obtain ⟨w0, hw0⟩ : ∃ w0, w0 = w.alloc (.cells #[.int .i64 th, .int .i64 st, .int .i64 pr] 57) := ⟨_, rfl⟩
  have K0 : Keeps (fun _ => False) w w0 := by rw [hw0]; exact (Keeps.refl _ w).alloc _
  have c0 : w0.cell? ⟨w.heap.size, 0, none⟩ = some (.int .i64 th) := by rw [hw0]; simp
  have c1 : w0.cell? ⟨w.heap.size, 1, none⟩ = some (.int .i64 st) := by rw [hw0]; simp
  have c2 : w0.cell? ⟨w.heap.size, 2, none⟩ = some (.int .i64 pr) := by rw [hw0]; simp
  obtain ⟨h0, x0⟩ := h.new K0
  obtain ⟨vo, va, vl, vn, hw⟩ := h0.wj
  have hs := sizeA hw.pa
  have hm := room_any h0 (c := 2) (by omega)
  have hb := begin_att h0 (by omega) h2 th st pr 0 0 1
  have hp := weq wb
  have d1 : decide ((m.cells.length : Int) ≤ 65536 - 2) = true := by simp; omega
  rw [d1] at hm
  have d2 : decide ((16384 : Int) ≤ (s.atts.length : Int)) = false := by simp; omega
  clear h hw d1 h0
  go_enter Try.func13, Try.ntmps13
  go_wp2_with fail
  rw [← hw0]
  clear hw0
  refine hs.mono ?_
  clear hs
  rintro e w' ⟨rfl, rfl⟩
  go_wp2_with (first | (go_at_call 26; refine hm.mono ?_; clear hm; rintro e w' ⟨rfl, rfl⟩) | (go_at_call 27; refine hb.mono ?_; clear hb; rintro e w' ⟨rfl, ρ1, h1, x1⟩))
  go_ret2
  exact ⟨rfl, ρ1, h1, x0.trans x1⟩
set_option maxHeartbeats 1600000 in
set_option maxRecDepth 1000000 in
theorem Attempt_no (h : St w ρ u j wb mb s m) (hr : s.roomA m = false) (th st pr : Int) :
    Calls Try.prog 13 #[.pointer (some ⟨wb, 0, none⟩), .agg #[.int .i64 th, .int .i64 st, .int .i64 pr]] w fun e w' =>
      e = .returned (.tuple #[.int .i64 0, .int .i64 58]) ∧ Keeps (fun _ => False) w w' := by
  obtain ⟨w0, hw0⟩ : ∃ w0, w0 = w.alloc (.cells #[.int .i64 th, .int .i64 st, .int .i64 pr] 57) := ⟨_, rfl⟩
  have K0 : Keeps (fun _ => False) w w0 := by rw [hw0]; exact (Keeps.refl _ w).alloc _
  obtain ⟨h0, x0⟩ := h.new K0
  obtain ⟨vo, va, vl, vn, hw⟩ := h0.wj
  have hs := sizeA hw.pa
  have hm := room_any h0 (c := 2) (by omega)
  have hp := weq wb
  clear h hw h0 x0
  by_cases h1 : s.atts.length < 16384
  · have h2 : ¬ m.cells.length + 2 ≤ 65536 := by simp [Ws.roomA, h1] at hr; omega
    have d1 : decide ((m.cells.length : Int) ≤ 65536 - 2) = false := by simp; omega
    rw [d1] at hm
    have d2 : decide ((16384 : Int) ≤ (s.atts.length : Int)) = false := by simp; omega
    clear hr h2 d1
    go_enter Try.func13, Try.ntmps13
    go_wp2_with fail
    rw [← hw0]
    clear hw0
    refine hs.mono ?_
    clear hs
    rintro e w' ⟨rfl, rfl⟩
    go_wp2_with ((go_at_call 26; refine hm.mono ?_; clear hm; rintro e w' ⟨rfl, rfl⟩))
    go_ret2
    exact ⟨rfl, K0⟩
  · have d2 : decide ((16384 : Int) ≤ (s.atts.length : Int)) = true := by simp; omega
    have d3 : decide (16384 ≤ s.atts.length) = true := by simp; omega
    clear hr hm
    go_enter Try.func13, Try.ntmps13
    go_wp2_with fail
    rw [← hw0]
    clear hw0
    refine hs.mono ?_
    clear hs
    rintro e w' ⟨rfl, rfl⟩
    go_wp2_with fail
    go_ret2
    exact ⟨rfl, K0⟩

set_option maxHeartbeats 1600000 in
set_option maxRecDepth 1000000 in
theorem Version_ok (h : St w ρ u j wb mb s m) {i : Nat} (hi : i < s.vals.length) :
    Calls Try.prog 34 #[.pointer (some ⟨wb, 0, none⟩), .int .i64 (i : Int)] w fun e w' => e = .returned (.tuple #[vv (s.vl i), .int .i64 0]) ∧ Keeps (fun _ => False) w w' := by
  obtain ⟨w0, hw0⟩ : ∃ w0, w0 = w.alloc (.cells #[.int .i64 0, .int .i64 0, .bool false] 52) := ⟨_, rfl⟩
  have K0 : Keeps (fun _ => False) w w0 := by rw [hw0]; exact (Keeps.refl _ w).alloc _
  have b0 : w0.cell? ⟨w.heap.size, 0, none⟩ = some (.int .i64 0) := by rw [hw0]; simp
  have b1 : w0.cell? ⟨w.heap.size, 1, none⟩ = some (.int .i64 0) := by rw [hw0]; simp
  have b2 : w0.cell? ⟨w.heap.size, 2, none⟩ = some (.bool false) := by rw [hw0]; simp
  have bz : ∀ o, w0.frozen? ⟨w.heap.size, o, none⟩ = false := by intro o; rw [hw0]; simp
  have z0 := bz 0
  have z1 := bz 1
  have z2 := bz 2
  have h0 := (h.new K0).1
  obtain ⟨vo, va, vl, vn, hw⟩ := h0.wj
  obtain ⟨gv, hgv, rv, lv, v0, v1, v2⟩ := hw.ver hi
  have ngv : ¬ gv = w.heap.size := fun e => by rw [e, h.bnd _ (Nat.le_refl _)] at rv; omega
  have ha := atV hw.pv hi hgv
  have hp := weq wb
  have hq := veq gv (i * 3)
  generalize s.vl i = V at *
  clear h hw h0 bz
  go_enter Try.func34, Try.ntmps34
  go_wp2_with fail
  rw [← hw0]
  clear hw0
  refine ha.mono ?_
  rintro e w' ⟨rfl, rfl⟩
  go_wp2_with ((go_at_call 38; refine ha.mono ?_; rintro e w' ⟨rfl, rfl⟩))
  (try simp only [Exit.inBlock, Exit.then])
  refine bodyPost_ret (v := .tuple #[.agg #[.int .i64 V.num, .int .i64 V.next, .bool V.dead], .int .i64 0]) ?_ rfl ⟨rfl, ?_⟩
  · rw [results_cell_tmp rfl]
    go_simp
  · exact K0.trans' (keeps_set3 _ w.heap.size _ _ _) (fun _ _ e => e) (fun i hi e => by omega)
set_option maxHeartbeats 1600000 in
set_option maxRecDepth 1000000 in
theorem Version_no (h : St w ρ u j wb mb s m) {i : Int} (hi : i < 0 ∨ (s.vals.length : Int) ≤ i) :
    Calls Try.prog 34 #[.pointer (some ⟨wb, 0, none⟩), .int .i64 i] w fun e w' => e = .returned (.tuple #[vv vl0, .int .i64 53]) ∧ Keeps (fun _ => False) w w' := by
  obtain ⟨w0, hw0⟩ : ∃ w0, w0 = w.alloc (.cells #[.int .i64 0, .int .i64 0, .bool false] 52) := ⟨_, rfl⟩
  have K0 : Keeps (fun _ => False) w w0 := by rw [hw0]; exact (Keeps.refl _ w).alloc _
  have b0 : w0.cell? ⟨w.heap.size, 0, none⟩ = some (.int .i64 0) := by rw [hw0]; simp
  have b1 : w0.cell? ⟨w.heap.size, 1, none⟩ = some (.int .i64 0) := by rw [hw0]; simp
  have b2 : w0.cell? ⟨w.heap.size, 2, none⟩ = some (.bool false) := by rw [hw0]; simp
  have bz : ∀ o, w0.frozen? ⟨w.heap.size, o, none⟩ = false := by intro o; rw [hw0]; simp
  have z0 := bz 0
  have z1 := bz 1
  have z2 := bz 2
  have h0 := (h.new K0).1
  obtain ⟨vo, va, vl, vn, hw⟩ := h0.wj
  have ha := atNotV hw.pv hi
  have hp := weq wb
  have hq := veq0
  clear h hw h0 bz
  go_enter Try.func34, Try.ntmps34
  go_wp2_with fail
  rw [← hw0]
  clear hw0
  refine ha.mono ?_
  rintro e w' ⟨rfl, rfl⟩
  go_wp2_with fail
  (try simp only [Exit.inBlock, Exit.then])
  refine bodyPost_ret (v := .tuple #[.agg #[.int .i64 0, .int .i64 0, .bool false], .int .i64 53]) ?_ rfl ⟨rfl, ?_⟩
  · rw [results_cell_tmp rfl]
    go_simp
  · exact K0.trans' (keeps_set3 _ w.heap.size _ _ _) (fun _ _ e => e) (fun i hi e => by omega)
end
end Go.Proofs.Ytdeiochjkbogpaa
