import Derived.Test.YtaikngpgmcpecaaGreatCelA
namespace Go.Proofs.YtaikngpgmcpecaaGreat
open Go.RowKit

set_option maxHeartbeats 800000 in
set_option maxRecDepth 1000000 in
theorem loadw_any (w : World) (v : Int) : Calls Tryz.prog 100 #[.int .i64 v] w fun e w' => e = .returned (.tuple #[.int .i64 v, .bool true]) ∧ w' = w := by
  go_enter Tryz.func100, Tryz.ntmps100
  go_wp2
  go_ret2
  exact ⟨rfl, rfl⟩
set_option maxHeartbeats 800000 in
set_option maxRecDepth 1000000 in
theorem swapw_any {w : World} {b b' : Nat} {old next : Int} (h : w.cell? ⟨b, 0, none⟩ = some (.int .i64 old)) (h' : w.cell? ⟨b', 0, none⟩ = some (.int .i64 next)) (v : Int) :
    Calls Tryz.prog 93 #[.int .i64 v, .pointer (some ⟨b, 0, none⟩), .pointer (some ⟨b', 0, none⟩)] w fun e w' => e = .returned (.tuple #[.int .i64 (if v = old then next else v), .bool (decide (v = old))]) ∧ w' = w := by
  by_cases hv : v = old
  · have hv' : (v != old) = false := by simp [hv]
    have e1 : (if v = old then next else v) = next := if_pos hv
    have e2 : decide (v = old) = true := by simp [hv]
    rw [e1, e2]
    clear e1 e2 hv
    go_enter Tryz.func93, Tryz.ntmps93
    go_wp2
    go_ret2
    exact ⟨rfl, rfl⟩
  · have hv' : (v != old) = true := by simp [hv]
    have e1 : (if v = old then next else v) = v := if_neg hv
    have e2 : decide (v = old) = false := by simp [hv]
    rw [e1, e2]
    clear e1 e2 hv
    go_enter Tryz.func93, Tryz.ntmps93
    go_wp2
    go_ret2
    exact ⟨rfl, rfl⟩

theorem keeps_set7 (w : World) (b : Nat) (v0 v1 v2 v3 v4 v5 v6 : Value) : Keeps (fun k => k = b) w (((((((w.setCell ⟨b, 0, none⟩ v0).setCell ⟨b, 1, none⟩ v1).setCell ⟨b, 2, none⟩ v2).setCell ⟨b, 3, none⟩ v3).setCell ⟨b, 4, none⟩ v4).setCell ⟨b, 5, none⟩ v5).setCell ⟨b, 6, none⟩ v6) :=
  ((((((keeps_set _ _ _ _).trans (keeps_set _ _ _ _)).trans (keeps_set _ _ _ _)).trans (keeps_set _ _ _ _)).trans (keeps_set _ _ _ _)).trans (keeps_set _ _ _ _)).trans (keeps_set _ _ _ _)

set_option maxHeartbeats 3200000 in
set_option maxRecDepth 1000000 in
theorem access_load {w : World} {mb : Nat} {s : Mm} {F : List Nat} (h : MI w mb s F) {c : Nat} (hc : c < s.cells.length) (hfr : s.free = true) (hlog : (s.log.length + 1) * 56 ≤ 140737488355328) (kind wrote : Int) (done : Bool) 
    (hw : ∀ W, Keeps (fun _ => False) w W → Calls Tryz.prog 100 #[.int .i64 (ca s.cells c).2] W fun e W' => e = .returned (.tuple #[.int .i64 wrote, .bool done]) ∧ W' = W) :
    Calls Tryz.prog 92 #[.pointer (some ⟨mb, 0, none⟩), .int .i64 kind, .int .i64 (c : Int), .func (.func 100) #[] #[]] w fun e w' =>
      e = .returned (.tuple #[.agg #[.int .i64 s.step, .int .i64 s.thread, .int .i64 kind, .int .i64 (c : Int), .int .i64 (ca s.cells c).2, .int .i64 wrote, .bool done], .int .i64 0]) ∧ ∃ F', MI w' mb (s.take kind c wrote done) F' ∧ Left w w' F F' := by
  obtain ⟨w0, hw0⟩ : ∃ w0, w0 = w.alloc (.cells #[.int .i64 0, .int .i64 0, .int .i64 0, .int .i64 0, .int .i64 0, .int .i64 0, .bool false] 88) := ⟨_, rfl⟩
  have K0 : Keeps (fun _ => False) w w0 := by rw [hw0]; exact (Keeps.refl _ w).alloc _
  have B0 : RowAt w0 w.heap.size 0 rw0 := by rw [hw0]; constructor <;> simp [rw0]
  have Z0 : ∀ o, w0.frozen? ⟨w.heap.size, o, none⟩ = false := fun o => by rw [hw0]; simp
  have sz0 : Hid (w0.heap.size = w.heap.size + 1) := by show _ = _; rw [hw0]; simp
  have hw1 := hw w0 K0
  clear hw
  have hh := has_any (h.new K0) (c : Int)
  rw [there_ok hc] at hh
  obtain ⟨vc, vl, h, rfl⟩ := h
  have h0 := h.new K0
  have H : Hid (MV w0 mb vc vl s) := h0
  obtain ⟨a, cap, rfl, hs⟩ := h0.slice
  obtain ⟨g, rfl, hg⟩ := hs (by omega)
  have f0 := h0.f0
  have f2 := h0.f2
  have f3 := h0.f3
  have f5 := h0.f5
  rw [hfr] at f5
  have cc := (h0.cell hg hc).2
  have hcI : (c : Int) < (s.cells.length : Int) := by omega
  have hrc := h.rc
  have hrl := h.rl
  have hlm := h.lt
  have hnl := h.nl
  have hnc := h.nc
  clear h h0 hs
  go_enter Tryz.func92, Tryz.ntmps92
  go_wp2_with fail
  rw [← hw0]
  clear hw0
  go_wp2_with (first | (go_at_call 103; refine hh.mono ?_; clear hh; rintro e w0 ⟨rfl, rfl⟩) | (go_at_call 100; refine hw1.mono ?_; clear hw1; rintro e w0 ⟨rfl, rfl⟩))
  have q2 : ∀ ob, (w0.alloc ob).cell? ⟨mb, 2, none⟩ = some (.int .i64 s.step) := fun ob => ((Keeps.refl (fun _ => False) w0).alloc ob).cell f2 (fun e => e)
  have q3 : ∀ ob, (w0.alloc ob).cell? ⟨mb, 3, none⟩ = some (.int .i64 s.thread) := fun ob => ((Keeps.refl (fun _ => False) w0).alloc ob).cell f3 (fun e => e)
  go_region
  obtain ⟨w2, hw2⟩ : ∃ w2, w2 = World.drew (w0.alloc (.cells #[.int .i64 s.step, .int .i64 s.thread, .int .i64 kind, .int .i64 (c : Int), .int .i64 (ca s.cells c).2, .int .i64 wrote, .bool done] 88)) := ⟨_, rfl⟩
  have K2 : Keeps (fun _ => False) w0 w2 := by rw [hw2]; exact ((Keeps.refl _ w0).alloc _).drew
  have R2 : RowAt w2 w0.heap.size 0 (s.row kind c wrote done) := by rw [hw2]; constructor <;> simp [Mm.row]
  have sz2 : Hid (w2.heap.size = w0.heap.size + 1) := by show _ = _; rw [hw2]; simp
  rw [← hw2]
  clear hw2 q2 q3 f2 f3 f5
  have H2 := H.out.new K2
  replace f0 := H2.f0
  replace cc := (H2.cell hg hc).2
  have zg : w2.frozen? ⟨g, c * 2 + 1, none⟩ = false := H2.rc.frozenAt _
  obtain ⟨H3, K3⟩ := H2.set hg hc wrote
  have lg : g < w.heap.size := owns_lt' hrc g hg
  have R3 := R2.keep K3 (by have := K0.size; omega)
  clear R2
  obtain ⟨w3, hw3⟩ : ∃ w3, w3 = w2.setCell ⟨g, c * 2 + 1, none⟩ (.int .i64 wrote) := ⟨_, rfl⟩
  have sz3 : Hid (w3.heap.size = w0.heap.size + 1) := by show _ = _; rw [hw3]; simp; exact sz2.out
  go_wp2_with fail
  rw [← hw3] at H3 K3 R3 ⊢
  clear hw3 cc zg f0
  have f1 := H3.f1
  have z1 := H3.z 1 (by omega)
  have r0 := R3.r0
  have r1 := R3.r1
  have r2 := R3.r2
  have r3 := R3.r3
  have r4 := R3.r4
  have r5 := R3.r5
  have r6 := R3.r6
  simp only [Mm.row] at r0 r1 r2 r3 r4 r5 r6
  have nl := H3.nl
  have HO : Hid (w3.ownsRow 0 88 7 vl s.log.length (fl rcells s.log)) := H3.rl
  have HM : Hid (MV w3 mb (.slice (some ⟨g, 0, none⟩) s.cells.length cap) vl { s with cells := s.cells.set c ((ca s.cells c).1, wrote) }) := H3
  have lm : mb < w.heap.size := hlm
  clear H3
  obtain ⟨i0, hi0, hz0, hz1, hz2⟩ := info_parts rowInfo
  have h63 : s.log.length + 1 ≤ maxLen := by unfold maxLen; omega
  have q1 : ∀ ob, (w3.alloc ob).cell? ⟨mb, 1, none⟩ = some vl := fun ob => ((Keeps.refl (fun _ => False) w3).alloc ob).cell f1 (fun e => e)
  have ka : ∀ (ob : Obj), (w3.alloc ob).drew.cell? ⟨mb, 1, none⟩ = some vl ∧ (w3.alloc ob).drew.frozen? ⟨mb, 1, none⟩ = false := fun ob =>
    ⟨(((Keeps.refl (fun _ => False) w3).alloc ob).drew).cell f1 (fun e => e), ((((Keeps.refl (fun _ => False) w3).alloc ob).drew).frozen (p := ⟨mb, 1, none⟩) (World.block_lt_of_cell? _ _ f1) (fun e => e)).trans z1⟩
  have lm3 : mb < w3.heap.size := World.block_lt_of_cell? _ _ f1
  go_region_law ((refine step_append_lies _ (by rfl) _ _ _ (by rfl) 0 88 i0 _ 7 56 underRows hi0 hz0 hz1 hz2 rfl (by omega) vl s.log.length (fl rcells s.log) (by rfl) ((HO.out.alloc _).drew) ⟨w3.heap.size, 0, none⟩ 1 1 [.int .i64 s.step, .int .i64 s.thread, .int .i64 kind, .int .i64 (c : Int), .int .i64 (ca s.cells c).2, .int .i64 wrote, .bool done] (by rfl) (by rfl) (World.news_of_block (cs := #[.int .i64 s.step, .int .i64 s.thread, .int .i64 kind, .int .i64 (c : Int), .int .i64 (ca s.cells c).2, .int .i64 wrote, .bool done]) (t := 88) (fr := (0, 0)) (heap_alloc_new w3 _)) (by simp [Value.oneCell']) (by omega) h63 hlog (Nat.zero_le _) (w3.heap.size + 1) (by simp) ?_; intro gg cap1 w4 hown1 hgrow hat hlt1; have r1 := (hgrow.cell_far ⟨mb, 1, none⟩ (by simp; omega) (Ne.symm nl)).trans (ka _).1; have r2 := (hgrow.frozen_far ⟨mb, 1, none⟩ (by simp; omega) (Ne.symm nl)).trans (ka _).2))
  all_goals
    (try simp only [Exit.then])
    have KA : Keeps (fun _ => False) w3 (World.drew (w3.alloc (.cells #[.int .i64 s.step, .int .i64 s.thread, .int .i64 kind, .int .i64 (c : Int), .int .i64 (ca s.cells c).2, .int .i64 wrote, .bool done] 88))) := ((Keeps.refl _ w3).alloc _).drew
    obtain ⟨H5, K5⟩ := (HM.out.new KA).logged (r := s.row kind c wrote done) hgrow hown1 (hat.imp id (fun e => by rw [e]; simp))
    have lgg : Hid (vl.ownBlock = some gg ∨ w0.heap.size + 1 < gg) := hat.imp id (fun e => by have := sz3.out; omega)
    clear r0 r1 r2 r3 r4 r5 r6 f1 z1 q1 ka HO hown1 hgrow hat hlt1 h63 hz0 hz1 hz2 hi0 HM
    obtain ⟨w5, hw5⟩ : ∃ w5, w5 = w4.setCell ⟨mb, 1, none⟩ (.slice (some ⟨gg, 0, none⟩) (s.log.length + 1) cap1) := ⟨_, rfl⟩
    rw [← hw5] at H5 K5 ⊢
    clear hw5
    have s0 := sz0.out
    have nR : ¬ w0.heap.size = mb := by omega
    have nB : ¬ w.heap.size = mb := by omega
    have nR' : ¬ mb = w0.heap.size := by omega
    have nB' : ¬ mb = w.heap.size := by omega
    have nL : ∀ k, w.heap.size ≤ k → vl.ownBlock ≠ some k := fun k hk e => by have := owns_lt' hrl _ e; omega
    have R5 := (R3.keep KA (fun e => e)).keep K5 (fun e => e.elim (nL _ (by omega)) nR)
    have B5 := (((B0.keep K2 (fun e => e)).keep K3 (by omega)).keep KA (fun e => e)).keep K5 (fun e => e.elim (nL _ (Nat.le_refl _)) nB)
    have Z5 : ∀ o, w5.frozen? ⟨w.heap.size, o, none⟩ = false := fun o => by
      have l0 : w.heap.size < w0.heap.size := by omega
      rw [K5.frozen (p := ⟨w.heap.size, o, none⟩) (Nat.lt_of_lt_of_le l0 (Nat.le_trans K2.size (Nat.le_trans K3.size KA.size))) (fun e => e.elim (nL _ (Nat.le_refl _)) nB), KA.frozen (p := ⟨w.heap.size, o, none⟩) (Nat.lt_of_lt_of_le l0 (Nat.le_trans K2.size K3.size)) (fun e => e), K3.frozen (p := ⟨w.heap.size, o, none⟩) (Nat.lt_of_lt_of_le l0 K2.size) (by show ¬ w.heap.size = g; omega), K2.frozen (p := ⟨w.heap.size, o, none⟩) l0 (fun e => e)]
      exact Z0 o
    have H6 := H5.free false
    have K6 := keeps_set w5 mb 5 (.bool false)
    have KT : Keeps (fun k => k ∈ (mb :: ((Value.slice (some ⟨g, 0, none⟩) s.cells.length cap).ownBlock.toList ++ vl.ownBlock.toList))) w (w5.setCell ⟨mb, 5, none⟩ (.bool false)) := by
      have Ka := ((K0.trans K2).mono (T := fun k => k ∈ (mb :: ((Value.slice (some ⟨g, 0, none⟩) s.cells.length cap).ownBlock.toList ++ vl.ownBlock.toList))) (fun _ _ e => e.elim))
      have Kb := Ka.trans' (U := fun k => k ∈ (mb :: ((Value.slice (some ⟨g, 0, none⟩) s.cells.length cap).ownBlock.toList ++ vl.ownBlock.toList))) K3 (fun _ _ e => e) (fun _ _ e => by simp [e, Value.ownBlock])
      have Kc := Kb.trans' (U := fun k => k ∈ (mb :: ((Value.slice (some ⟨g, 0, none⟩) s.cells.length cap).ownBlock.toList ++ vl.ownBlock.toList))) KA (fun _ _ e => e) (fun _ _ e => e.elim)
      have Kd := Kc.trans' (U := fun k => k ∈ (mb :: ((Value.slice (some ⟨g, 0, none⟩) s.cells.length cap).ownBlock.toList ++ vl.ownBlock.toList))) K5 (fun _ _ e => e) (fun _ _ e => by rcases e with e | e <;> simp [e])
      exact Kd.trans' K6 (fun _ _ e => e) (fun _ _ e => by simp [e])
    have f5 := H5.f5
    have z5 := H5.z 5 (by omega)
    have r0 := R5.r0
    have r1 := R5.r1
    have r2 := R5.r2
    have r3 := R5.r3
    have r4 := R5.r4
    have r5 := R5.r5
    have r6 := R5.r6
    simp only [Mm.row, Nat.zero_add] at r0 r1 r2 r3 r4 r5 r6
    have b0 := B5.r0
    have b1 := B5.r1
    have b2 := B5.r2
    have b3 := B5.r3
    have b4 := B5.r4
    have b5 := B5.r5
    have b6 := B5.r6
    simp only [rw0, Nat.zero_add] at b0 b1 b2 b3 b4 b5 b6
    have H7 : Hid (MV (w5.setCell ⟨mb, 5, none⟩ (.bool false)) mb (.slice (some ⟨g, 0, none⟩) s.cells.length cap) (.slice (some ⟨gg, 0, none⟩) (s.log.length + 1) cap1) (s.take kind c wrote done)) := H6
    clear H6 H5 K5 K6 KA R3 R5 B5 H2 H K3 K2
    have hs0 : Hid (w0.heap.size = w.heap.size + 1) := s0
    clear s0
    go_wp2_with fail
    (try simp only [Exit.inBlock, Exit.then])
    refine bodyPost_ret (v := .tuple #[.agg #[.int .i64 s.step, .int .i64 s.thread, .int .i64 kind, .int .i64 (c : Int), .int .i64 (ca s.cells c).2, .int .i64 wrote, .bool done], .int .i64 0]) ?_ rfl ⟨rfl, ?_⟩
    · rw [results_cell_tmp rfl]
      go_simp
    · have hs1 := hs0.out
      have K7 := keeps_set7 (w5.setCell ⟨mb, 5, none⟩ (.bool false)) w.heap.size (.int .i64 s.step) (.int .i64 s.thread) (.int .i64 kind) (.int .i64 (c : Int)) (.int .i64 (ca s.cells c).2) (.int .i64 wrote) (.bool done)
      have t1 : ∀ k, (Value.slice (some ⟨g, 0, none⟩) s.cells.length cap).ownBlock = some k → ¬ k = w.heap.size := fun k e e' => by
        have e1 : g = k := by simpa [Value.ownBlock] using e
        omega
      have t2 : ∀ k, (Value.slice (some ⟨gg, 0, none⟩) (s.log.length + 1) cap1).ownBlock = some k → ¬ k = w.heap.size := fun k e e' => by
        have e1 : gg = k := by simpa [Value.ownBlock] using e
        rcases lgg.out with e2 | e2
        · exact nL _ (by omega) e2
        · omega
      refine ⟨_, ⟨_, _, H7.out.keep K7 (fun e => nB e.symm) t1 t2, rfl⟩, KT.trans' K7 (fun _ _ e => e) (fun k hk e => by omega), fun k hk => ?_⟩
      simp [Value.ownBlock] at hk ⊢
      rcases hk with e | e | e
      · exact .inl (.inl e)
      · exact .inl (.inr (.inl e))
      · rcases lgg.out with e1 | e1
        · exact .inl (.inr (.inr (by rw [e]; exact e1)))
        · exact .inr (by omega)

set_option maxHeartbeats 1600000 in
set_option maxRecDepth 1000000 in
/-- An access of no cell. -/
theorem access_cell {w : World} {mb : Nat} {s : Mm} {F : List Nat} (h : MI w mb s F) {c : Int} (hc : s.there c = false) (kind : Int) (fv : Value) :
    Calls Tryz.prog 92 #[.pointer (some ⟨mb, 0, none⟩), .int .i64 kind, .int .i64 c, fv] w fun e w' =>
      e = .returned (.tuple #[.agg #[.int .i64 0, .int .i64 0, .int .i64 0, .int .i64 0, .int .i64 0, .int .i64 0, .bool false], .int .i64 30]) ∧ Keeps (fun _ => False) w w' := by
  have K0 : ∀ o, Keeps (fun _ => False) w (w.alloc o) := fun o => (Keeps.refl _ w).alloc _
  have hh := fun o => has_any (h.new (K0 o)) c
  rw [hc] at hh
  go_enter Tryz.func92, Tryz.ntmps92
  go_wp2_with (go_at_call 103; refine (hh _).mono ?_; rintro e w' ⟨rfl, rfl⟩)
  (try simp only [Exit.inBlock, Exit.then])
  refine bodyPost_ret (v := .tuple #[.agg #[.int .i64 0, .int .i64 0, .int .i64 0, .int .i64 0, .int .i64 0, .int .i64 0, .bool false], .int .i64 30]) ?_ rfl ⟨rfl, ?_⟩
  · rw [results_cell_tmp rfl]
    go_simp
  · exact K0 _

set_option maxHeartbeats 1600000 in
set_option maxRecDepth 1000000 in
/-- An access where no step is open. -/
theorem access_closed {w : World} {mb : Nat} {s : Mm} {F : List Nat} (h : MI w mb s F) {c : Int} (hc : s.there c = true) (hf : s.free = false) (kind : Int) (fv : Value) :
    Calls Tryz.prog 92 #[.pointer (some ⟨mb, 0, none⟩), .int .i64 kind, .int .i64 c, fv] w fun e w' =>
      e = .returned (.tuple #[.agg #[.int .i64 0, .int .i64 0, .int .i64 0, .int .i64 0, .int .i64 0, .int .i64 0, .bool false], .int .i64 31]) ∧ Keeps (fun _ => False) w w' := by
  have K0 : ∀ o, Keeps (fun _ => False) w (w.alloc o) := fun o => (Keeps.refl _ w).alloc _
  have hh := fun o => has_any (h.new (K0 o)) c
  rw [hc] at hh
  obtain ⟨vc, vl, h, rfl⟩ := h
  have f5 : ∀ o, (w.alloc o).cell? ⟨mb, 5, none⟩ = some (.bool false) := fun o => by have := (h.new (K0 o)).f5; rw [hf] at this; exact this
  clear h
  go_enter Tryz.func92, Tryz.ntmps92
  go_wp2_with (go_at_call 103; refine (hh _).mono ?_; rintro e w' ⟨rfl, rfl⟩)
  (try simp only [Exit.inBlock, Exit.then])
  refine bodyPost_ret (v := .tuple #[.agg #[.int .i64 0, .int .i64 0, .int .i64 0, .int .i64 0, .int .i64 0, .int .i64 0, .bool false], .int .i64 31]) ?_ rfl ⟨rfl, ?_⟩
  · rw [results_cell_tmp rfl]
    go_simp
  · exact K0 _

set_option maxHeartbeats 1600000 in
set_option maxRecDepth 1000000 in
theorem load_ok {w : World} {mb : Nat} {s : Mm} {F : List Nat} (h : MI w mb s F) {c : Nat} (hc : c < s.cells.length) (hfr : s.free = true) (hlog : (s.log.length + 1) * 56 ≤ 140737488355328) :
    Calls Tryz.prog 81 #[.pointer (some ⟨mb, 0, none⟩), .int .i64 (c : Int)] w fun e w' =>
      e = .returned (.tuple #[.int .i64 (ca s.cells c).2, .int .i64 0]) ∧ ∃ F', MI w' mb (s.take 1 c (ca s.cells c).2 true) F' ∧ Left w w' F F' := by
  have hac := access_load h hc hfr hlog 1 (ca s.cells c).2 true (fun W _ => loadw_any W _)
  go_enter Tryz.func81, Tryz.ntmps81
  go_wp2_with (go_at_call 92; refine hac.mono ?_; clear hac; rintro e w' ⟨rfl, F', h', l'⟩)
  go_ret2
  exact ⟨rfl, F', h'.new ((Keeps.refl _ _).alloc _), l'.trans (Left.new ((Keeps.refl _ _).alloc _))⟩

set_option maxHeartbeats 1600000 in
set_option maxRecDepth 1000000 in
theorem load_cell {w : World} {mb : Nat} {s : Mm} {F : List Nat} (h : MI w mb s F) {c : Int} (hc : s.there c = false) :
    Calls Tryz.prog 81 #[.pointer (some ⟨mb, 0, none⟩), .int .i64 c] w fun e w' => e = .returned (.tuple #[.int .i64 0, .int .i64 30]) ∧ Keeps (fun _ => False) w w' := by
  have hac := fun (W : World) (k : Keeps (fun _ => False) w W) (v : Value) => access_cell (h.new k) hc 1 v
  go_enter Tryz.func81, Tryz.ntmps81
  go_wp2_with (go_at_call 92; refine (hac _ (Keeps.refl _ _) _).mono ?_; clear hac; rintro e w' ⟨rfl, k'⟩)
  go_ret2
  exact ⟨rfl, (Keeps.trans (Keeps.refl _ _) k').alloc _⟩

set_option maxHeartbeats 1600000 in
set_option maxRecDepth 1000000 in
theorem load_closed {w : World} {mb : Nat} {s : Mm} {F : List Nat} (h : MI w mb s F) {c : Int} (hc : s.there c = true) (hf : s.free = false) :
    Calls Tryz.prog 81 #[.pointer (some ⟨mb, 0, none⟩), .int .i64 c] w fun e w' => e = .returned (.tuple #[.int .i64 0, .int .i64 31]) ∧ Keeps (fun _ => False) w w' := by
  have hac := fun (W : World) (k : Keeps (fun _ => False) w W) (v : Value) => access_closed (h.new k) hc hf 1 v
  go_enter Tryz.func81, Tryz.ntmps81
  go_wp2_with (go_at_call 92; refine (hac _ (Keeps.refl _ _) _).mono ?_; clear hac; rintro e w' ⟨rfl, k'⟩)
  go_ret2
  exact ⟨rfl, (Keeps.trans (Keeps.refl _ _) k').alloc _⟩

end Go.Proofs.YtaikngpgmcpecaaGreat
