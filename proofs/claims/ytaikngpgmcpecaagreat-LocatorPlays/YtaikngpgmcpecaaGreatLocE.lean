import Derived.Test.YtaikngpgmcpecaaGreatLocD
namespace Go.Proofs.YtaikngpgmcpecaaGreat
open Go.RowKit

/-- The locator in an object's cell, the version that is current, its value. -/
def Ws.at_ (s : Ws) (m : Mm) (o : Nat) : Nat := (ca m.cells (s.ob o)).2.toNat
def Ws.now (s : Ws) (m : Mm) (o : Nat) : Nat := if s.isC m (s.lo (s.at_ m o)).owner then (s.lo (s.at_ m o)).new else (s.lo (s.at_ m o)).old
def Ws.value (s : Ws) (m : Mm) (o : Nat) : Vl := s.vl (s.now m o)
def Ws.com (s : Ws) (m : Mm) : List Vl := (List.range s.objs.length).map (s.value m)

/-- What every world keeps to. -/
structure Wf (s : Ws) (m : Mm) : Prop where
  vl : s.vals.length = s.locs.length
  lo : ∀ i, i < s.locs.length → (s.lo i).new = i ∧ (s.lo i).old < s.locs.length ∧ (s.lo i).owner < s.atts.length
  at_ : ∀ i, i < s.atts.length → (s.att i).status < m.cells.length ∧ (s.att i).flag < m.cells.length
  ob : ∀ i, i < s.objs.length → s.ob i < m.cells.length ∧ (ca m.cells (s.ob i)).2 = (s.at_ m i : Int) ∧ s.at_ m i < s.locs.length
  na : s.atts.length ≤ 16384
  nl : s.locs.length ≤ 16384
  no : s.objs.length ≤ 80
  a1 : 1 ≤ s.atts.length

theorem keeps_set3 (w : World) (b : Nat) (x y z : Value) : Keeps (fun k => k = b) w (((w.setCell ⟨b, 0, none⟩ x).setCell ⟨b, 1, none⟩ y).setCell ⟨b, 2, none⟩ z) :=
  ((keeps_set _ _ _ _).trans (keeps_set _ _ _ _)).trans (keeps_set _ _ _ _)
section
variable {w w' : World} {ρ ρ' : Nat → Nat} {u j wb mb : Nat} {s s' : Ws} {m m' : Mm} {vo va vl vn : Value}
set_option maxHeartbeats 1600000 in
set_option maxRecDepth 1000000 in
theorem value_any (h : St w ρ u j wb mb s m) (f : Wf s m) {i : Nat} (hi : i < s.objs.length) :
    Calls Tryz.prog 53 #[.pointer (some ⟨wb, 0, none⟩), .int .i64 (i : Int)] w fun e w' => e = .returned (vv (s.value m i)) ∧ Keeps (fun _ => False) w w' := by
  obtain ⟨hoc, hov, hol⟩ := f.ob i hi
  obtain ⟨hnew, hold, hown⟩ := f.lo _ hol
  have hsc := (f.at_ _ hown).1
  have hvn : s.now m i < s.vals.length := by
    rw [f.vl]; unfold Ws.now; split
    · rw [hnew]; exact hol
    · exact hold
  have now1 : s.isC m (s.lo (s.at_ m i)).owner = true → s.now m i = (s.lo (s.at_ m i)).new := fun e => by simp [Ws.now, e]
  have now0 : s.isC m (s.lo (s.at_ m i)).owner = false → s.now m i = (s.lo (s.at_ m i)).old := fun e => by simp [Ws.now, e]
  show Calls _ _ _ _ fun e w' => e = .returned (vv (s.vl (s.now m i))) ∧ _
  obtain ⟨w0, hw0⟩ : ∃ w0, w0 = w.alloc (.cells #[.int .i64 0, .int .i64 0, .bool false] 37) := ⟨_, rfl⟩
  have K0 : Keeps (fun _ => False) w w0 := by rw [hw0]; exact (Keeps.refl _ w).alloc _
  have b0 : w0.cell? ⟨w.heap.size, 0, none⟩ = some (.int .i64 0) := by rw [hw0]; simp
  have b1 : w0.cell? ⟨w.heap.size, 1, none⟩ = some (.int .i64 0) := by rw [hw0]; simp
  have b2 : w0.cell? ⟨w.heap.size, 2, none⟩ = some (.bool false) := by rw [hw0]; simp
  have bz : ∀ o, w0.frozen? ⟨w.heap.size, o, none⟩ = false := by intro o; rw [hw0]; simp
  have h0 := (h.new K0).1
  have bl : w.heap.size < w0.heap.size := by rw [hw0]; simp
  obtain ⟨vo, va, vl, vn, hw⟩ := h0.wj
  obtain ⟨go, hgo, _, _, do0⟩ := hw.obj hi
  obtain ⟨gl, hgl, rl, _, l0, l1, l2, _⟩ := hw.loc hol
  obtain ⟨gv, hgv, rv, lv, v0, v1, v2⟩ := hw.ver hvn
  have ngv : ¬ gv = w.heap.size := fun e => by rw [e, h.bnd _ (Nat.le_refl _)] at rv; omega
  have ngl : ¬ gl = w.heap.size := fun e => by rw [e, h.bnd _ (Nat.le_refl _)] at rl; omega
  have ngl' : ¬ w.heap.size = gl := fun e => ngl e.symm
  have ngv' : ¬ w.heap.size = gv := fun e => ngv e.symm
  have ha : ∀ U : KS w0, _ := fun U => atO (hw.new h0.bnd U.property).po hi hgo
  simp only [Nat.mul_one] at ha do0
  have hpk : ∀ U : KS w0, _ := fun U => speek (h0.new U.property).1 hoc
  rw [hov] at hpk
  have hal : ∀ U : KS w0, _ := fun U => atL (hw.new h0.bnd U.property).pl hol hgl
  have hco : ∀ U : KS w0, _ := fun U => committed_any (h0.new U.property).1 hown hsc
  have hav : ∀ (W : World) (k : Keeps (fun _ => False) w0 W), _ := fun W k => atV (hw.new h0.bnd k).pv hvn hgv
  have d0' := ks_cell do0
  have f0' := ks_cell hw.mem
  have hNE : Nonempty (KS w0) := ⟨⟨w0, Keeps.refl _ w0⟩⟩
  have hq := leq gl (s.at_ m i * 4)
  generalize hat : s.at_ m i = at_ at *
  generalize hc : s.isC m (s.lo at_).owner = cc at *
  generalize s.now m i = nw at *
  generalize s.vl nw = V at *
  generalize s.lo at_ = L at *
  clear h hw hov hnew hat
  go_enter Tryz.func53, Tryz.ntmps53
  go_wp2_with fail
  rw [← hw0]
  clear hw0
  refine wp_region_ks (by kernel_rfl) (by kernel_rfl) ?_
  repeat (go_big_quiet_step (first | (go_at_call 91; refine (ha _).mono ?_; rintro e w2 ⟨rfl, rfl⟩; exact ⟨rfl, _, rfl⟩) | (go_at_call 90; refine (hpk _).mono ?_; rintro e w2 ⟨rfl, rfl⟩; exact ⟨rfl, _, rfl⟩)))
  refine wpQuiet_nil ?_
  rintro _ ⟨U, rfl⟩
  have l0' := U.property.cell l0 (fun e => e)
  cases cc with
  | true =>
    obtain rfl := now1 rfl
    go_wp2_with (first | (go_at_call 40; refine (hal U).mono ?_; rintro e w2 ⟨rfl, rfl⟩) | (go_at_call 46; refine (hco U).mono ?_; rintro e w2 ⟨rfl, k2⟩))
    have K2 := U.property.trans k2
    have KD := K2.drew
    replace l2 := K2.cell l2 (fun e => e)
    replace b0 := K2.cell b0 (fun e => e)
    replace b1 := K2.cell b1 (fun e => e)
    replace b2 := K2.cell b2 (fun e => e)
    replace v0 := K2.cell v0 (fun e => e)
    replace v1 := K2.cell v1 (fun e => e)
    replace v2 := K2.cell v2 (fun e => e)
    have bz' : ∀ o, w2.frozen? ⟨w.heap.size, o, none⟩ = false := fun o => (K2.frozen (p := ⟨w.heap.size, o, none⟩) bl (fun e => e)).trans (bz o)
    have z0 := bz' 0
    have z1 := bz' 1
    have z2 := bz' 2
    clear ha hpk hal hco d0' f0' hNE l0 l0' bz bz'
    go_region_held3 (fun w' => w'.cell? ⟨gl, at_ * 4 + 2, none⟩ = some (.int .i64 (L.new : Int)) ∧ w'.cell? ⟨gv, L.new * 3, none⟩ = some (.int .i64 V.num) ∧ w'.cell? ⟨gv, L.new * 3 + 1, none⟩ = some (.int .i64 V.next) ∧ w'.cell? ⟨gv, L.new * 3 + 2, none⟩ = some (.bool V.dead)) (go_keep) ((go_at_call 49; refine (hav _ KD).mono ?_; rintro e w3 ⟨rfl, rfl⟩))
    all_goals
      (try simp only [Exit.then])
      go_wp2_with fail
      (try simp only [Exit.inBlock, Exit.then])
      refine bodyPost_ret (v := .agg #[.int .i64 V.num, .int .i64 V.next, .bool V.dead]) ?_ rfl ⟨rfl, ?_⟩
      · simp [results, Tryz.f53, go_sem, b0, b1, b2]
      · exact K0.trans' ((K2.drew).trans' (keeps_set3 _ w.heap.size _ _ _) (S := fun _ => False) (U := fun i => i = w.heap.size) (fun _ _ e => e.elim) (fun _ _ e => e)) (fun _ _ e => e) (fun i hi e => by omega)
  | false =>
    obtain rfl := now0 rfl
    go_wp2_with (first | (go_at_call 40; refine (hal U).mono ?_; rintro e w2 ⟨rfl, rfl⟩) | (go_at_call 46; refine (hco U).mono ?_; rintro e w2 ⟨rfl, k2⟩))
    have K2 := U.property.trans k2
    have KD := K2.drew
    replace l1 := K2.cell l1 (fun e => e)
    replace b0 := K2.cell b0 (fun e => e)
    replace b1 := K2.cell b1 (fun e => e)
    replace b2 := K2.cell b2 (fun e => e)
    replace v0 := K2.cell v0 (fun e => e)
    replace v1 := K2.cell v1 (fun e => e)
    replace v2 := K2.cell v2 (fun e => e)
    have bz' : ∀ o, w2.frozen? ⟨w.heap.size, o, none⟩ = false := fun o => (K2.frozen (p := ⟨w.heap.size, o, none⟩) bl (fun e => e)).trans (bz o)
    have z0 := bz' 0
    have z1 := bz' 1
    have z2 := bz' 2
    clear ha hpk hal hco d0' f0' hNE l0 l0' bz bz'
    go_region_held3 (fun w' => w'.cell? ⟨gl, at_ * 4 + 1, none⟩ = some (.int .i64 (L.old : Int)) ∧ w'.cell? ⟨gv, L.old * 3, none⟩ = some (.int .i64 V.num) ∧ w'.cell? ⟨gv, L.old * 3 + 1, none⟩ = some (.int .i64 V.next) ∧ w'.cell? ⟨gv, L.old * 3 + 2, none⟩ = some (.bool V.dead)) (go_keep) ((go_at_call 49; refine (hav _ KD).mono ?_; rintro e w3 ⟨rfl, rfl⟩))
    all_goals
      (try simp only [Exit.then])
      go_wp2_with fail
      (try simp only [Exit.inBlock, Exit.then])
      refine bodyPost_ret (v := .agg #[.int .i64 V.num, .int .i64 V.next, .bool V.dead]) ?_ rfl ⟨rfl, ?_⟩
      · simp [results, Tryz.f53, go_sem, b0, b1, b2]
      · exact K0.trans' ((K2.drew).trans' (keeps_set3 _ w.heap.size _ _ _) (S := fun _ => False) (U := fun i => i = w.heap.size) (fun _ _ e => e.elim) (fun _ _ e => e)) (fun _ _ e => e) (fun i hi e => by omega)
end
end Go.Proofs.YtaikngpgmcpecaaGreat
