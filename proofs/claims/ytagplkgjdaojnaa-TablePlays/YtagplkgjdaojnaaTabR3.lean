import Derived.Test.YtagplkgjdaojnaaTabR2
namespace Go.Proofs.Ytagplkgjdaojnaa
open Go.RowKit
attribute [local go_sem] Oper.semAt_some

/-- What a call leaves of the document's table. -/
structure Rf (w w' : World) (rb : Nat) (vr vr' : Value) : Prop where
  kp : Keeps (RBlk rb vr) w w'
  bk : ∀ k, RBlk rb vr' k → RBlk rb vr k ∨ w.heap.size ≤ k
theorem Rf.new {a b : World} {rb : Nat} {vr : Value} (h : Keeps (fun _ => False) a b) : Rf a b rb vr vr := ⟨h.mono (fun _ _ e => e.elim), fun _ h => .inl h⟩
theorem Rf.pre {a b c : World} {rb : Nat} {vr vr' : Value} (h : Keeps (fun _ => False) a b) (k : Rf b c rb vr vr') : Rf a c rb vr vr' :=
  ⟨h.trans' k.kp (fun _ _ e => e.elim) (fun _ _ e => e), fun i hi => (k.bk i hi).imp id (fun e => by have := h.size; omega)⟩
theorem fnd_hld {rs : List Rd} (hG : Gd rs) {j : Nat} {r : Rd} (hj : rs[j]? = some r) (h1 : r.fate = 1) : fnd rs r.ob = some (r.en j) := by
  obtain ⟨p, hp⟩ := List.getElem?_of_mem (es_of hj h1)
  have := pl_of hG.dis hp
  unfold fnd
  rw [show pl (es rs) r.ob = some p from this]
  exact hp
theorem fnd_not {rs : List Rd} (hG : Gd rs) {k : Int} (h : ¬ hld rs k) : fnd rs k = none := by
  unfold fnd
  cases e : pl (es rs) k with
  | none => rfl
  | some p => exact absurd ((hld_pl hG k).2 (by rw [e]; rfl)) h

set_option maxHeartbeats 3200000 in
set_option maxRecDepth 1000000 in
theorem radd_no {w : World} {rb : Nat} {vr : Value} {rs : List Rd} (h : RV w rb vr rs) (hG : Gd rs) (hn : rs.length ≤ 4398046511200) {ob : Int} (ver : Int) (hh : hld rs ob) : Calls Try.prog 30 #[.pointer (some ⟨rb, 0, none⟩), .int .i64 ob, .int .i64 ver] w fun e w' => e = .returned (.tuple #[.int .i64 0, .int .i64 70]) ∧ Keeps (fun _ => False) w w' := by
  obtain ⟨j, r, h1, h2, h3⟩ := hh
  have CF := rfind_any h hn ob
  have hf : fnd rs ob = some (r.en j) := h3 ▸ fnd_hld hG h1 h2
  rw [hf] at CF
  replace CF : ∃ eo ev' en : Int, Calls Try.prog 31 #[.pointer (some ⟨rb, 0, none⟩), .int .i64 ob] w fun e w' => e = .returned (.tuple #[.agg #[.int .i64 eo, .int .i64 ev', .int .i64 en], .int .i64 0]) ∧ Keeps (fun _ => False) w w' := ⟨_, _, _, CF⟩
  obtain ⟨eo, ev', en, CF⟩ := CF
  clear h hf
  go_enter Try.func30, Try.ntmps30
  go_wp2_with fail
  refine CF.mono ?_
  rintro e w2 ⟨rfl, k2⟩
  clear CF
  go_wp2_with fail
  refine bodyPost_ret (v := .tuple #[.int .i64 0, .int .i64 70]) (by simp [results, Try.f30, go_sem]) rfl ⟨rfl, k2.alloc _⟩

set_option maxHeartbeats 3200000 in
set_option maxRecDepth 1000000 in
theorem radd_ok {w : World} {rb : Nat} {vr : Value} {rs : List Rd} (h : RV w rb vr rs) (hG : Gd rs) (hn : rs.length ≤ 4398046511200) {ob ver : Int} (hh : ¬ hld rs ob) : Calls Try.prog 30 #[.pointer (some ⟨rb, 0, none⟩), .int .i64 ob, .int .i64 ver] w fun e w' => e = .returned (.tuple #[.int .i64 (rs.length : Int), .int .i64 0]) ∧ ∃ vr', RV w' rb vr' (add rs ob ver) ∧ Rf w w' rb vr vr' := by
  have CF := rfind_any h hn ob
  rw [fnd_not hG hh] at CF
  replace CF : Calls Try.prog 31 #[.pointer (some ⟨rb, 0, none⟩), .int .i64 ob] w fun e w' => e = .returned (.tuple #[.agg #[.int .i64 0, .int .i64 0, .int .i64 0], .int .i64 71]) ∧ Keeps (fun _ => False) w w' := CF
  obtain ⟨a, cap, hv, -⟩ := h.form
  obtain ⟨N, hN⟩ : ∃ N, Hid (N = rs.length) := ⟨_, rfl⟩
  rw [← hN.out] at hv hn ⊢
  have H : Hid (RV w rb vr rs) := h
  have HV : Hid (vr = .slice a N cap) := hv
  clear h hv
  go_enter Try.func30, Try.ntmps30
  go_wp2_with fail
  refine CF.mono ?_
  rintro e w2 ⟨rfl, k2⟩
  clear CF
  obtain ⟨w3, hw3⟩ : ∃ w3, Hid (w3 = w2.alloc (.cells #[.int .i64 0, .int .i64 0, .int .i64 0] 70)) := ⟨_, rfl⟩
  have k3 : Keeps (fun _ => False) w w3 := by rw [hw3.out]; exact k2.alloc _
  have h3 := H.out.new k3
  obtain ⟨i0, hi0, hz0, hz1, hz2⟩ := info_parts infoRR
  obtain ⟨v', W4, hr4, ho4, hg4, _, hl4⟩ := run_append_own_at (P := Try.prog) (w := w3.alloc (.cells #[.int .i64 ob, .int .i64 ver, .int .i64 1] 67)) 0 63 63 67 i0 _ 3 24 underRR hi0 hz0 hz1 hz2 rfl (by decide) vr N _ (by rw [hN.out]; exact h3.rr.alloc _) ⟨w3.heap.size, 0, none⟩ 1 1 (rdcells ⟨ob, ver, 1⟩) rfl (fun j u hu => by
    have hj : j < 3 := (List.getElem?_eq_some_iff.1 hu).1
    rw [show ((⟨w3.heap.size, 0, none⟩ : Addr).add j) = ⟨w3.heap.size, j, none⟩ by unfold Addr.add; split <;> simp_all]
    rcases (by omega : j = 0 ∨ j = 1 ∨ j = 2) with rfl | rfl | rfl <;> (simp [rdcells] at hu; subst hu; exact cell3 w3 _ _ _ _ _ _ (by simp))) (fun u hu => by simp [rdcells] at hu; rcases hu with rfl | rfl | rfl <;> rfl) (by unfold maxLen; omega) (by omega) (Nat.zero_le _)
  obtain ⟨a4, c4, rfl, -⟩ := owns_form ho4
  have k4 : Keeps (fun k => vr.ownBlock = some k) w3 W4 := ((Keeps.refl (fun k => vr.ownBlock = some k) w3).alloc _).grown hg4 (fun _ _ e => e)
  have b0 := k4.cell h3.f0 h3.n1
  have bz := (k4.frozen (p := ⟨rb, 0, none⟩) (h3.lt (.inl rfl)) h3.n1).trans h3.z
  have c0 := h3.f0
  have s3 : ∀ g, (Value.slice a4 (N + 1) c4).ownBlock = some g → vr.ownBlock = some g ∨ g = w3.heap.size + 1 := fun g e => by
    rcases hl4 with e' | e'
    · exact .inl (e' ▸ e)
    · rw [e'] at e; simp at e; exact .inr e.symm
  have lrb := h3.lt (.inl rfl)
  have nrb : ∀ g, (Value.slice a4 (N + 1) c4).ownBlock = some g → g ≠ rb := fun g e e' => by
    rcases s3 g e with x | x
    · exact h3.n1 (e' ▸ x)
    · omega
  have kE := keeps_set W4 rb 0 (.slice a4 (N + 1) c4)
  have HEND : Hid (∃ vr', RV (W4.setCell ⟨rb, 0, none⟩ (.slice a4 (N + 1) c4)) rb vr' (add rs ob ver) ∧ Rf w (W4.setCell ⟨rb, 0, none⟩ (.slice a4 (N + 1) c4)) rb vr vr') := by
    refine ⟨.slice a4 (N + 1) c4, ⟨World.cell?_setCell_same (h := b0) .., ?_, ?_, fun e => nrb _ e rfl⟩, Rf.pre k3 ⟨?_, fun k hk => ?_⟩⟩
    · rw [World.frozen?_setCell]; exact bz
    · rw [add_len, ← hN.out, show fl rdcells (add rs ob ver) = fl rdcells rs ++ rdcells ⟨ob, ver, 1⟩ by unfold add; rw [fl_append]; simp [fl]]
      exact kE.owns ho4 (fun g e => nrb g e)
    · exact (k4.mono (fun _ _ e => .inr e)).trans (kE.mono (fun _ _ e => .inl e))
    · rcases hk with e | e
      · exact .inl (.inl e)
      · rcases s3 k e with x | x
        · exact .inl (.inr x)
        · exact .inr (by omega)
  rw [HV.out] at b0 hr4 c0
  have d0 : (W4.setCell ⟨rb, 0, none⟩ (.slice a4 (N + 1) c4)).cell? ⟨rb, 0, none⟩ = some (.slice a4 (N + 1) c4) := World.cell?_setCell_same (h := b0) ..
  clear kE nrb s3 k4 hl4 hg4 ho4 h3 H HV k3 hh hG k2 hi0 hz0 hz1 hz2 lrb
  have sw : (w2.alloc (.cells #[.int .i64 0, .int .i64 0, .int .i64 0] 70)).heap.size = w2.heap.size + 1 := by simp
  rw [hw3.out] at hr4 c0
  rw [sw] at hr4
  clear sw hw3
  go_wp2_with ((at_builtin; refine wpList_append_run rfl _ _ _ rfl _ _ (.slice a4 (N + 1) c4) W4 rfl rfl hr4 ?_; clear hr4))
  refine bodyPost_ret (v := .tuple #[.int .i64 (N : Int), .int .i64 0]) (by simp [results, Try.f30, go_sem]) rfl ⟨rfl, HEND.out⟩

set_option maxHeartbeats 3200000 in
set_option maxRecDepth 1000000 in
theorem rout_no {w : World} {rb : Nat} {vr : Value} {rs : List Rd} (h : RV w rb vr rs) (hG : Gd rs) (hn : rs.length ≤ 4398046511200) {ob : Int} (f : Int) (hh : ¬ hld rs ob) : Calls Try.prog 34 #[.pointer (some ⟨rb, 0, none⟩), .int .i64 ob, .int .i64 f] w fun e w' => e = .returned (.tuple #[ev0, .int .i64 71]) ∧ Keeps (fun _ => False) w w' := by
  have CF := fun ob' => rfind_any (h.new ((Keeps.refl (fun _ => False) w).alloc ob')) hn ob
  rw [fnd_not hG hh] at CF
  replace CF : ∀ ob', Calls Try.prog 31 #[.pointer (some ⟨rb, 0, none⟩), .int .i64 ob] (w.alloc ob') fun e w' => e = .returned (.tuple #[.agg #[.int .i64 0, .int .i64 0, .int .i64 0], .int .i64 71]) ∧ Keeps (fun _ => False) (w.alloc ob') w' := CF
  clear h hh hG
  go_enter Try.func34, Try.ntmps34
  go_wp2_with fail
  refine (CF _).mono ?_
  rintro e w2 ⟨rfl, k2⟩
  clear CF
  have k2a := fun ob' => k2.alloc ob'
  have y0 := fun ob' => (k2a ob').cell (p := ⟨w.heap.size, 0, none⟩) (v := .int .i64 0) (by simp) (fun e => e)
  have y1 := fun ob' => (k2a ob').cell (p := ⟨w.heap.size, 1, none⟩) (v := .int .i64 0) (by simp) (fun e => e)
  have y2 := fun ob' => (k2a ob').cell (p := ⟨w.heap.size, 2, none⟩) (v := .int .i64 0) (by simp) (fun e => e)
  have z0 := fun ob' => ((k2a ob').frozen (p := ⟨w.heap.size, 0, none⟩) (by simp) (fun e => e)).trans (show _ = false by simp)
  have z1 := fun ob' => ((k2a ob').frozen (p := ⟨w.heap.size, 1, none⟩) (by simp) (fun e => e)).trans (show _ = false by simp)
  have z2 := fun ob' => ((k2a ob').frozen (p := ⟨w.heap.size, 2, none⟩) (by simp) (fun e => e)).trans (show _ = false by simp)
  have n2 : ¬ w2.heap.size = w.heap.size := by have := k2.size; simp at this; omega
  have n2' : ¬ w.heap.size = w2.heap.size := fun e => n2 e.symm
  have x0 := k2.cell (p := ⟨w.heap.size, 0, none⟩) (v := .int .i64 0) (by simp) (fun e => e)
  have x1 := k2.cell (p := ⟨w.heap.size, 1, none⟩) (v := .int .i64 0) (by simp) (fun e => e)
  have x2 := k2.cell (p := ⟨w.heap.size, 2, none⟩) (v := .int .i64 0) (by simp) (fun e => e)
  go_wp2_with fail
  refine bodyPost_ret (v := .tuple #[.agg #[.int .i64 0, .int .i64 0, .int .i64 0], .int .i64 71]) (by rw [results_cell_tmp rfl]; go_simp) rfl ⟨rfl, ?_⟩
  first
  | exact (((Keeps.refl _ w).alloc _).trans (k2.alloc _)).trans' (((keeps_set _ w.heap.size 0 _).trans (keeps_set _ w.heap.size 1 _)).trans (keeps_set _ w.heap.size 2 _)) (fun _ _ e => e) (fun i hi e => by omega)
  | exact (((Keeps.refl _ w).alloc _).trans k2).trans' ((((keeps_set _ w.heap.size 0 _).trans (keeps_set _ w.heap.size 1 _)).trans (keeps_set _ w.heap.size 2 _)).alloc _) (fun _ _ e => e) (fun i hi e => by omega)
end Go.Proofs.Ytagplkgjdaojnaa
