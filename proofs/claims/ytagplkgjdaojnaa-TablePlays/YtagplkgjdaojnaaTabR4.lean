import Derived.Test.YtagplkgjdaojnaaTabR3
namespace Go.Proofs.Ytagplkgjdaojnaa
open Go.RowKit
attribute [local go_sem] Oper.semAt_some

set_option maxHeartbeats 3200000 in
set_option maxRecDepth 1000000 in
theorem rout_ok {w : World} {rb : Nat} {vr : Value} {rs : List Rd} (h : RV w rb vr rs) (hG : Gd rs) (hn : rs.length ≤ 4398046511200) {j f : Nat} {r : Rd} (hj : rs[j]? = some r) (hr : r.fate = 1) : Calls Try.prog 34 #[.pointer (some ⟨rb, 0, none⟩), .int .i64 r.ob, .int .i64 (f : Int)] w fun e w' => e = .returned (.tuple #[ev (r.en j), .int .i64 0]) ∧ RV w' rb vr (rs.set j (r.to f)) ∧ Rf w w' rb vr vr := by
  have CF := fun ob' => rfind_any (h.new ((Keeps.refl (fun _ => False) w).alloc ob')) hn r.ob
  rw [fnd_hld hG hj hr] at CF
  replace CF : ∀ ob', Calls Try.prog 31 #[.pointer (some ⟨rb, 0, none⟩), .int .i64 r.ob] (w.alloc ob') fun e w' => e = .returned (.tuple #[.agg #[.int .i64 r.ob, .int .i64 r.ver, .int .i64 (j : Int)], .int .i64 0]) ∧ Keeps (fun _ => False) (w.alloc ob') w' := CF
  have hev : ev (r.en j) = .agg #[.int .i64 r.ob, .int .i64 r.ver, .int .i64 (j : Int)] := rfl
  rw [hev]
  obtain ⟨a, cap, hv, hc⟩ := h.form
  obtain ⟨g, rfl, hg, c0, c1, c2, cz⟩ := hc j r hj
  have hjl := (List.getElem?_eq_some_iff.1 hj).1
  have ngr : g ≠ rb := fun e => h.n1 (by rw [hg, e])
  have lg := owns_lt' h.rr g hg
  have lr := h.lt (.inl rfl)
  obtain ⟨N, hN⟩ : ∃ N, Hid (N = rs.length) := ⟨_, rfl⟩
  have hjN : (j : Int) < (N : Int) := by have := hN.out; omega
  have hj0 : (0 : Int) ≤ (j : Int) := by omega
  rw [← hN.out] at hv
  have H : Hid (RV w rb vr rs) := h
  have HV : Hid (vr = .slice (some ⟨g, 0, none⟩) N cap) := hv
  have f0 := h.f0
  rw [hv] at f0
  have HJ : Hid (rs[j]? = some r) := hj
  obtain ⟨ro, hro⟩ : ∃ ro, Hid (ro = r.ob) := ⟨_, rfl⟩
  obtain ⟨rv, hrv⟩ : ∃ rv, Hid (rv = r.ver) := ⟨_, rfl⟩
  rw [← hro.out, ← hrv.out] at CF ⊢
  clear h hv hev hj hr hG hc hn
  go_enter Try.func34, Try.ntmps34
  go_wp2_with fail
  refine (CF _).mono ?_
  rintro e w2 ⟨rfl, k2⟩
  clear CF
  go_wp2_with fail
  obtain ⟨w3, hw3⟩ : ∃ w3, Hid (w3 = w2.alloc (.cells #[.int .i64 ro, .int .i64 rv, .int .i64 (j : Int)] 70)) := ⟨_, rfl⟩
  rw [← hw3.out]
  have k23 : Keeps (fun _ => False) w2 w3 := by rw [hw3.out]; exact (Keeps.refl _ w2).alloc _
  have k3 : Keeps (fun _ => False) w w3 := (((Keeps.refl _ w).alloc _).trans k2).trans k23
  have k2s : w.heap.size < w2.heap.size := by have := k2.size; simp at this; omega
  have x0 : w3.cell? ⟨w2.heap.size, 0, none⟩ = some (.int .i64 ro) := by rw [hw3.out]; simp
  have x1 : w3.cell? ⟨w2.heap.size, 1, none⟩ = some (.int .i64 rv) := by rw [hw3.out]; simp
  have x2 : w3.cell? ⟨w2.heap.size, 2, none⟩ = some (.int .i64 (j : Int)) := by rw [hw3.out]; simp
  have y : ∀ o, o < 3 → w3.cell? ⟨w.heap.size, o, none⟩ = some (.int .i64 0) ∧ w3.frozen? ⟨w.heap.size, o, none⟩ = false := fun o ho => by
    rcases (by omega : o = 0 ∨ o = 1 ∨ o = 2) with rfl | rfl | rfl
    all_goals refine ⟨k23.cell (k2.cell (by simp) (fun e => e)) (fun e => e), ?_⟩
    all_goals exact (k23.frozen (by simpa using k2s) (fun e => e)).trans ((k2.frozen (by simp) (fun e => e)).trans (by simp))
  have t0 := k3.cell f0 (fun e => e)
  have t2 := k3.cell c2 (fun e => e)
  have tz := (k3.frozen (p := ⟨g, j * 3 + 2, none⟩) lg (fun e => e)).trans cz
  have h3 := H.out.new k3
  have kS : Keeps (fun i => i = g) w3 (w3.drew.setCell ⟨g, j * 3 + 2, none⟩ (.int .i64 (f : Int))) := ((Keeps.refl (fun i => i = g) w3).drew).setCell (p := ⟨g, j * 3 + 2, none⟩) (fun _ => rfl) _
  have hRV4 : RV (w3.drew.setCell ⟨g, j * 3 + 2, none⟩ (.int .i64 (f : Int))) rb vr (rs.set j (r.to f)) := by
    refine ⟨kS.cell h3.f0 (Ne.symm ngr), (kS.frozen (p := ⟨rb, 0, none⟩) (h3.lt (.inl rfl)) (Ne.symm ngr)).trans h3.z, ?_, h3.n1⟩
    have ho := h3.rr
    rw [HV.out, ← hN.out] at ho
    have st := (World.ownsRow.drew ho).stored (j * 3 + 2) (.int .i64 (f : Int))
    rw [List.length_set, fl_set rdcells_len rs j 2 r (r.to f) (.int .i64 (f : Int)) HJ.out (by omega) rfl, ← hN.out, HV.out]
    exact st.1
  have HRV : Hid (∀ W4, Keeps (fun i => i = w.heap.size) (w3.drew.setCell ⟨g, j * 3 + 2, none⟩ (.int .i64 (f : Int))) W4 → RV W4 rb vr (rs.set j (r.to f)) ∧ Rf w W4 rb vr vr) := fun W4 k4 => by
    refine ⟨hRV4.keep k4 (fun i hi e => ?_), ⟨(k3.trans' kS (U := RBlk rb vr) (fun _ _ e => e.elim) (fun i _ e => .inr (by rw [hg, e]))).trans' k4 (fun _ _ e => e) (fun i hi e => by omega), fun _ h => .inl h⟩⟩
    rcases hi with e' | e'
    · omega
    · rw [hg] at e'; cases e'; omega
  have n1 : ¬ g = w2.heap.size := by omega
  have n2 : ¬ w2.heap.size = g := by omega
  have n3 : ¬ g = rb := ngr
  have n4 : ¬ rb = g := Ne.symm ngr
  have n5 : ¬ g = w.heap.size := by omega
  have n6 : ¬ w.heap.size = g := by omega
  have n7 : ¬ w.heap.size = w2.heap.size := by omega
  have n8 : ¬ w2.heap.size = w.heap.size := by omega
  have X0 := kS.cell x0 n2
  have X1 := kS.cell x1 n2
  have X2 := kS.cell x2 n2
  have Y0 := kS.cell (y 0 (by omega)).1 n6
  have Y1 := kS.cell (y 1 (by omega)).1 n6
  have Y2 := kS.cell (y 2 (by omega)).1 n6
  have lwr : w.heap.size < w3.heap.size := World.block_lt_of_cell? _ _ (y 0 (by omega)).1
  have Z0 := (kS.frozen (p := ⟨w.heap.size, 0, none⟩) lwr n6).trans (y 0 (by omega)).2
  have Z1 := (kS.frozen (p := ⟨w.heap.size, 1, none⟩) lwr n6).trans (y 1 (by omega)).2
  have Z2 := (kS.frozen (p := ⟨w.heap.size, 2, none⟩) lwr n6).trans (y 2 (by omega)).2
  clear hRV4 h3 k23 k3 f0 c0 c1 c2 cz y H
  go_region_held3 (fun w' => w'.cell? ⟨rb, 0, none⟩ = some (.slice (some ⟨g, 0, none⟩) N cap) ∧ w'.cell? ⟨w2.heap.size, 2, none⟩ = some (.int .i64 (j : Int))) (go_keep) (fail)
  rename_i hHeld
  clear hHeld x0 x1 x2 t0 t2 tz hw3 kS
  rw [show (w3.setCell ⟨g, j * 3 + 2, none⟩ (.int .i64 (f : Int))).drew = w3.drew.setCell ⟨g, j * 3 + 2, none⟩ (.int .i64 (f : Int)) from rfl]
  generalize w3.drew.setCell ⟨g, j * 3 + 2, none⟩ (.int .i64 (f : Int)) = w4 at *
  go_wp2_with fail
  refine bodyPost_ret (v := .tuple #[.agg #[.int .i64 ro, .int .i64 rv, .int .i64 (j : Int)], .int .i64 0]) (by rw [results_cell_tmp rfl]; go_simp) rfl ⟨rfl, ?_⟩
  exact HRV.out _ (((keeps_set w4 w.heap.size 0 _).trans (keeps_set _ w.heap.size 1 _)).trans (keeps_set _ w.heap.size 2 _))

theorem fl_take {rs : List Rd} {i : Nat} {r : Rd} (h : rs[i]? = some r) : fl rdcells (rs.take (i + 1)) = fl rdcells (rs.take i) ++ rdcells r := by
  rw [List.take_add_one, h, fl_append]
  simp [fl]

set_option maxHeartbeats 3200000 in
set_option maxRecDepth 1000000 in
theorem rcopy_any {w : World} {rb : Nat} {vr : Value} {rs : List Rd} (h : RV w rb vr rs) (hn : rs.length ≤ 4398046511200) : Calls Try.prog 21 #[.pointer (some ⟨rb, 0, none⟩)] w fun e w' => ∃ vr', e = .returned (.pointer (some ⟨w.heap.size, 0, none⟩)) ∧ RV w' w.heap.size vr' rs ∧ Keeps (fun _ => False) w w' ∧ ∀ k, RBlk w.heap.size vr' k → w.heap.size ≤ k := by
  obtain ⟨av, cv, hv, hc⟩ := h.form
  have f0 := h.f0
  rw [hv] at f0
  have lrb : rb < w.heap.size := h.lt (.inl rfl)
  obtain ⟨N, hN⟩ : ∃ N, Hid (N = rs.length) := ⟨_, rfl⟩
  rw [← hN.out] at f0 hn
  have HC : Hid (∀ j r, rs[j]? = some r → ∃ g, av = some ⟨g, 0, none⟩ ∧ g < w.heap.size ∧ w.cell? ⟨g, j * 3, none⟩ = some (.int .i64 r.ob) ∧ w.cell? ⟨g, j * 3 + 1, none⟩ = some (.int .i64 r.ver) ∧ w.cell? ⟨g, j * 3 + 2, none⟩ = some (.int .i64 (r.fate : Int))) := fun j r hr => by
    obtain ⟨g, e1, _, e2, e3, e4, _⟩ := hc j r hr
    exact ⟨g, e1, World.block_lt_of_cell? _ _ e2, e2, e3, e4⟩
  clear hc hv h
  go_enter Try.func21, Try.ntmps21
  go_wp2_with fail
  go_loopw [4] (fun iv W => ∃ (i : Nat) (a : Option Addr) (c : Nat), iv = .int .i64 (i : Int) ∧ i ≤ N ∧ W.cell? ⟨w.heap.size, 0, none⟩ = some (.slice a i c) ∧ W.frozen? ⟨w.heap.size, 0, none⟩ = false ∧ W.ownsRow (w.heap.size + 1) 67 3 (.slice a i c) i (fl rdcells (rs.take i)) ∧ Keeps (fun _ => False) w W) (fun iv _ => N - (intOf iv).toNat)
  case atStart => exact ⟨0, none, 0, rfl, Nat.zero_le _, by simp, by simp, World.ownsRow_nil _ _ _ _, (Keeps.refl _ w).alloc _⟩
  case round =>
    obtain ⟨i, a, c, rfl, hiN, hcc, hcz, ho, hK⟩ := hrel
    have hi0 : (0 : Int) ≤ (i : Int) := by omega
    have d0 := hK.cell f0 (fun e => e)
    have lcw : w.heap.size < wr.heap.size := World.block_lt_of_cell? _ _ hcc
    by_cases hlt : i < N
    · have hltI : (i : Int) < (N : Int) := by omega
      obtain ⟨r, hr⟩ : ∃ r, rs[i]? = some r := ⟨rs[i]'(by rw [← hN.out]; exact hlt), by simp⟩
      obtain ⟨g, rfl, lg, e0, e1, e2⟩ := HC.out i r hr
      have g0 := hK.cell e0 (fun e => e)
      have g1 := hK.cell e1 (fun e => e)
      have g2 := hK.cell e2 (fun e => e)
      obtain ⟨i0, hi0', hz0, hz1, hz2⟩ := info_parts infoRR
      obtain ⟨v', W', hr', ho', hg', _, hl'⟩ := run_append_own_at (P := Try.prog) (w := wr.drew.alloc (.cells #[.int .i64 r.ob, .int .i64 r.ver, .int .i64 (r.fate : Int)] 67)) (w.heap.size + 1) 63 63 67 i0 _ 3 24 underRR hi0' hz0 hz1 hz2 rfl (by decide) (.slice a i c) i _ (ho.drew.alloc _) ⟨wr.heap.size, 0, none⟩ 1 1 (rdcells r) rfl (fun j u hu => by
        have hj : j < 3 := (List.getElem?_eq_some_iff.1 hu).1
        rw [show ((⟨wr.heap.size, 0, none⟩ : Addr).add j) = ⟨wr.heap.size, j, none⟩ by unfold Addr.add; split <;> simp_all]
        rcases (by omega : j = 0 ∨ j = 1 ∨ j = 2) with rfl | rfl | rfl <;> (simp [rdcells] at hu; subst hu; exact cell3 wr.drew _ _ _ _ _ _ (by simp))) (fun u hu => by simp [rdcells] at hu; rcases hu with rfl | rfl | rfl <;> rfl) (by unfold maxLen; omega) (by omega) (by simp; omega)
      obtain ⟨a', c', rfl, -⟩ := owns_form ho'
      have kk : Keeps (fun k => (Value.slice a i c).ownBlock = some k) wr W' := (((Keeps.refl (fun k => (Value.slice a i c).ownBlock = some k) wr).drew).alloc _).grown hg' (fun _ _ e => e)
      have nown : ¬ (Value.slice a i c).ownBlock = some w.heap.size := fun e => by have := (ho.lt _ e).1; omega
      have p0 := kk.cell hcc nown
      have pz := (kk.frozen (p := ⟨w.heap.size, 0, none⟩) lcw nown).trans hcz
      have kS := keeps_set W' w.heap.size 0 (.slice a' (i + 1) c')
      have K' : Keeps (fun _ => False) w (W'.setCell ⟨w.heap.size, 0, none⟩ (.slice a' (i + 1) c')) := hK.trans' (kk.trans' (U := fun k => (Value.slice a i c).ownBlock = some k ∨ k = w.heap.size) kS (fun _ _ e => .inl e) (fun _ _ e => .inr e)) (fun _ _ e => e) (fun k hk e => by
        rcases e with e | e
        · have := (ho.lt k e).1; omega
        · omega)
      have HO' : Hid ((W'.setCell ⟨w.heap.size, 0, none⟩ (.slice a' (i + 1) c')).ownsRow (w.heap.size + 1) 67 3 (.slice a' (i + 1) c') (i + 1) (fl rdcells (rs.take (i + 1)))) := by
        rw [fl_take hr]
        exact kS.owns ho' (fun k e e' => by have := (ho'.lt k e).1; omega)
      have HC' : Hid ((W'.setCell ⟨w.heap.size, 0, none⟩ (.slice a' (i + 1) c')).cell? ⟨w.heap.size, 0, none⟩ = some (.slice a' (i + 1) c')) := World.cell?_setCell_same (h := p0) ..
      have HZ' : Hid ((W'.setCell ⟨w.heap.size, 0, none⟩ (.slice a' (i + 1) c')).frozen? ⟨w.heap.size, 0, none⟩ = false) := by show _ = _; rw [World.frozen?_setCell]; exact pz
      have HK' : Hid (Keeps (fun _ => False) w (W'.setCell ⟨w.heap.size, 0, none⟩ (.slice a' (i + 1) c'))) := K'
      have l1 : ¬ wr.heap.size = rb := by omega
      have l2 : ¬ wr.heap.size = g := by omega
      have l3 : ¬ wr.heap.size = w.heap.size := by omega
      have l4 : ¬ rb = wr.heap.size := by omega
      have l5 : ¬ g = wr.heap.size := by omega
      have l6 : ¬ w.heap.size = wr.heap.size := by omega
      obtain ⟨ro, hro⟩ : ∃ ro, Hid (ro = r.ob) := ⟨_, rfl⟩
      obtain ⟨rv, hrv⟩ : ∃ rv, Hid (rv = r.ver) := ⟨_, rfl⟩
      obtain ⟨rf, hrf⟩ : ∃ rf : Int, Hid (rf = (r.fate : Int)) := ⟨_, rfl⟩
      rw [← hro.out] at g0 hr'
      rw [← hrv.out] at g1 hr'
      rw [← hrf.out] at g2 hr'
      clear ho hK ho' hg' hl' kk K' hr e0 e1 e2 f0 hi0' hz0 hz1 hz2 kS nown
      go_wp2_with fail
      go_region_law (refine step_append_run rfl (.tmp 20) (.tmp 28) 63 rfl (.slice a i c) (.slice (some ⟨wr.heap.size, 0, none⟩) 1 1) (.slice a' (i + 1) c') W' (by simp [Act.eval]) (by simp [Act.eval]) hr' ?_)
      all_goals go_wp2_with fail
      all_goals go_roundw
      all_goals first
        | exact ⟨i + 1, a', c', by go_num, by omega, HC'.out, HZ'.out, HO'.out, HK'.out⟩
        | (simp [intOf]; omega)
    · have hI : ¬ (i : Int) < (N : Int) := by omega
      have hiN' : i = rs.length := by rw [← hN.out]; omega
      have ht : rs.take i = rs := by rw [hiN', List.take_length]
      rw [ht] at ho
      have nown : ¬ (Value.slice a i c).ownBlock = some w.heap.size := fun e => by have := (ho.lt _ e).1; omega
      have HE : Hid (RV wr w.heap.size (.slice a i c) rs ∧ Keeps (fun _ => False) w wr ∧ ∀ k, RBlk w.heap.size (.slice a i c) k → w.heap.size ≤ k) := ⟨⟨hcc, hcz, by rw [← hiN']; exact owns_base ho, nown⟩, hK, fun k hk => by
        rcases hk with e | e
        · omega
        · have := (ho.lt k e).1; omega⟩
      clear hK ho ht hiN' hlt nown HC
      go_wp2_with fail
      go_ret
      first | exact ⟨_, rfl, HE.out⟩ | exact ⟨rfl, _, HE.out⟩
end Go.Proofs.Ytagplkgjdaojnaa
