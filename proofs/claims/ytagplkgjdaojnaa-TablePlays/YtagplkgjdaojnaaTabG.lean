import Derived.Test.YtagplkgjdaojnaaTabE
namespace Go.Proofs.Ytagplkgjdaojnaa
open Go.RowKit
attribute [local go_sem] Oper.semAt_some

theorem TV.out_end {w W : World} {T : Tk} {rs : List Rd} {j f g mb cap : Nat} {r : Rd} {A B : List En} (h : TV w T rs) (hj : rs[j]? = some r) (hf : f = 2 ∨ f = 3) (hve : T.ve = .slice (some ⟨g, 0, none⟩) (A.length + B.length + 1) cap) (hvm : T.vm = some mb) (hs' : es (rs.set j (r.to f)) = A ++ B)
    (c0 : W.cell? ⟨T.tb, 0, none⟩ = some (.slice (some ⟨g, 0, none⟩) (A.length + B.length) cap)) (c1 : W.cell? ⟨T.tb, 1, none⟩ = some (.map T.vm)) (c2 : W.cell? ⟨T.tb, 2, none⟩ = some T.vf) (z : ∀ o, o < 3 → W.frozen? ⟨T.tb, o, none⟩ = false)
    (re : W.ownsRow 0 36 3 (.slice (some ⟨g, 0, none⟩) (A.length + B.length) cap) (A.length + B.length) (fl ecells (A ++ B))) (rf : W.ownsRow 0 27 1 T.vf rs.length ((fcells rs).set j (.int .i64 (f : Int)))) (mi : MI W mb (A.length + B.length) (pl (A ++ B))) (K : Keeps T.Blk w W) :
    TV W ⟨T.tb, .slice (some ⟨g, 0, none⟩) (A.length + B.length) cap, T.vm, T.vf⟩ (rs.set j (r.to f)) ∧ Lf w W T ⟨T.tb, .slice (some ⟨g, 0, none⟩) (A.length + B.length) cap, T.vm, T.vf⟩ := by
  have eb : T.ve.ownBlock = some g := by rw [hve]; rfl
  have n1 : g ≠ T.tb := fun e => h.n1 (by rw [eb, e])
  refine ⟨⟨c0, c1, c2, z, ?_, ?_, .inr ⟨mb, hvm, ?_⟩, h.gd.to hj hf, fun e => n1 (Option.some.inj e), h.n2, fun g' e => ?_, h.n4, fun g' e => ?_⟩, K, fun k hk => ?_, rfl⟩
  · rw [hs', List.length_append]; exact re
  · rw [List.length_set, show fcells (rs.set j (r.to f)) = (fcells rs).set j (.int .i64 (f : Int)) by simp [fcells, List.map_set, Rd.to]]; exact rf
  · rw [hs', List.length_append]; exact mi
  · obtain rfl : g = g' := Option.some.inj e
    exact h.n3 _ eb
  · have := h.n5 g' e
    rw [eb] at this
    exact this
  · rcases hk with e | e | e | e
    · exact .inl (.inl e)
    · exact .inl (.inr (.inl (eb.trans e)))
    · exact .inl (.inr (.inr (.inl e)))
    · exact .inl (.inr (.inr (.inr e)))

set_option maxHeartbeats 1600000 in
set_option maxRecDepth 1000000 in
theorem take_no {w : World} {T : Tk} {rs : List Rd} (h : TV w T rs) {k : Int} (f : Int) (hk : I64 k) (hn : ¬ hld rs k) : Calls Try.prog 24 #[.pointer (some ⟨T.tb, 0, none⟩), .int .i64 k, .int .i64 f] w fun e w' => e = .returned (.tuple #[ev0, .int .i64 71]) ∧ Keeps (fun _ => False) w w' := by
  have hs : (pl (es rs) k).isSome = false := by
    cases e : (pl (es rs) k).isSome with
    | false => rfl
    | true => exact absurd ((hld_pl h.gd k).2 e) hn
  have f1 := h.f1
  have lt := h.tlt
  have hl := fun ob => h.look hk ((Keeps.refl (fun _ => False) w).alloc ob)
  rw [hs] at hl
  clear h hs hn
  go_enter Try.func24, Try.ntmps24
  go_wp2
  refine bodyPost_ret (v := .tuple #[ev0, .int .i64 71]) (by rw [results_cell_tmp rfl]; go_simp; rfl) rfl ⟨rfl, ?_⟩
  exact ((Keeps.refl _ w).alloc _)

set_option maxHeartbeats 3200000 in
set_option maxRecDepth 1000000 in
theorem take_ok {w : World} {T : Tk} {rs : List Rd} (h : TV w T rs) {j f : Nat} {r : Rd} (hj : rs[j]? = some r) (hr : r.fate = 1) (hf : f = 2 ∨ f = 3) (hn : rs.length ≤ 4398046511200) : Calls Try.prog 24 #[.pointer (some ⟨T.tb, 0, none⟩), .int .i64 r.ob, .int .i64 (f : Int)] w fun e w' => e = .returned (.tuple #[ev (r.en j), .int .i64 0]) ∧ ∃ T', TV w' T' (rs.set j (r.to f)) ∧ Lf w w' T T' := by
  obtain ⟨A, B, hs, hs'⟩ := out_split hj hr hf
  have hnum := h.gd.num r (List.mem_of_getElem? hj)
  have hpe : (es rs)[A.length]? = some (r.en j) := by rw [hs]; simp
  have hpl : pl (es rs) r.ob = some A.length := pl_of h.gd.dis hpe
  have hlen : (es rs).length = A.length + B.length + 1 := by rw [hs]; simp; omega
  have hle := es_len rs
  obtain ⟨ae, cap, hve, hce⟩ := h.eform
  obtain ⟨g, rfl, hg, hen⟩ := hce _ _ hpe
  obtain ⟨af, cf, hvf, hcf⟩ := h.fform
  obtain ⟨gf, rfl, hgf, cf0, zf0⟩ := hcf _ _ hj
  rw [hlen] at hve
  obtain ⟨mb, hvm, hmi⟩ : ∃ mb, T.vm = some mb ∧ MI w mb (es rs).length (pl (es rs)) := by
    rcases h.mp with ⟨_, e⟩ | e
    · rw [e] at hj; simp at hj
    · exact e
  have ntg : g ≠ T.tb := fun e => h.n1 (by rw [hg, e])
  have ntf : gf ≠ T.tb := fun e => h.n2 (by rw [hgf, e])
  have ngf : gf ≠ g := fun e => h.n3 g hg (by rw [hgf, e])
  have ntm : mb ≠ T.tb := fun e => h.n4 (by rw [hvm, e])
  have nmg : mb ≠ g := fun e => (h.n5 mb hvm).1 (by rw [hg, e])
  have nmf : mb ≠ gf := fun e => (h.n5 mb hvm).2 (by rw [hgf, e])
  have hl := fun ob => h.look hnum.1 ((Keeps.refl (fun _ => False) w).alloc ob)
  rw [hpl] at hl
  simp only [Option.getD_some, Option.isSome_some] at hl
  have ho : w.ownsRow 0 36 3 (.slice (some ⟨g, 0, none⟩) (A.length + B.length + 1) cap) (A.length + B.length + 1) (fl ecells (A ++ r.en j :: B)) := by
    have := h.re
    rw [hve, hlen] at this
    rw [hs] at this
    exact this
  have hof : w.ownsRow 0 27 1 (.slice (some ⟨gf, 0, none⟩) rs.length cf) rs.length (fcells rs) := hvf ▸ h.rf
  rw [hs, List.length_append, List.length_cons] at hmi
  rw [show A.length + (B.length + 1) = A.length + B.length + 1 by omega] at hmi
  have f0 := h.f0
  rw [hve] at f0
  have f1 := h.f1
  rw [hvm] at f1 hl
  have f2 := h.f2
  rw [hvf] at f2
  have lt := h.tlt
  have c0 := fun ob => (hen.keep ((Keeps.refl (fun _ => False) w).alloc ob) (fun e => e)).r0
  have c1 := fun ob => (hen.keep ((Keeps.refl (fun _ => False) w).alloc ob) (fun e => e)).r1
  have c2 := fun ob => (hen.keep ((Keeps.refl (fun _ => False) w).alloc ob) (fun e => e)).r2
  have hpI : (A.length : Int) < ((A.length + B.length + 1 : Nat) : Int) := by omega
  have hp0 : (0 : Int) ≤ (A.length : Int) := by omega
  have hjI : (j : Int) < (rs.length : Int) := by have := (List.getElem?_eq_some_iff.1 hj).1; omega
  have hj0 : (0 : Int) ≤ (j : Int) := by omega
  have hi : ∀ x ∈ A ++ r.en j :: B, I64 x.ob := fun x hx => by
    rw [← hs] at hx
    obtain ⟨r', h1, _, h3⟩ := es_get hx
    rw [h3]
    exact (h.gd.num r' (List.mem_of_getElem? h1)).1
  have hdis : Dis (A ++ r.en j :: B) := hs ▸ h.gd.dis
  have hdis' : Dis (A ++ B) := hs' ▸ (h.gd.to hj hf).dis
  obtain ⟨W1, hW1⟩ : ∃ W1, Hid (W1 = (w.alloc (.cells #[.int .i64 0, .int .i64 0, .int .i64 0] 36)).alloc (.cells #[.int .i64 r.ob, .int .i64 r.ver, .int .i64 (j : Int)] 36)) := ⟨_, rfl⟩
  have k1 : Keeps (fun _ => False) w W1 := by rw [hW1.out]; exact ((Keeps.refl _ w).alloc _).alloc _
  have s1 : W1.heap.size = w.heap.size + 2 := by rw [hW1.out]; simp
  have x0 : W1.cell? ⟨w.heap.size + 1, 0, none⟩ = some (.int .i64 r.ob) := by rw [hW1.out]; simp
  have x1 : W1.cell? ⟨w.heap.size + 1, 1, none⟩ = some (.int .i64 r.ver) := by rw [hW1.out]; simp
  have x2 : W1.cell? ⟨w.heap.size + 1, 2, none⟩ = some (.int .i64 (j : Int)) := by rw [hW1.out]; simp
  have y : ∀ o, o < 3 → W1.cell? ⟨w.heap.size, o, none⟩ = some (.int .i64 0) ∧ W1.frozen? ⟨w.heap.size, o, none⟩ = false := fun o ho => by
    rw [hW1.out]
    rcases (by omega : o = 0 ∨ o = 1 ∨ o = 2) with rfl | rfl | rfl <;> simp
  have lg := owns_lt' ho g rfl
  have lgf := owns_lt' hof gf rfl
  have lmb := hmi.lt
  have t0 := k1.cell f0 (fun e => e)
  have t1 := k1.cell f1 (fun e => e)
  have t2 := k1.cell f2 (fun e => e)
  have tf := k1.cell cf0 (fun e => e)
  have tz := (k1.frozen (p := ⟨gf, j, none⟩) lgf (fun e => e)).trans zf0
  have o1 := k1.owns hof (fun _ _ e => e)
  -- behind the store of the fate
  have s2 := (World.ownsRow.drew o1).stored j (.int .i64 (f : Int))
  have k2 : Keeps (fun i => i = gf) W1 (W1.drew.setCell ⟨gf, j, none⟩ (.int .i64 (f : Int))) := ((Keeps.refl (fun i => i = gf) W1).drew).setCell (p := ⟨gf, j, none⟩) (fun _ => rfl) _
  have K2 : Keeps (fun i => i = gf) w (W1.drew.setCell ⟨gf, j, none⟩ (.int .i64 (f : Int))) := k1.trans' k2 (fun _ _ e => e.elim) (fun _ _ e => e)
  have hM := moveUp_any (K2.cell f0 (Ne.symm ntf)) (K2.cell f1 (Ne.symm ntf)) ((K2.frozen (p := ⟨T.tb, 0, none⟩) lt (Ne.symm ntf)).trans (h.z 0 (by omega))) (K2.owns ho (fun g' e => by cases e; exact Ne.symm ngf)) (hmi.keep K2 nmf) hdis hdis' hi ntg ntm nmg (by omega)
  have HEND : Hid (∀ W3 : World, W3.cell? ⟨T.tb, 0, none⟩ = some (.slice (some ⟨g, 0, none⟩) (A.length + B.length) cap) → W3.ownsRow 0 36 3 (.slice (some ⟨g, 0, none⟩) (A.length + B.length) cap) (A.length + B.length) (fl ecells (A ++ B)) → MI W3 mb (A.length + B.length) (pl (A ++ B)) →
      Keeps (fun i => i = T.tb ∨ i = g ∨ i = mb) (W1.drew.setCell ⟨gf, j, none⟩ (.int .i64 (f : Int))) W3 → (∀ o v, o ≠ 0 → (W1.drew.setCell ⟨gf, j, none⟩ (.int .i64 (f : Int))).cell? ⟨T.tb, o, none⟩ = some v → W3.cell? ⟨T.tb, o, none⟩ = some v) → (∀ o, W3.frozen? ⟨T.tb, o, none⟩ = (W1.drew.setCell ⟨gf, j, none⟩ (.int .i64 (f : Int))).frozen? ⟨T.tb, o, none⟩) →
      ∀ W4, Keeps (fun i => i = w.heap.size) W3 W4 → ∃ T', TV W4 T' (rs.set j (r.to f)) ∧ Lf w W4 T T') := fun W3 q0 q1 q2 q3 q4 q5 W4 q6 => by
    have KK : Keeps T.Blk w W3 := (K2.mono (fun i _ e => by subst e; exact .inr (.inr (.inr hgf)))).trans' q3 (fun _ _ e => e) (fun i _ e => by
      rcases e with rfl | rfl | rfl
      · exact .inl rfl
      · exact .inr (.inl hg)
      · exact .inr (.inr (.inl hvm)))
    obtain ⟨hT, hL⟩ := h.out_end hj hf hve hvm hs' q0 (q4 1 _ (by omega) (by rw [hvm]; exact K2.cell f1 (Ne.symm ntf))) (q4 2 _ (by omega) (by rw [hvf]; exact K2.cell f2 (Ne.symm ntf))) (fun o ho => (q5 o).trans ((K2.frozen (p := ⟨T.tb, o, none⟩) lt (Ne.symm ntf)).trans (h.z o ho))) q1 (by rw [hvf]; exact q3.owns s2.1 (fun g' e e' => by
      cases e
      rcases e' with e' | e' | e'
      · exact ntf e'
      · exact ngf e'
      · exact nmf e'.symm)) q2 KK
    refine ⟨_, hT.keep q6 (fun i hi e => ?_), hL.kp.trans' q6 (fun _ _ e => e) (fun i hi e => by omega), hL.bk, hL.tb⟩
    rcases hi with e' | e' | e' | e'
    · simp only at e'; omega
    · cases e'; simp only at e; omega
    · simp only at e'; rw [hvm] at e'; cases e'; omega
    · simp only at e'; rw [hgf] at e'; cases e'; omega
  obtain ⟨p, hp⟩ : ∃ p, Hid (p = A.length) := ⟨_, rfl⟩
  obtain ⟨q, hq⟩ : ∃ q, Hid (q = A.length + B.length) := ⟨_, rfl⟩
  rw [← hq.out] at hM HEND f0 t0 hpI
  rw [← hp.out] at hM hl c0 c1 c2 hpI hp0
  have n1 : ¬ w.heap.size = gf := by omega
  have n2 : ¬ w.heap.size + 1 = gf := by omega
  have n3 : ¬ gf = w.heap.size + 1 := by omega
  have n4 : ¬ gf = T.tb := ntf
  have n5 : ¬ T.tb = gf := Ne.symm ntf
  have hvo : (r.en j).ob = r.ob := rfl
  simp only [Rd.en] at c0 c1 c2
  have HEV : Hid (ev (r.en j) = .agg #[.int .i64 r.ob, .int .i64 r.ver, .int .i64 (j : Int)]) := rfl
  rw [HEV.out]
  generalize rs.length = N at *
  clear hcf hce hen hs s2 o1 hmi ho hof hi hdis hdis' hpl hpe hle hve hvf hvm hj hr hf hnum hlen HEV hvo hs' hn h
  go_enter Try.func24, Try.ntmps24
  go_wp2_with fail
  rw [← hW1.out]
  clear c0 c1 c2 hl f0 f1 f2 cf0 zf0
  go_region_held3 (fun w' => w'.cell? ⟨T.tb, 2, none⟩ = some (.slice (some ⟨gf, 0, none⟩) N cf) ∧ w'.cell? ⟨w.heap.size + 1, 2, none⟩ = some (.int .i64 (j : Int))) (go_keep) (fail)
  rename_i hHeld
  clear hHeld
  go_wp2_with ((go_at_call 39; refine hM.mono ?_; rintro e w3 ⟨rfl, q0, q1, q2, q3, q4, q5⟩; clear hM; have HE9 := HEND.out w3 q0 q1 q2 q3 q4 q5; have HE : Hid (∀ W4, Keeps (fun i => i = w.heap.size) w3 W4 → ∃ T', TV W4 T' (rs.set j (r.to f)) ∧ Lf w W4 T T') := HE9; clear HE9 HEND q0 q1 q2 q4 q5; have nR : ¬ (w.heap.size = T.tb ∨ w.heap.size = g ∨ w.heap.size = mb) := (by omega); have nQ : ¬ (w.heap.size + 1 = T.tb ∨ w.heap.size + 1 = g ∨ w.heap.size + 1 = mb) := (by omega); have X0 := q3.cell (k2.cell x0 n2) nQ; have X1 := q3.cell (k2.cell x1 n2) nQ; have X2 := q3.cell (k2.cell x2 n2) nQ; have Y0 := q3.cell (k2.cell (y 0 (by omega)).1 n1) nR; have Y1 := q3.cell (k2.cell (y 1 (by omega)).1 n1) nR; have Y2 := q3.cell (k2.cell (y 2 (by omega)).1 n1) nR; have YZ : ∀ o, o < 3 → w3.frozen? ⟨w.heap.size, o, none⟩ = false := fun o ho => (q3.frozen (p := ⟨w.heap.size, o, none⟩) (Nat.lt_of_lt_of_le (World.block_lt_of_cell? _ _ (y o ho).1) k2.size) nR).trans ((k2.frozen (p := ⟨w.heap.size, o, none⟩) (World.block_lt_of_cell? _ _ (y o ho).1) n1).trans (y o ho).2); have Z0 := YZ 0 (by omega); have Z1 := YZ 1 (by omega); have Z2 := YZ 2 (by omega); clear YZ q3 y k2 K2 k1))
  refine bodyPost_ret (v := .tuple #[.agg #[.int .i64 r.ob, .int .i64 r.ver, .int .i64 (j : Int)], .int .i64 0]) (by rw [results_cell_tmp rfl]; go_simp) rfl ⟨rfl, ?_⟩
  exact HE.out _ (((keeps_set w3 w.heap.size 0 _).trans (keeps_set _ w.heap.size 1 _)).trans (keeps_set _ w.heap.size 2 _))


set_option maxHeartbeats 1600000 in
set_option maxRecDepth 1000000 in
theorem release_no {w : World} {T : Tk} {rs : List Rd} (h : TV w T rs) {k : Int} (hk : I64 k) (hn : ¬ hld rs k) : Calls Try.prog 12 #[.pointer (some ⟨T.tb, 0, none⟩), .int .i64 k] w fun e w' => e = .returned (.tuple #[ev0, .int .i64 71]) ∧ Keeps (fun _ => False) w w' := by
  have hc := fun ob => take_no (h.new ((Keeps.refl (fun _ => False) w).alloc ob)) 2 hk hn
  have lt := h.tlt
  clear h hn
  unfold ev0 at *
  go_enter Try.func12, Try.ntmps12
  go_wp2_with ((go_at_call 24; refine (hc _).mono ?_; rintro e w1 ⟨rfl, k1⟩; have c0 := k1.cell (p := ⟨w.heap.size, 0, none⟩) (v := .int .i64 0) (by simp) (fun e => e); have c1 := k1.cell (p := ⟨w.heap.size, 1, none⟩) (v := .int .i64 0) (by simp) (fun e => e); have c2 := k1.cell (p := ⟨w.heap.size, 2, none⟩) (v := .int .i64 0) (by simp) (fun e => e); have z0 := (k1.frozen (p := ⟨w.heap.size, 0, none⟩) (by simp) (fun e => e)).trans (show _ = false by simp); have z1 := (k1.frozen (p := ⟨w.heap.size, 1, none⟩) (by simp) (fun e => e)).trans (show _ = false by simp); have z2 := (k1.frozen (p := ⟨w.heap.size, 2, none⟩) (by simp) (fun e => e)).trans (show _ = false by simp)))
  refine bodyPost_ret (v := .tuple #[.agg #[.int .i64 0, .int .i64 0, .int .i64 0], .int .i64 71]) (by rw [results_cell_tmp rfl]; go_simp) rfl ⟨rfl, ?_⟩
  exact (((Keeps.refl _ w).alloc _).trans k1).trans' (((keeps_set w1 w.heap.size 0 _).trans (keeps_set _ w.heap.size 1 _)).trans (keeps_set _ w.heap.size 2 _)) (fun _ _ e => e) (fun i hi e => by omega)
set_option maxHeartbeats 1600000 in
set_option maxRecDepth 1000000 in
theorem release_ok {w : World} {T : Tk} {rs : List Rd} (h : TV w T rs) {j : Nat} {r : Rd} (hj : rs[j]? = some r) (hr : r.fate = 1) (hn : rs.length ≤ 4398046511200) : Calls Try.prog 12 #[.pointer (some ⟨T.tb, 0, none⟩), .int .i64 r.ob] w fun e w' => e = .returned (.tuple #[ev (r.en j), .int .i64 0]) ∧ ∃ T', TV w' T' (rs.set j (r.to 2)) ∧ Lf w w' T T' := by
  have hc := fun ob => take_ok (f := 2) (h.new ((Keeps.refl (fun _ => False) w).alloc ob)) hj hr (by omega) hn
  have lt := h.tlt
  have HB : Hid (∀ k, T.Blk k → k < w.heap.size) := fun k hk => h.lt hk
  clear h hj hr hn
  unfold ev at *
  go_enter Try.func12, Try.ntmps12
  go_wp2_with ((go_at_call 24; refine (hc _).mono ?_; rintro e w1 ⟨rfl, T1, hT1, hL1⟩; have nb : ¬ T.Blk w.heap.size := (fun e => by have := HB.out _ e; omega); have c0 := hL1.kp.cell (p := ⟨w.heap.size, 0, none⟩) (v := .int .i64 0) (by simp) nb; have c1 := hL1.kp.cell (p := ⟨w.heap.size, 1, none⟩) (v := .int .i64 0) (by simp) nb; have c2 := hL1.kp.cell (p := ⟨w.heap.size, 2, none⟩) (v := .int .i64 0) (by simp) nb; have z0 := (hL1.kp.frozen (p := ⟨w.heap.size, 0, none⟩) (by simp) nb).trans (show _ = false by simp); have z1 := (hL1.kp.frozen (p := ⟨w.heap.size, 1, none⟩) (by simp) nb).trans (show _ = false by simp); have z2 := (hL1.kp.frozen (p := ⟨w.heap.size, 2, none⟩) (by simp) nb).trans (show _ = false by simp); have HT1 : Hid (TV w1 T1 (rs.set j (r.to 2))) := hT1; have HL1 : Hid (Lf (w.alloc (.cells #[.int .i64 0, .int .i64 0, .int .i64 0] 36)) w1 T T1) := hL1; clear hT1 hL1 hc))
  refine bodyPost_ret (v := .tuple #[.agg #[.int .i64 (r.en j).ob, .int .i64 (r.en j).ver, .int .i64 ((r.en j).ord : Int)], .int .i64 0]) (by rw [results_cell_tmp rfl]; go_simp) rfl ⟨rfl, ?_⟩
  have kS := ((keeps_set w1 w.heap.size 0 (.int .i64 (r.en j).ob)).trans (keeps_set _ w.heap.size 1 (.int .i64 (r.en j).ver))).trans (keeps_set _ w.heap.size 2 (.int .i64 ((r.en j).ord : Int)))
  have hA : (w.alloc (.cells #[.int .i64 0, .int .i64 0, .int .i64 0] 36)).heap.size = w.heap.size + 1 := by simp
  refine ⟨T1, HT1.out.keep kS (fun i hi e => ?_), (((Keeps.refl T.Blk w).alloc _).trans HL1.out.kp).trans' kS (fun _ _ e => e) (fun i hi e => by omega), fun i hi => ?_, HL1.out.tb⟩
  · rcases HL1.out.bk i hi with h1 | h1
    · have := HB.out i h1; omega
    · omega
  · rcases HL1.out.bk i hi with h1 | h1
    · exact .inl h1
    · exact .inr (by omega)

set_option maxHeartbeats 1600000 in
set_option maxRecDepth 1000000 in
theorem upgrade_no {w : World} {T : Tk} {rs : List Rd} (h : TV w T rs) {k : Int} (hk : I64 k) (hn : ¬ hld rs k) : Calls Try.prog 11 #[.pointer (some ⟨T.tb, 0, none⟩), .int .i64 k] w fun e w' => e = .returned (.tuple #[ev0, .int .i64 71]) ∧ Keeps (fun _ => False) w w' := by
  have hc := fun ob => take_no (h.new ((Keeps.refl (fun _ => False) w).alloc ob)) 3 hk hn
  have lt := h.tlt
  clear h hn
  unfold ev0 at *
  go_enter Try.func11, Try.ntmps11
  go_wp2_with ((go_at_call 24; refine (hc _).mono ?_; rintro e w1 ⟨rfl, k1⟩; have c0 := k1.cell (p := ⟨w.heap.size, 0, none⟩) (v := .int .i64 0) (by simp) (fun e => e); have c1 := k1.cell (p := ⟨w.heap.size, 1, none⟩) (v := .int .i64 0) (by simp) (fun e => e); have c2 := k1.cell (p := ⟨w.heap.size, 2, none⟩) (v := .int .i64 0) (by simp) (fun e => e); have z0 := (k1.frozen (p := ⟨w.heap.size, 0, none⟩) (by simp) (fun e => e)).trans (show _ = false by simp); have z1 := (k1.frozen (p := ⟨w.heap.size, 1, none⟩) (by simp) (fun e => e)).trans (show _ = false by simp); have z2 := (k1.frozen (p := ⟨w.heap.size, 2, none⟩) (by simp) (fun e => e)).trans (show _ = false by simp)))
  refine bodyPost_ret (v := .tuple #[.agg #[.int .i64 0, .int .i64 0, .int .i64 0], .int .i64 71]) (by rw [results_cell_tmp rfl]; go_simp) rfl ⟨rfl, ?_⟩
  exact (((Keeps.refl _ w).alloc _).trans k1).trans' (((keeps_set w1 w.heap.size 0 _).trans (keeps_set _ w.heap.size 1 _)).trans (keeps_set _ w.heap.size 2 _)) (fun _ _ e => e) (fun i hi e => by omega)
set_option maxHeartbeats 1600000 in
set_option maxRecDepth 1000000 in
theorem upgrade_ok {w : World} {T : Tk} {rs : List Rd} (h : TV w T rs) {j : Nat} {r : Rd} (hj : rs[j]? = some r) (hr : r.fate = 1) (hn : rs.length ≤ 4398046511200) : Calls Try.prog 11 #[.pointer (some ⟨T.tb, 0, none⟩), .int .i64 r.ob] w fun e w' => e = .returned (.tuple #[ev (r.en j), .int .i64 0]) ∧ ∃ T', TV w' T' (rs.set j (r.to 3)) ∧ Lf w w' T T' := by
  have hc := fun ob => take_ok (f := 3) (h.new ((Keeps.refl (fun _ => False) w).alloc ob)) hj hr (by omega) hn
  have lt := h.tlt
  have HB : Hid (∀ k, T.Blk k → k < w.heap.size) := fun k hk => h.lt hk
  clear h hj hr hn
  unfold ev at *
  go_enter Try.func11, Try.ntmps11
  go_wp2_with ((go_at_call 24; refine (hc _).mono ?_; rintro e w1 ⟨rfl, T1, hT1, hL1⟩; have nb : ¬ T.Blk w.heap.size := (fun e => by have := HB.out _ e; omega); have c0 := hL1.kp.cell (p := ⟨w.heap.size, 0, none⟩) (v := .int .i64 0) (by simp) nb; have c1 := hL1.kp.cell (p := ⟨w.heap.size, 1, none⟩) (v := .int .i64 0) (by simp) nb; have c2 := hL1.kp.cell (p := ⟨w.heap.size, 2, none⟩) (v := .int .i64 0) (by simp) nb; have z0 := (hL1.kp.frozen (p := ⟨w.heap.size, 0, none⟩) (by simp) nb).trans (show _ = false by simp); have z1 := (hL1.kp.frozen (p := ⟨w.heap.size, 1, none⟩) (by simp) nb).trans (show _ = false by simp); have z2 := (hL1.kp.frozen (p := ⟨w.heap.size, 2, none⟩) (by simp) nb).trans (show _ = false by simp); have HT1 : Hid (TV w1 T1 (rs.set j (r.to 3))) := hT1; have HL1 : Hid (Lf (w.alloc (.cells #[.int .i64 0, .int .i64 0, .int .i64 0] 36)) w1 T T1) := hL1; clear hT1 hL1 hc))
  refine bodyPost_ret (v := .tuple #[.agg #[.int .i64 (r.en j).ob, .int .i64 (r.en j).ver, .int .i64 ((r.en j).ord : Int)], .int .i64 0]) (by rw [results_cell_tmp rfl]; go_simp) rfl ⟨rfl, ?_⟩
  have kS := ((keeps_set w1 w.heap.size 0 (.int .i64 (r.en j).ob)).trans (keeps_set _ w.heap.size 1 (.int .i64 (r.en j).ver))).trans (keeps_set _ w.heap.size 2 (.int .i64 ((r.en j).ord : Int)))
  have hA : (w.alloc (.cells #[.int .i64 0, .int .i64 0, .int .i64 0] 36)).heap.size = w.heap.size + 1 := by simp
  refine ⟨T1, HT1.out.keep kS (fun i hi e => ?_), (((Keeps.refl T.Blk w).alloc _).trans HL1.out.kp).trans' kS (fun _ _ e => e) (fun i hi e => by omega), fun i hi => ?_, HL1.out.tb⟩
  · rcases HL1.out.bk i hi with h1 | h1
    · have := HB.out i h1; omega
    · omega
  · rcases HL1.out.bk i hi with h1 | h1
    · exact .inl h1
    · exact .inr (by omega)
end Go.Proofs.Ytagplkgjdaojnaa
