import Derived.Test.YtgjndhbfjofkeaaGreatDoorG09
import Derived.Test.YtgjndhbfjofkeaaGreatDoorG01
import Derived.IntWalk
import Derived.Test.YtgjndhbfjofkeaaGreatDoorG07
namespace Go.Proofs.YtgjndhbfjofkeaaGreatDoor.TB
open Go.RowKit
attribute [local go_sem] Oper.semAt_some
theorem TV.out_end {w W : World} {T : Tk} {rs : List Rd} {j f g mb cap : Nat} {r : Rd} {A B : List En} (h : TV w T rs) (hj : rs[j]? = some r) (hf : f = 2 ∨ f = 3) (hve : T.ve = .slice (some ⟨g, 0, none⟩) (A.length + B.length + 1) cap) (hvm : T.vm = some mb) (hs' : es (rs.set j (r.to f)) = A ++ B)
    (c0 : W.cell? ⟨T.tb, 11, none⟩ = some (.slice (some ⟨g, 0, none⟩) (A.length + B.length) cap)) (c1 : W.cell? ⟨T.tb, 12, none⟩ = some (.map T.vm)) (c2 : W.cell? ⟨T.tb, 13, none⟩ = some T.vf) (z : ∀ o, o < 36 → W.frozen? ⟨T.tb, o, none⟩ = false)
    (re : W.ownsRow 0 141 3 (.slice (some ⟨g, 0, none⟩) (A.length + B.length) cap) (A.length + B.length) (fl ecells (A ++ B))) (rf : W.ownsRow 0 218 1 T.vf rs.length ((fcells rs).set j (.int .i64 (f : Int)))) (mi : OM W mb (A.length + B.length) (pl (A ++ B))) (K : Keeps T.Blk w W) (oc : ∀ o v, o < 11 ∨ 14 ≤ o → w.cell? ⟨T.tb, o, none⟩ = some v → W.cell? ⟨T.tb, o, none⟩ = some v) :
    TV W ⟨T.tb, .slice (some ⟨g, 0, none⟩) (A.length + B.length) cap, T.vm, T.vf⟩ (rs.set j (r.to f)) ∧ Lf w W T ⟨T.tb, .slice (some ⟨g, 0, none⟩) (A.length + B.length) cap, T.vm, T.vf⟩ := by
  have eb : T.ve.ownBlock = some g := by rw [hve]; rfl
  have n1 : g ≠ T.tb := fun e => h.n1 (by rw [eb, e])
  refine ⟨⟨c0, c1, c2, z, ?_, ?_, .inr ⟨mb, hvm, ?_⟩, h.gd.to hj hf, fun e => n1 (Option.some.inj e), h.n2, fun g' e => ?_, h.n4, fun g' e => ?_⟩, K, fun k hk => ?_, rfl, oc⟩
  · rw [hs', List.length_append]; exact re
  · rw [List.length_set, show fcells (rs.set j (r.to f)) = (fcells rs).set j (.int .i64 (f : Int)) by simp [fcells, List.map_set, Rd.to]]; exact rf
  · rw [hs', List.length_append]; exact mi
  · obtain rfl : g = g' := Option.some.inj e
    exact h.n3 _ eb
  · have := h.n5 g' e
    rw [eb] at this
    exact this
  · rcases hk with e | e | e | e
    · exact .inl (.inl e)
    · exact .inl (.inr (.inl (eb.trans e)))
    · exact .inl (.inr (.inr (.inl e)))
    · exact .inl (.inr (.inr (.inr e)))
set_option maxHeartbeats 1600000 in
set_option maxRecDepth 1000000 in
theorem take_no {w : World} {T : Tk} {rs : List Rd} (h : TV w T rs) {k : Int} (f : Int) (hk : I64 k) (hn : ¬ hld rs k) : Calls Tryz.prog 136 #[.pointer (some ⟨T.tb, 11, none⟩), .int .i64 k, .int .i64 f] w fun e w' => e = .returned (.tuple #[ev0, .int .i64 71]) ∧ Keeps (fun _ => False) w w' := by
  have hs : (pl (es rs) k).isSome = false := by
    cases e : (pl (es rs) k).isSome with
    | false => rfl
    | true => exact absurd ((hld_pl h.gd k).2 e) hn
  have f1 := h.f1
  have lt := h.tlt
  have hl := fun ob => h.look hk ((Keeps.refl (fun _ => False) w).alloc ob)
  rw [hs] at hl
  clear h hs hn
  go_enter Tryz.func136, Tryz.ntmps136
  go_wp2
  refine bodyPost_ret (v := .tuple #[ev0, .int .i64 71]) (by rw [results_cell_tmp rfl]; go_simp; rfl) rfl ⟨rfl, ?_⟩
  exact ((Keeps.refl _ w).alloc _)
set_option maxHeartbeats 3200000 in
set_option maxRecDepth 1000000 in
theorem take_ok {w : World} {T : Tk} {rs : List Rd} (h : TV w T rs) {j f : Nat} {r : Rd} (hj : rs[j]? = some r) (hr : r.fate = 1) (hf : f = 2 ∨ f = 3) (hn : rs.length ≤ 4398046511200) : Calls Tryz.prog 136 #[.pointer (some ⟨T.tb, 11, none⟩), .int .i64 r.ob, .int .i64 (f : Int)] w fun e w' => e = .returned (.tuple #[ev (r.en j), .int .i64 0]) ∧ ∃ T', TV w' T' (rs.set j (r.to f)) ∧ Lf w w' T T' := by
  obtain ⟨A, B, hs, hs'⟩ := out_split hj hr hf
  have hnum := h.gd.num r (List.mem_of_getElem? hj)
  have hpe : (es rs)[A.length]? = some (r.en j) := by rw [hs]; simp
  have hpl : pl (es rs) r.ob = some A.length := pl_of h.gd.dis hpe
  have hlen : (es rs).length = A.length + B.length + 1 := by rw [hs]; simp; omega
  have hle := es_len rs
  obtain ⟨ae, cap, hve, hce⟩ := h.eform
  obtain ⟨g, rfl, hg, hen⟩ := hce _ _ hpe
  obtain ⟨af, cf, hvf, hcf⟩ := h.fform
  obtain ⟨gf, rfl, hgf, cf0, zf0⟩ := hcf _ _ hj
  rw [hlen] at hve
  obtain ⟨mb, hvm, hmi⟩ : ∃ mb, T.vm = some mb ∧ OM w mb (es rs).length (pl (es rs)) := by
    rcases h.mp with ⟨_, e⟩ | e
    · rw [e] at hj; simp at hj
    · exact e
  have ntg : g ≠ T.tb := fun e => h.n1 (by rw [hg, e])
  have ntf : gf ≠ T.tb := fun e => h.n2 (by rw [hgf, e])
  have ngf : gf ≠ g := fun e => h.n3 g hg (by rw [hgf, e])
  have ntm : mb ≠ T.tb := fun e => h.n4 (by rw [hvm, e])
  have nmg : mb ≠ g := fun e => (h.n5 mb hvm).1 (by rw [hg, e])
  have nmf : mb ≠ gf := fun e => (h.n5 mb hvm).2 (by rw [hgf, e])
  have hl := fun ob => h.look hnum.1 ((Keeps.refl (fun _ => False) w).alloc ob)
  rw [hpl] at hl
  simp only [Option.getD_some, Option.isSome_some] at hl
  have ho : w.ownsRow 0 141 3 (.slice (some ⟨g, 0, none⟩) (A.length + B.length + 1) cap) (A.length + B.length + 1) (fl ecells (A ++ r.en j :: B)) := by
    have := h.re
    rw [hve, hlen] at this
    rw [hs] at this
    exact this
  have hof : w.ownsRow 0 218 1 (.slice (some ⟨gf, 0, none⟩) rs.length cf) rs.length (fcells rs) := hvf ▸ h.rf
  rw [hs, List.length_append, List.length_cons] at hmi
  rw [show A.length + (B.length + 1) = A.length + B.length + 1 by omega] at hmi
  have f0 := h.f0
  rw [hve] at f0
  have f1 := h.f1
  rw [hvm] at f1 hl
  have f2 := h.f2
  rw [hvf] at f2
  have lt := h.tlt
  have c0 := fun ob => (hen.keep ((Keeps.refl (fun _ => False) w).alloc ob) (fun e => e)).r0
  have c1 := fun ob => (hen.keep ((Keeps.refl (fun _ => False) w).alloc ob) (fun e => e)).r1
  have c2 := fun ob => (hen.keep ((Keeps.refl (fun _ => False) w).alloc ob) (fun e => e)).r2
  have hpI : (A.length : Int) < ((A.length + B.length + 1 : Nat) : Int) := by omega
  have hp0 : (0 : Int) ≤ (A.length : Int) := by omega
  have hjI : (j : Int) < (rs.length : Int) := by have := (List.getElem?_eq_some_iff.1 hj).1; omega
  have hj0 : (0 : Int) ≤ (j : Int) := by omega
  have hi : ∀ x ∈ A ++ r.en j :: B, I64 x.ob := fun x hx => by
    rw [← hs] at hx
    obtain ⟨r', h1, _, h3⟩ := es_get hx
    rw [h3]
    exact (h.gd.num r' (List.mem_of_getElem? h1)).1
  have hdis : Dis (A ++ r.en j :: B) := hs ▸ h.gd.dis
  have hdis' : Dis (A ++ B) := hs' ▸ (h.gd.to hj hf).dis
  obtain ⟨W1, hW1⟩ : ∃ W1, Hid (W1 = (w.alloc (.cells #[.int .i64 0, .int .i64 0, .int .i64 0] 141)).alloc (.cells #[.int .i64 r.ob, .int .i64 r.ver, .int .i64 (j : Int)] 141)) := ⟨_, rfl⟩
  have k1 : Keeps (fun _ => False) w W1 := by rw [hW1.out]; exact ((Keeps.refl _ w).alloc _).alloc _
  have s1 : W1.heap.size = w.heap.size + 2 := by rw [hW1.out]; simp
  have x0 : W1.cell? ⟨w.heap.size + 1, 0, none⟩ = some (.int .i64 r.ob) := by rw [hW1.out]; simp
  have x1 : W1.cell? ⟨w.heap.size + 1, 1, none⟩ = some (.int .i64 r.ver) := by rw [hW1.out]; simp
  have x2 : W1.cell? ⟨w.heap.size + 1, 2, none⟩ = some (.int .i64 (j : Int)) := by rw [hW1.out]; simp
  have y : ∀ o, o < 3 → W1.cell? ⟨w.heap.size, o, none⟩ = some (.int .i64 0) ∧ W1.frozen? ⟨w.heap.size, o, none⟩ = false := fun o ho => by
    rw [hW1.out]
    rcases (by omega : o = 0 ∨ o = 1 ∨ o = 2) with rfl | rfl | rfl <;> simp
  have lg := owns_lt' ho g rfl
  have lgf := owns_lt' hof gf rfl
  have lmb := hmi.lt
  have t0 := k1.cell f0 (fun e => e)
  have t1 := k1.cell f1 (fun e => e)
  have t2 := k1.cell f2 (fun e => e)
  have tf := k1.cell cf0 (fun e => e)
  have tz := (k1.frozen (p := ⟨gf, j, none⟩) lgf (fun e => e)).trans zf0
  have o1 := k1.owns hof (fun _ _ e => e)
  -- behind the store of the fate
  have s2 := (World.ownsRow.drew o1).stored j (.int .i64 (f : Int))
  have k2 : Keeps (fun i => i = gf) W1 (W1.drew.setCell ⟨gf, j, none⟩ (.int .i64 (f : Int))) := ((Keeps.refl (fun i => i = gf) W1).drew).setCell (p := ⟨gf, j, none⟩) (fun _ => rfl) _
  have K2 : Keeps (fun i => i = gf) w (W1.drew.setCell ⟨gf, j, none⟩ (.int .i64 (f : Int))) := k1.trans' k2 (fun _ _ e => e.elim) (fun _ _ e => e)
  have hM := moveUp_any (K2.cell f0 (Ne.symm ntf)) (K2.cell f1 (Ne.symm ntf)) ((K2.frozen (p := ⟨T.tb, 11, none⟩) lt (Ne.symm ntf)).trans (h.z 11 (by omega))) (K2.owns ho (fun g' e => by cases e; exact Ne.symm ngf)) (hmi.keep K2 nmf) hdis hdis' hi ntg ntm nmg (by omega)
  have HEND : Hid (∀ W3 : World, W3.cell? ⟨T.tb, 11, none⟩ = some (.slice (some ⟨g, 0, none⟩) (A.length + B.length) cap) → W3.ownsRow 0 141 3 (.slice (some ⟨g, 0, none⟩) (A.length + B.length) cap) (A.length + B.length) (fl ecells (A ++ B)) → OM W3 mb (A.length + B.length) (pl (A ++ B)) →
      Keeps (fun i => i = T.tb ∨ i = g ∨ i = mb) (W1.drew.setCell ⟨gf, j, none⟩ (.int .i64 (f : Int))) W3 → (∀ o v, o ≠ 11 → (W1.drew.setCell ⟨gf, j, none⟩ (.int .i64 (f : Int))).cell? ⟨T.tb, o, none⟩ = some v → W3.cell? ⟨T.tb, o, none⟩ = some v) → (∀ o, W3.frozen? ⟨T.tb, o, none⟩ = (W1.drew.setCell ⟨gf, j, none⟩ (.int .i64 (f : Int))).frozen? ⟨T.tb, o, none⟩) →
      ∀ W4, Keeps (fun i => i = w.heap.size) W3 W4 → ∃ T', TV W4 T' (rs.set j (r.to f)) ∧ Lf w W4 T T') := fun W3 q0 q1 q2 q3 q4 q5 W4 q6 => by
    have KK : Keeps T.Blk w W3 := (K2.mono (fun i _ e => by subst e; exact .inr (.inr (.inr hgf)))).trans' q3 (fun _ _ e => e) (fun i _ e => by
      rcases e with rfl | rfl | rfl
      · exact .inl rfl
      · exact .inr (.inl hg)
      · exact .inr (.inr (.inl hvm)))
    obtain ⟨hT, hL⟩ := h.out_end hj hf hve hvm hs' q0 (q4 12 _ (by omega) (by rw [hvm]; exact K2.cell f1 (Ne.symm ntf))) (q4 13 _ (by omega) (by rw [hvf]; exact K2.cell f2 (Ne.symm ntf))) (fun o ho => (q5 o).trans ((K2.frozen (p := ⟨T.tb, o, none⟩) lt (Ne.symm ntf)).trans (h.z o ho))) q1 (by rw [hvf]; exact q3.owns s2.1 (fun g' e e' => by
      cases e
      rcases e' with e' | e' | e'
      · exact ntf e'
      · exact ngf e'
      · exact nmf e'.symm)) q2 KK (fun o v ho hc => q4 o v (by omega) (K2.cell hc (Ne.symm ntf)))
    refine ⟨_, hT.keep q6 (fun i hi e => ?_), hL.kp.trans' q6 (fun _ _ e => e) (fun i hi e => by omega), hL.bk, hL.tb, fun o v ho hc => q6.cell (hL.oc o v ho hc) (fun e => by simp only at e; omega)⟩
    rcases hi with e' | e' | e' | e'
    · simp only at e'; omega
    · cases e'; simp only at e; omega
    · simp only at e'; rw [hvm] at e'; cases e'; omega
    · simp only at e'; rw [hgf] at e'; cases e'; omega
  obtain ⟨p, hp⟩ : ∃ p, Hid (p = A.length) := ⟨_, rfl⟩
  obtain ⟨q, hq⟩ : ∃ q, Hid (q = A.length + B.length) := ⟨_, rfl⟩
  rw [← hq.out] at hM HEND f0 t0 hpI
  rw [← hp.out] at hM hl c0 c1 c2 hpI hp0
  have n1 : ¬ w.heap.size = gf := by omega
  have n2 : ¬ w.heap.size + 1 = gf := by omega
  have n3 : ¬ gf = w.heap.size + 1 := by omega
  have n4 : ¬ gf = T.tb := ntf
  have n5 : ¬ T.tb = gf := Ne.symm ntf
  have hvo : (r.en j).ob = r.ob := rfl
  simp only [Rd.en] at c0 c1 c2
  have HEV : Hid (ev (r.en j) = .agg #[.int .i64 r.ob, .int .i64 r.ver, .int .i64 (j : Int)]) := rfl
  rw [HEV.out]
  generalize rs.length = N at *
  clear hcf hce hen hs s2 o1 hmi ho hof hi hdis hdis' hpl hpe hle hve hvf hvm hj hr hf hnum hlen HEV hvo hs' hn h
  go_enter Tryz.func136, Tryz.ntmps136
  go_wp2_with fail
  rw [← hW1.out]
  clear c0 c1 c2 hl f0 f1 f2 cf0 zf0
  go_region_held3 (fun w' => w'.cell? ⟨T.tb, 13, none⟩ = some (.slice (some ⟨gf, 0, none⟩) N cf) ∧ w'.cell? ⟨w.heap.size + 1, 2, none⟩ = some (.int .i64 (j : Int))) (go_keep) (fail)
  rename_i hHeld
  clear hHeld
  go_wp2_with ((go_at_call 155; refine hM.mono ?_; rintro e w3 ⟨rfl, q0, q1, q2, q3, q4, q5⟩; clear hM; have HE9 := HEND.out w3 q0 q1 q2 q3 q4 q5; have HE : Hid (∀ W4, Keeps (fun i => i = w.heap.size) w3 W4 → ∃ T', TV W4 T' (rs.set j (r.to f)) ∧ Lf w W4 T T') := HE9; clear HE9 HEND q0 q1 q2 q4 q5; have nR : ¬ (w.heap.size = T.tb ∨ w.heap.size = g ∨ w.heap.size = mb) := (by omega); have nQ : ¬ (w.heap.size + 1 = T.tb ∨ w.heap.size + 1 = g ∨ w.heap.size + 1 = mb) := (by omega); have X0 := q3.cell (k2.cell x0 n2) nQ; have X1 := q3.cell (k2.cell x1 n2) nQ; have X2 := q3.cell (k2.cell x2 n2) nQ; have Y0 := q3.cell (k2.cell (y 0 (by omega)).1 n1) nR; have Y1 := q3.cell (k2.cell (y 1 (by omega)).1 n1) nR; have Y2 := q3.cell (k2.cell (y 2 (by omega)).1 n1) nR; have YZ : ∀ o, o < 3 → w3.frozen? ⟨w.heap.size, o, none⟩ = false := fun o ho => (q3.frozen (p := ⟨w.heap.size, o, none⟩) (Nat.lt_of_lt_of_le (World.block_lt_of_cell? _ _ (y o ho).1) k2.size) nR).trans ((k2.frozen (p := ⟨w.heap.size, o, none⟩) (World.block_lt_of_cell? _ _ (y o ho).1) n1).trans (y o ho).2); have Z0 := YZ 0 (by omega); have Z1 := YZ 1 (by omega); have Z2 := YZ 2 (by omega); clear YZ q3 y k2 K2 k1))
  refine bodyPost_ret (v := .tuple #[.agg #[.int .i64 r.ob, .int .i64 r.ver, .int .i64 (j : Int)], .int .i64 0]) (by rw [results_cell_tmp rfl]; go_simp) rfl ⟨rfl, ?_⟩
  exact HE.out _ (((keeps_set w3 w.heap.size 0 _).trans (keeps_set _ w.heap.size 1 _)).trans (keeps_set _ w.heap.size 2 _))
set_option maxHeartbeats 1600000 in
set_option maxRecDepth 1000000 in
theorem release_no {w : World} {T : Tk} {rs : List Rd} (h : TV w T rs) {k : Int} (hk : I64 k) (hn : ¬ hld rs k) : Calls Tryz.prog 112 #[.pointer (some ⟨T.tb, 11, none⟩), .int .i64 k] w fun e w' => e = .returned (.tuple #[ev0, .int .i64 71]) ∧ Keeps (fun _ => False) w w' := by
  have hc := fun ob => take_no (h.new ((Keeps.refl (fun _ => False) w).alloc ob)) 2 hk hn
  have lt := h.tlt
  clear h hn
  unfold ev0 at *
  go_enter Tryz.func112, Tryz.ntmps112
  go_wp2_with ((go_at_call 136; refine (hc _).mono ?_; rintro e w1 ⟨rfl, k1⟩; have c0 := k1.cell (p := ⟨w.heap.size, 0, none⟩) (v := .int .i64 0) (by simp) (fun e => e); have c1 := k1.cell (p := ⟨w.heap.size, 1, none⟩) (v := .int .i64 0) (by simp) (fun e => e); have c2 := k1.cell (p := ⟨w.heap.size, 2, none⟩) (v := .int .i64 0) (by simp) (fun e => e); have z0 := (k1.frozen (p := ⟨w.heap.size, 0, none⟩) (by simp) (fun e => e)).trans (show _ = false by simp); have z1 := (k1.frozen (p := ⟨w.heap.size, 1, none⟩) (by simp) (fun e => e)).trans (show _ = false by simp); have z2 := (k1.frozen (p := ⟨w.heap.size, 2, none⟩) (by simp) (fun e => e)).trans (show _ = false by simp)))
  refine bodyPost_ret (v := .tuple #[.agg #[.int .i64 0, .int .i64 0, .int .i64 0], .int .i64 71]) (by rw [results_cell_tmp rfl]; go_simp) rfl ⟨rfl, ?_⟩
  exact (((Keeps.refl _ w).alloc _).trans k1).trans' (((keeps_set w1 w.heap.size 0 _).trans (keeps_set _ w.heap.size 1 _)).trans (keeps_set _ w.heap.size 2 _)) (fun _ _ e => e) (fun i hi e => by omega)
set_option maxHeartbeats 1600000 in
set_option maxRecDepth 1000000 in
theorem release_ok {w : World} {T : Tk} {rs : List Rd} (h : TV w T rs) {j : Nat} {r : Rd} (hj : rs[j]? = some r) (hr : r.fate = 1) (hn : rs.length ≤ 4398046511200) : Calls Tryz.prog 112 #[.pointer (some ⟨T.tb, 11, none⟩), .int .i64 r.ob] w fun e w' => e = .returned (.tuple #[ev (r.en j), .int .i64 0]) ∧ ∃ T', TV w' T' (rs.set j (r.to 2)) ∧ Lf w w' T T' := by
  have hc := fun ob => take_ok (f := 2) (h.new ((Keeps.refl (fun _ => False) w).alloc ob)) hj hr (by omega) hn
  have lt := h.tlt
  have HB : Hid (∀ k, T.Blk k → k < w.heap.size) := fun k hk => h.lt hk
  clear h hj hr hn
  unfold ev at *
  go_enter Tryz.func112, Tryz.ntmps112
  go_wp2_with ((go_at_call 136; refine (hc _).mono ?_; rintro e w1 ⟨rfl, T1, hT1, hL1⟩; have nb : ¬ T.Blk w.heap.size := (fun e => by have := HB.out _ e; omega); have c0 := hL1.kp.cell (p := ⟨w.heap.size, 0, none⟩) (v := .int .i64 0) (by simp) nb; have c1 := hL1.kp.cell (p := ⟨w.heap.size, 1, none⟩) (v := .int .i64 0) (by simp) nb; have c2 := hL1.kp.cell (p := ⟨w.heap.size, 2, none⟩) (v := .int .i64 0) (by simp) nb; have z0 := (hL1.kp.frozen (p := ⟨w.heap.size, 0, none⟩) (by simp) nb).trans (show _ = false by simp); have z1 := (hL1.kp.frozen (p := ⟨w.heap.size, 1, none⟩) (by simp) nb).trans (show _ = false by simp); have z2 := (hL1.kp.frozen (p := ⟨w.heap.size, 2, none⟩) (by simp) nb).trans (show _ = false by simp); have HT1 : Hid (TV w1 T1 (rs.set j (r.to 2))) := hT1; have HL1 : Hid (Lf (w.alloc (.cells #[.int .i64 0, .int .i64 0, .int .i64 0] 141)) w1 T T1) := hL1; clear hT1 hL1 hc))
  refine bodyPost_ret (v := .tuple #[.agg #[.int .i64 (r.en j).ob, .int .i64 (r.en j).ver, .int .i64 ((r.en j).ord : Int)], .int .i64 0]) (by rw [results_cell_tmp rfl]; go_simp) rfl ⟨rfl, ?_⟩
  have kS := ((keeps_set w1 w.heap.size 0 (.int .i64 (r.en j).ob)).trans (keeps_set _ w.heap.size 1 (.int .i64 (r.en j).ver))).trans (keeps_set _ w.heap.size 2 (.int .i64 ((r.en j).ord : Int)))
  have hA : (w.alloc (.cells #[.int .i64 0, .int .i64 0, .int .i64 0] 141)).heap.size = w.heap.size + 1 := by simp
  refine ⟨T1, HT1.out.keep kS (fun i hi e => ?_), (((Keeps.refl T.Blk w).alloc _).trans HL1.out.kp).trans' kS (fun _ _ e => e) (fun i hi e => by omega), fun i hi => ?_, HL1.out.tb, fun o v ho hc => kS.cell (HL1.out.oc o v ho (((Keeps.refl (fun _ => False) w).alloc _).cell hc (fun e => e))) (fun e => by simp only at e; omega)⟩
  · rcases HL1.out.bk i hi with h1 | h1
    · have := HB.out i h1; omega
    · omega
  · rcases HL1.out.bk i hi with h1 | h1
    · exact .inl h1
    · exact .inr (by omega)
set_option maxHeartbeats 1600000 in
set_option maxRecDepth 1000000 in
theorem upgrade_no {w : World} {T : Tk} {rs : List Rd} (h : TV w T rs) {k : Int} (hk : I64 k) (hn : ¬ hld rs k) : Calls Tryz.prog 169 #[.pointer (some ⟨T.tb, 11, none⟩), .int .i64 k] w fun e w' => e = .returned (.tuple #[ev0, .int .i64 71]) ∧ Keeps (fun _ => False) w w' := by
  have hc := fun ob => take_no (h.new ((Keeps.refl (fun _ => False) w).alloc ob)) 3 hk hn
  have lt := h.tlt
  clear h hn
  unfold ev0 at *
  go_enter Tryz.func169, Tryz.ntmps169
  go_wp2_with ((go_at_call 136; refine (hc _).mono ?_; rintro e w1 ⟨rfl, k1⟩; have c0 := k1.cell (p := ⟨w.heap.size, 0, none⟩) (v := .int .i64 0) (by simp) (fun e => e); have c1 := k1.cell (p := ⟨w.heap.size, 1, none⟩) (v := .int .i64 0) (by simp) (fun e => e); have c2 := k1.cell (p := ⟨w.heap.size, 2, none⟩) (v := .int .i64 0) (by simp) (fun e => e); have z0 := (k1.frozen (p := ⟨w.heap.size, 0, none⟩) (by simp) (fun e => e)).trans (show _ = false by simp); have z1 := (k1.frozen (p := ⟨w.heap.size, 1, none⟩) (by simp) (fun e => e)).trans (show _ = false by simp); have z2 := (k1.frozen (p := ⟨w.heap.size, 2, none⟩) (by simp) (fun e => e)).trans (show _ = false by simp)))
  refine bodyPost_ret (v := .tuple #[.agg #[.int .i64 0, .int .i64 0, .int .i64 0], .int .i64 71]) (by rw [results_cell_tmp rfl]; go_simp) rfl ⟨rfl, ?_⟩
  exact (((Keeps.refl _ w).alloc _).trans k1).trans' (((keeps_set w1 w.heap.size 0 _).trans (keeps_set _ w.heap.size 1 _)).trans (keeps_set _ w.heap.size 2 _)) (fun _ _ e => e) (fun i hi e => by omega)
set_option maxHeartbeats 1600000 in
set_option maxRecDepth 1000000 in
theorem upgrade_ok {w : World} {T : Tk} {rs : List Rd} (h : TV w T rs) {j : Nat} {r : Rd} (hj : rs[j]? = some r) (hr : r.fate = 1) (hn : rs.length ≤ 4398046511200) : Calls Tryz.prog 169 #[.pointer (some ⟨T.tb, 11, none⟩), .int .i64 r.ob] w fun e w' => e = .returned (.tuple #[ev (r.en j), .int .i64 0]) ∧ ∃ T', TV w' T' (rs.set j (r.to 3)) ∧ Lf w w' T T' := by
  have hc := fun ob => take_ok (f := 3) (h.new ((Keeps.refl (fun _ => False) w).alloc ob)) hj hr (by omega) hn
  have lt := h.tlt
  have HB : Hid (∀ k, T.Blk k → k < w.heap.size) := fun k hk => h.lt hk
  clear h hj hr hn
  unfold ev at *
  go_enter Tryz.func169, Tryz.ntmps169
  go_wp2_with ((go_at_call 136; refine (hc _).mono ?_; rintro e w1 ⟨rfl, T1, hT1, hL1⟩; have nb : ¬ T.Blk w.heap.size := (fun e => by have := HB.out _ e; omega); have c0 := hL1.kp.cell (p := ⟨w.heap.size, 0, none⟩) (v := .int .i64 0) (by simp) nb; have c1 := hL1.kp.cell (p := ⟨w.heap.size, 1, none⟩) (v := .int .i64 0) (by simp) nb; have c2 := hL1.kp.cell (p := ⟨w.heap.size, 2, none⟩) (v := .int .i64 0) (by simp) nb; have z0 := (hL1.kp.frozen (p := ⟨w.heap.size, 0, none⟩) (by simp) nb).trans (show _ = false by simp); have z1 := (hL1.kp.frozen (p := ⟨w.heap.size, 1, none⟩) (by simp) nb).trans (show _ = false by simp); have z2 := (hL1.kp.frozen (p := ⟨w.heap.size, 2, none⟩) (by simp) nb).trans (show _ = false by simp); have HT1 : Hid (TV w1 T1 (rs.set j (r.to 3))) := hT1; have HL1 : Hid (Lf (w.alloc (.cells #[.int .i64 0, .int .i64 0, .int .i64 0] 141)) w1 T T1) := hL1; clear hT1 hL1 hc))
  refine bodyPost_ret (v := .tuple #[.agg #[.int .i64 (r.en j).ob, .int .i64 (r.en j).ver, .int .i64 ((r.en j).ord : Int)], .int .i64 0]) (by rw [results_cell_tmp rfl]; go_simp) rfl ⟨rfl, ?_⟩
  have kS := ((keeps_set w1 w.heap.size 0 (.int .i64 (r.en j).ob)).trans (keeps_set _ w.heap.size 1 (.int .i64 (r.en j).ver))).trans (keeps_set _ w.heap.size 2 (.int .i64 ((r.en j).ord : Int)))
  have hA : (w.alloc (.cells #[.int .i64 0, .int .i64 0, .int .i64 0] 141)).heap.size = w.heap.size + 1 := by simp
  refine ⟨T1, HT1.out.keep kS (fun i hi e => ?_), (((Keeps.refl T.Blk w).alloc _).trans HL1.out.kp).trans' kS (fun _ _ e => e) (fun i hi e => by omega), fun i hi => ?_, HL1.out.tb, fun o v ho hc => kS.cell (HL1.out.oc o v ho (((Keeps.refl (fun _ => False) w).alloc _).cell hc (fun e => e))) (fun e => by simp only at e; omega)⟩
  · rcases HL1.out.bk i hi with h1 | h1
    · have := HB.out i h1; omega
    · omega
  · rcases HL1.out.bk i hi with h1 | h1
    · exact .inl h1
    · exact .inr (by omega)
end Go.Proofs.YtgjndhbfjofkeaaGreatDoor.TB

namespace Go.Proofs.YtgjndhbfjofkeaaGreatDoor
open Go.RowKit
attribute [local go_sem] Oper.semAt_some run_store_nf run_store_f
abbrev Nx := Option Nat
def fnv (ab : Nat) : Nx → Value
  | none => .nilFunc
  | some f => .func (.func f) #[.pointer (some ⟨ab, 0, none⟩)] #[]
structure Sc where
  mb : Nat
  wb : Nat
  gb : Nat
  db : Nat
  ve : Value
  vm : Option Nat
  vf : Value
  om : Nat
  rs : List Rd
structure Tx where
  thread : Int
  stamp : Int
  prio : Int
  no : Nat
  rank : Int
  alive : Bool
  flag : Bool
  nx : Nx
  phase : Int
  object : Int
  base : Int
  made : Int
  entry : Int
  why : Int
  aob : Int
  aver : Int
  aord : Int
  place : Int
  loc : Int
  holder : Int
  status : Int
  current : Int
  found : Nx
  enemy : Int
  tries : Int
  waited : Int
  left : Int
  goOn : Nx
def iv (a : Int) : Value := .int .i64 a
def pv (b : Nat) : Value := .pointer (some ⟨b, 0, none⟩)
def Tx.cells (x : Tx) (c : Sc) (ab : Nat) : List Value :=
  [.pointer (some ⟨c.mb, 0, none⟩), .pointer (some ⟨c.wb, 0, none⟩), .pointer (some ⟨c.gb, 0, none⟩), .pointer (some ⟨c.db, 0, none⟩),
   .int .i64 x.thread, .int .i64 x.stamp, .int .i64 x.prio, .int .i64 (x.no : Int), .int .i64 x.rank, .bool x.alive, .bool x.flag,
   c.ve, .map c.vm, c.vf, .map (some c.om), fnv ab x.nx,
   .int .i64 x.phase, .int .i64 x.object, .int .i64 x.base, .int .i64 x.made, .int .i64 x.entry, .int .i64 x.why,
   .int .i64 x.aob, .int .i64 x.aver, .int .i64 x.aord, .int .i64 x.place, .int .i64 x.loc, .int .i64 x.holder, .int .i64 x.status, .int .i64 x.current, fnv ab x.found,
   .int .i64 x.enemy, .int .i64 x.tries, .int .i64 x.waited, .int .i64 x.left, fnv ab x.goOn]
def Tx.op (x : Tx) (ph ob : Int) : Tx := { x with phase := ph, object := ob, base := 0, made := 0, entry := -1, why := 0, aob := 0, aver := 0, aord := 0, place := 0, loc := 0, holder := 0, status := 0, current := 0, found := none, enemy := -1, tries := 0, waited := 0, left := 0, goOn := none }
def Tx.thru (x : Tx) : Tx := { x with nx := none, phase := 0, object := 0, base := 0, made := 0, entry := 0, why := 0, aob := 0, aver := 0, aord := 0, place := 0, loc := 0, holder := 0, status := 0, current := 0, found := none, enemy := 0, tries := 0, waited := 0, left := 0, goOn := none }
theorem i76 : (Tryz.prog.info? 147).map (·.size) = some 20 := by kernel_rfl
theorem i72 : (Tryz.prog.info? 143).map (·.size) = some 9 := by kernel_rfl
theorem i46 : (Tryz.prog.info? 36).map (·.size) = some 26 := by kernel_rfl
section
variable {w w' : World} {x : Tx} {c : Sc} {ab : Nat}
set_option maxHeartbeats 1600000 in
set_option maxRecDepth 1000000 in
theorem abegin (h : CL w ab (x.cells c ab)) (ph ob : Int) :
    Calls Tryz.prog 68 #[.pointer (some ⟨ab, 0, none⟩), .int .i64 ph, .int .i64 ob] w fun e w' => e = .returned (.tuple #[]) ∧ CL w' ab ((x.op ph ob).cells c ab) ∧ Keeps (fun k => k = ab) w w' := by
  go_enter Tryz.func68, Tryz.ntmps68
  go_wp2_with (refine wpList_store_cl rfl 147 _ _ rfl ab 16 20 _ rfl rfl rfl h (by show 36 ≤ 36; decide) i76 (by simp [Value.oneCell']) ?_; intro w1 h1 k1 _)
  go_end0
  exact ⟨rfl, h1, k1⟩
set_option maxHeartbeats 1600000 in
set_option maxRecDepth 1000000 in
theorem athrough (h : CL w ab (x.cells c ab)) :
    Calls Tryz.prog 127 #[.pointer (some ⟨ab, 0, none⟩)] w fun e w' => e = .returned (.tuple #[]) ∧ CL w' ab (x.thru.cells c ab) ∧ Keeps (fun k => k = ab) w w' := by
  have f15 := h.c 15 _ rfl
  have zf15 := h.z 15 (by show 15 < 36; decide)
  have h1 := h.set (o := 15) (by show 15 < 36; decide) .nilFunc
  go_enter Tryz.func127, Tryz.ntmps127
  go_wp2_with (refine wpList_store_cl rfl 147 _ _ rfl ab 16 20 _ rfl rfl rfl h1 (by show 36 ≤ 36; decide) i76 (by simp [Value.oneCell']) ?_; intro w2 h2 k2 _)
  go_end0
  exact ⟨rfl, h2, ((Keeps.refl _ w).setA _ _).trans k2⟩
def Tx.opn (x : Tx) (fd : Nat) : Tx := { x with nx := some 108, aob := x.object, aver := 0, aord := -1, place := 0, loc := 0, holder := 0, status := 0, current := 0, found := some fd }
set_option maxHeartbeats 1600000 in
set_option maxRecDepth 1000000 in
theorem alook (h : CL w ab (x.cells c ab)) (fd : Nat) :
    Calls Tryz.prog 85 #[.pointer (some ⟨ab, 0, none⟩), .func (.func fd) #[.pointer (some ⟨ab, 0, none⟩)] #[]] w fun e w' => e = .returned (.tuple #[]) ∧ CL w' ab ((x.opn fd).cells c ab) ∧ Keeps (fun k => k = ab) w w' := by
  have f17 := h.c 17 _ rfl
  have hmf : ∀ (fn : Fn) (first cap : Array Value) (w : World), (Instr.makeFunc fn first cap).run Tryz.prog w = .ok (.func fn first cap) w := fun _ _ _ _ => rfl
  go_enter Tryz.func85, Tryz.ntmps85
  go_wp2_with (refine wpList_store_cl rfl 143 _ _ rfl ab 22 9 _ rfl rfl rfl h (by show 31 ≤ 36; decide) i72 (by simp [Value.oneCell']) ?_; intro w1 h1 k1 _; have g15 := h1.c 15 _ rfl; have zg15 := h1.z 15 (by show 15 < 36; decide); clear f17)
  go_end0
  exact ⟨rfl, h1.set (o := 15) (by show 15 < 36; decide) _, k1.setA _ _⟩
end
end Go.Proofs.YtgjndhbfjofkeaaGreatDoor

namespace Go.Proofs.YtgjndhbfjofkeaaGreatDoor
open Go.RowKit
def Mm.val (m : Mm) (c : Nat) : Int := (ca m.cells c).2
theorem Mm.val_load (m : Mm) (c i : Nat) : (m.load c).val i = m.val i := by
  show (ca (m.cells.set c _) i).2 = (ca m.cells i).2
  by_cases h : c < m.cells.length
  · by_cases e : c = i
    · subst e; simp [ca, List.getD_eq_getElem?_getD, h]
    · simp [ca, List.getD_eq_getElem?_getD, e]
  · rw [List.set_eq_of_length_le (by omega)]
theorem Mm.len_load (m : Mm) (c : Nat) : (m.load c).cells.length = m.cells.length := by simp [Mm.load, Mm.take]
theorem Mm.len_swap (m : Mm) (c : Nat) (x y : Int) : (m.swap c x y).cells.length = m.cells.length := by simp [Mm.swap, Mm.take]
theorem ca_set (l : List (Int × Int)) (c i : Nat) (p : Int × Int) : ca (l.set c p) i = if i = c ∧ c < l.length then p else ca l i := by
  by_cases h : c < l.length
  · by_cases e : i = c
    · subst e; rw [if_pos ⟨rfl, h⟩]; simp [ca, List.getD_eq_getElem?_getD, h]
    · rw [if_neg (fun q => e q.1)]
      have e2 : ¬ c = i := fun q => e q.symm
      simp [ca, List.getD_eq_getElem?_getD, e2]
  · rw [if_neg (fun q => h q.2), List.set_eq_of_length_le (by omega)]
theorem Mm.val_swap (m : Mm) (c i : Nat) (x y : Int) : (m.swap c x y).val i = if i = c ∧ c < m.cells.length ∧ m.val c = x then y else m.val i := by
  have e0 : (m.swap c x y).val i = (ca (m.cells.set c ((ca m.cells c).1, if (ca m.cells c).2 = x then y else (ca m.cells c).2)) i).2 := rfl
  rw [e0, ca_set]
  by_cases e : i = c ∧ c < m.cells.length
  · rw [if_pos e]
    by_cases e' : m.val c = x
    · rw [if_pos (c := (ca m.cells c).2 = x) e', if_pos (c := i = c ∧ c < m.cells.length ∧ m.val c = x) ⟨e.1, e.2, e'⟩]
    · rw [if_neg (c := (ca m.cells c).2 = x) e', if_neg (c := i = c ∧ c < m.cells.length ∧ m.val c = x) (fun q => e' q.2.2), e.1]; rfl
  · rw [if_neg e, if_neg (fun q => e ⟨q.1, q.2.1⟩)]; rfl
theorem Mm.len_make (m : Mm) (x : Int) : (m.make x).cells.length = m.cells.length + 1 := by simp [Mm.make]
theorem Mm.val_make (m : Mm) (x : Int) (c : Nat) : (m.make x).val c = if c = m.cells.length then x else m.val c := by
  show (ca (m.cells ++ [(x, x)]) c).2 = _
  rcases Nat.lt_trichotomy c m.cells.length with h | h | h
  · rw [if_neg (by omega)]; simp [Mm.val, ca, List.getD_eq_getElem?_getD, List.getElem?_append_left h]
  · subst h; simp [ca, List.getD_eq_getElem?_getD]
  · rw [if_neg (by omega)]
    have h1 : (m.cells ++ [(x, x)])[c]? = none := List.getElem?_eq_none (by simp; omega)
    have h2 : m.cells[c]? = none := List.getElem?_eq_none (by omega)
    simp [Mm.val, ca, List.getD_eq_getElem?_getD, h1, h2]
structure Inv (s : Ws) (m : Mm) : Prop where
  vl : s.vals.length = s.locs.length
  lo : ∀ i, i < s.locs.length → (s.lo i).new = i ∧ (s.lo i).old < s.locs.length ∧ (s.lo i).owner < s.atts.length
  ca_ : ∀ i, i < s.atts.length → (s.att i).status < m.cells.length ∧ (s.att i).flag < m.cells.length
  co : ∀ i, i < s.objs.length → s.ob i < m.cells.length
  at_ : ∀ i, i < s.objs.length → ∃ k : Nat, m.val (s.ob i) = (k : Int) ∧ k < s.locs.length ∧ (s.lo k).used = true
  na : s.atts.length ≤ 16384
  nl : s.locs.length ≤ 16384
  no : s.objs.length ≤ 80
  a1 : 1 ≤ s.atts.length
  kap : ∃ κ : Nat → Nat, (∀ i, i < s.atts.length → κ (s.att i).status = 3 * i ∧ κ (s.att i).flag = 3 * i + 1) ∧ ∀ i, i < s.objs.length → κ (s.ob i) = 3 * i + 2
  gen : m.val (s.att 0).status = 2
  old : ∀ i, i < s.locs.length → m.val (s.att (s.lo (s.lo i).old).owner).status = 2
section
variable {s s' : Ws} {m m' : Mm}
theorem Inv.wf (h : Inv s m) : Wf s m :=
  ⟨h.vl, h.lo, h.ca_, fun i hi => by
    obtain ⟨k, e, hk, _⟩ := h.at_ i hi
    have e1 : s.at_ m i = k := by unfold Ws.at_; rw [show (ca m.cells (s.ob i)).2 = (k : Int) from e]; simp
    exact ⟨h.co i hi, by rw [e1]; exact e, by rw [e1]; exact hk⟩, h.na, h.nl, h.no, h.a1⟩
theorem isC_iff {a : Nat} : s.isC m a = true ↔ m.val (s.att a).status = 2 := by simp [Ws.isC, Mm.val]
theorem isC_not {a : Nat} : s.isC m a = false ↔ m.val (s.att a).status ≠ 2 := by simp [Ws.isC, Mm.val]
theorem Inv.congr (h : Inv s m) (hl : m.cells.length ≤ m'.cells.length) (hv : ∀ c, c < m.cells.length → m'.val c = m.val c) : Inv s m' :=
  ⟨h.vl, h.lo, fun i hi => ⟨Nat.lt_of_lt_of_le (h.ca_ i hi).1 hl, Nat.lt_of_lt_of_le (h.ca_ i hi).2 hl⟩, fun i hi => Nat.lt_of_lt_of_le (h.co i hi) hl,
   fun i hi => by rw [hv _ (h.co i hi)]; exact h.at_ i hi, h.na, h.nl, h.no, h.a1, h.kap, by rw [hv _ (h.ca_ 0 h.a1).1]; exact h.gen,
   fun i hi => by rw [hv _ (h.ca_ _ (h.lo _ (h.lo i hi).2.1).2.2).1]; exact h.old i hi⟩
theorem Inv.mem (h : Inv s m) (st th : Int) : Inv s (m.begin st th) := h.congr (Nat.le_refl _) (fun _ _ => rfl)
theorem Inv.load (h : Inv s m) (c : Nat) : Inv s (m.load c) := h.congr (by rw [m.len_load]; exact Nat.le_refl _) (fun i _ => m.val_load c i)
theorem Inv.make (h : Inv s m) (x : Int) : Inv s (m.make x) := h.congr (by rw [m.len_make]; omega) (fun i hi => by rw [m.val_make, if_neg (by omega)])
theorem att_app {x : At} {i : Nat} : (⟨s.objs, s.atts ++ [x], s.locs, s.vals⟩ : Ws).att i = if i < s.atts.length then s.att i else if i = s.atts.length then x else at0 := by
  unfold Ws.att
  rcases Nat.lt_trichotomy i s.atts.length with h | h | h
  · rw [if_pos h]; simp [List.getD_eq_getElem?_getD, List.getElem?_append_left h]
  · subst h; simp [List.getD_eq_getElem?_getD]
  · rw [if_neg (by omega), if_neg (by omega)]
    have h1 : (s.atts ++ [x])[i]? = none := List.getElem?_eq_none (by simp; omega)
    simp [List.getD_eq_getElem?_getD, h1]
theorem lo_app {x : Lo} {vs : List Vl} {i : Nat} : (⟨s.objs, s.atts, s.locs ++ [x], vs⟩ : Ws).lo i = if i < s.locs.length then s.lo i else if i = s.locs.length then x else lo0 := by
  unfold Ws.lo
  rcases Nat.lt_trichotomy i s.locs.length with h | h | h
  · rw [if_pos h]; simp [List.getD_eq_getElem?_getD, List.getElem?_append_left h]
  · subst h; simp [List.getD_eq_getElem?_getD]
  · rw [if_neg (by omega), if_neg (by omega)]
    have h1 : (s.locs ++ [x])[i]? = none := List.getElem?_eq_none (by simp; omega)
    simp [List.getD_eq_getElem?_getD, h1]
theorem Inv.beg (h : Inv s m) (hr : s.atts.length < 16384) (th st pr x : Int) : Inv (s.beg th st pr m.cells.length) ((m.make x).make 0) := by
  have hi := (h.make x).make 0
  have lm : ((m.make x).make 0).cells.length = m.cells.length + 2 := by rw [Mm.len_make, Mm.len_make]
  have e : ∀ i, (s.beg th st pr m.cells.length).att i = if i < s.atts.length then s.att i else if i = s.atts.length then ⟨th, st, pr, m.cells.length, m.cells.length + 1⟩ else at0 := fun i => att_app
  have el : (s.beg th st pr m.cells.length).atts.length = s.atts.length + 1 := by simp [Ws.beg]
  obtain ⟨κ, k1, k2⟩ := h.kap
  refine ⟨h.vl, fun i hi' => ?_, fun i hi' => ?_, hi.co, hi.at_, by omega, h.nl, h.no, by omega, ⟨fun c => if c < m.cells.length then κ c else if c = m.cells.length then 3 * s.atts.length else 3 * s.atts.length + 1, fun i hi' => ?_, fun i hi' => ?_⟩, ?_, fun i hi' => ?_⟩
  · have := h.lo i hi'
    exact ⟨this.1, this.2.1, by rw [el]; exact Nat.lt_succ_of_lt this.2.2⟩
  · rw [e, lm]
    by_cases hl : i < s.atts.length
    · rw [if_pos hl]; have := h.ca_ i hl; exact ⟨by omega, by omega⟩
    · rw [if_neg hl, if_pos (by omega)]; exact ⟨by simp, by simp⟩
  · rw [e]
    by_cases hl : i < s.atts.length
    · rw [if_pos hl]; have := h.ca_ i hl; simp only [if_pos this.1, if_pos this.2]; exact k1 i hl
    · have : i = s.atts.length := by omega
      rw [if_neg hl, if_pos this, this]
      have q : ¬ m.cells.length + 1 < m.cells.length := by omega
      simp [q]
  · have := h.co i hi'
    show (if s.ob i < _ then _ else _) = _
    rw [if_pos this]; exact k2 i hi'
  · rw [e, if_pos (show 0 < s.atts.length from h.a1)]; exact hi.gen
  · have := h.lo _ (h.lo i hi').2.1
    show ((m.make x).make 0).val ((s.beg th st pr m.cells.length).att (s.lo (s.lo i).old).owner).status = 2
    rw [e, if_pos this.2.2]; exact hi.old i hi'
theorem Inv.lay (h : Inv s m) {att old : Nat} (ha : att < s.atts.length) (ho : old < s.locs.length) (hC : s.isC m (s.lo old).owner = true) (hr : s.locs.length < 16384) (v : Vl) : Inv (s.lay att old v) m := by
  have e : ∀ i, (s.lay att old v).lo i = if i < s.locs.length then s.lo i else if i = s.locs.length then ⟨att, old, s.vals.length, false⟩ else lo0 := fun i => lo_app
  have el : (s.lay att old v).locs.length = s.locs.length + 1 := by simp [Ws.lay]
  have ev : (s.lay att old v).vals.length = s.vals.length + 1 := by simp [Ws.lay]
  refine ⟨by rw [el, ev, h.vl], fun i hi => ?_, h.ca_, h.co, fun i hi => ?_, h.na, by omega, h.no, h.a1, h.kap, h.gen, fun i hi => ?_⟩
  · rw [e, el]
    by_cases hl : i < s.locs.length
    · rw [if_pos hl]; have := h.lo i hl; exact ⟨this.1, by omega, this.2.2⟩
    · have : i = s.locs.length := by omega
      rw [if_neg hl, if_pos this]; exact ⟨by rw [this]; exact h.vl, by show old < _; omega, ha⟩
  · obtain ⟨k, e1, e2, e3⟩ := h.at_ i hi
    exact ⟨k, e1, by omega, by rw [e, if_pos e2]; exact e3⟩
  · show m.val (s.att _).status = 2
    by_cases hl : i < s.locs.length
    · have := (h.lo i hl).2.1
      rw [e i, if_pos hl, e, if_pos this]; exact h.old i hl
    · have hi2 : i = s.locs.length := by omega
      rw [e i, if_neg hl, if_pos hi2, e]
      show m.val (s.att (if old < _ then _ else _ : Lo).owner).status = 2
      rw [if_pos ho]; exact isC_iff.1 hC
theorem Inv.put (h : Inv s m) (i : Nat) (v : Vl) : Inv (s.put i v) m :=
  ⟨by simpa [Ws.put] using h.vl, h.lo, h.ca_, h.co, h.at_, h.na, h.nl, h.no, h.a1, h.kap, h.gen, h.old⟩
theorem lo_use {y i : Nat} {b : Bool} : (s.use y b).lo i = if i = y ∧ y < s.locs.length then { s.lo y with used := b } else s.lo i := by
  unfold Ws.use Ws.lo
  by_cases h : y < s.locs.length
  · by_cases e : i = y
    · subst e; rw [if_pos ⟨rfl, h⟩]; simp [List.getD_eq_getElem?_getD, h]
    · rw [if_neg (fun q => e q.1)]
      have e2 : ¬ y = i := fun q => e q.symm
      simp [List.getD_eq_getElem?_getD, e2]
  · rw [if_neg (fun q => h q.2), List.set_eq_of_length_le (by omega)]
theorem Inv.stat (h : Inv s m) {i : Nat} (hi : i < s.atts.length) (sv : Int) : Inv s (m.swap (s.att i).status 1 sv) := by
  obtain ⟨κ, k1, k2⟩ := h.kap
  have lm := m.len_swap (s.att i).status 1 sv
  have hv : ∀ c, m.val c ≠ 1 ∨ κ c ≠ 3 * i → (m.swap (s.att i).status 1 sv).val c = m.val c := fun c hc => by
    rw [m.val_swap, if_neg]
    rintro ⟨e, _, e3⟩
    rcases hc with q | q
    · exact q (by rw [e]; exact e3)
    · exact q (by rw [e]; exact (k1 i hi).1)
  refine ⟨h.vl, h.lo, fun a ha => by rw [lm]; exact h.ca_ a ha, fun a ha => by rw [lm]; exact h.co a ha, fun a ha => ?_, h.na, h.nl, h.no, h.a1, h.kap, ?_, fun a ha => ?_⟩
  · rw [hv _ (.inr (by rw [k2 a ha]; omega))]; exact h.at_ a ha
  · rw [hv _ (.inl (by rw [h.gen]; decide))]; exact h.gen
  · rw [hv _ (.inl (by rw [h.old a ha]; decide))]; exact h.old a ha
theorem Inv.flag (h : Inv s m) {i : Nat} (hi : i < s.atts.length) (x y : Int) : Inv s (m.swap (s.att i).flag x y) := by
  obtain ⟨κ, k1, k2⟩ := h.kap
  have lm := m.len_swap (s.att i).flag x y
  have hv : ∀ c, κ c ≠ 3 * i + 1 → (m.swap (s.att i).flag x y).val c = m.val c := fun c hc => by
    rw [m.val_swap, if_neg]
    rintro ⟨e, _, _⟩
    exact hc (by rw [e]; exact (k1 i hi).2)
  have hs : ∀ a, a < s.atts.length → κ (s.att a).status ≠ 3 * i + 1 := fun a ha => by rw [(k1 a ha).1]; omega
  refine ⟨h.vl, h.lo, fun a ha => by rw [lm]; exact h.ca_ a ha, fun a ha => by rw [lm]; exact h.co a ha, fun a ha => ?_, h.na, h.nl, h.no, h.a1, h.kap, ?_, fun a ha => ?_⟩
  · rw [hv _ (by rw [k2 a ha]; omega)]; exact h.at_ a ha
  · rw [hv _ (hs 0 h.a1)]; exact h.gen
  · rw [hv _ (hs _ (h.lo _ (h.lo a ha).2.1).2.2)]; exact h.old a ha
theorem Inv.acq (h : Inv s m) {o x y : Nat} (ho : o < s.objs.length) (hy : y < s.locs.length) (hU : (s.lo y).used = false) : Inv (s.use y (decide (m.val (s.ob o) = (x : Int)))) (m.swap (s.ob o) (x : Int) (y : Int)) := by
  obtain ⟨κ, k1, k2⟩ := h.kap
  have lm := m.len_swap (s.ob o) (x : Int) (y : Int)
  have lu : (s.use y (decide (m.val (s.ob o) = (x : Int)))).locs.length = s.locs.length := by simp [Ws.use]
  have hs : ∀ a, a < s.atts.length → (m.swap (s.ob o) (x : Int) (y : Int)).val (s.att a).status = m.val (s.att a).status := fun a ha => by
    rw [m.val_swap, if_neg]
    rintro ⟨e, _, _⟩
    have := (k1 a ha).1
    rw [e, k2 o ho] at this; omega
  have eo : ∀ i, ((s.use y (decide (m.val (s.ob o) = (x : Int)))).lo i).owner = (s.lo i).owner ∧ ((s.use y (decide (m.val (s.ob o) = (x : Int)))).lo i).old = (s.lo i).old ∧ ((s.use y (decide (m.val (s.ob o) = (x : Int)))).lo i).new = (s.lo i).new := fun i => by
    rw [lo_use]
    split
    · next q => rw [q.1]; exact ⟨rfl, rfl, rfl⟩
    · exact ⟨rfl, rfl, rfl⟩
  refine ⟨by rw [lu]; exact h.vl, fun i hi => ?_, fun a ha => by rw [lm]; exact h.ca_ a ha, fun a ha => by rw [lm]; exact h.co a ha, fun a ha => ?_, h.na, by rw [lu]; exact h.nl, h.no, h.a1, h.kap, ?_, fun i hi => ?_⟩
  · rw [lu] at hi ⊢
    obtain ⟨e1, e2, e3⟩ := eo i
    rw [e1, e2, e3]; exact h.lo i hi
  · rw [lu]
    show ∃ k : Nat, (m.swap (s.ob o) (x : Int) (y : Int)).val (s.ob a) = (k : Int) ∧ _
    have ha' : a < s.objs.length := ha
    rw [m.val_swap]
    by_cases e : s.ob a = s.ob o ∧ s.ob o < m.cells.length ∧ m.val (s.ob o) = (x : Int)
    · rw [if_pos e]
      exact ⟨y, rfl, hy, by rw [lo_use, if_pos ⟨rfl, hy⟩]; simp [e.2.2]⟩
    · rw [if_neg e]
      obtain ⟨k, q1, q2, q3⟩ := h.at_ a ha'
      refine ⟨k, q1, q2, ?_⟩
      rw [lo_use, if_neg]
      · exact q3
      · rintro ⟨rfl, _⟩; rw [q3] at hU; cases hU
  · show (m.swap (s.ob o) (x : Int) (y : Int)).val (s.att 0).status = 2
    rw [hs 0 h.a1]; exact h.gen
  · rw [lu] at hi
    rw [(eo _).1, (eo i).2.1]
    show (m.swap (s.ob o) (x : Int) (y : Int)).val (s.att _).status = 2
    rw [hs _ (h.lo _ (h.lo i hi).2.1).2.2]; exact h.old i hi
end
end Go.Proofs.YtgjndhbfjofkeaaGreatDoor

