import Derived.Test.YtgjndhbfjofkeaaGreatDoorG17
namespace Go.Proofs.YtgjndhbfjofkeaaGreatDoor
open Go.RowKit
attribute [local go_sem] Oper.semAt_some run_store_nf run_store_f
section
variable {w w' : World} {ρ ρ' ρ'' : Nat → Nat} {u j : Nat} {c : Sc} {ab rb n n' : Nat} {x x' : Tx} {f f' : Int → Option Nat} {s s' : Ws} {m m' : Mm} {r r' : Ro}
theorem lay_lo (s : Ws) (a b : Nat) (v : Vl) : (s.lay a b v).lo s.locs.length = ⟨a, b, s.vals.length, false⟩ := by simp [Ws.lay, Ws.lo, List.getD_eq_getElem?_getD]
set_option maxHeartbeats 400000 in
set_option maxRecDepth 1000000 in
theorem acq_no (hI : Inv s m) {o l b : Nat} (hO : x.object = (o : Int)) (hi : o < s.objs.length) (hl : x.loc = (l : Int)) (hli : l < s.locs.length) (hbz : x.base = (b : Int)) (hbi : b < s.locs.length) (hC : s.isC m (s.lo b).owner = true)
    (hno1 : 1 ≤ x.no) (hno : x.no < s.atts.length) (hmd : x.made = 0) (hroom : s.locs.length < 16384) (hact : s.isC m x.no = false) (hwon : (ca m.cells (s.ob o)).2 = (l : Int)) (hfr : m.free = true) (hlog : (m.log.length + 1) * 56 ≤ 140737488355328)
    (hio : I64 x.object) (hfo : f x.object = none) (hn : n < 9223372036854775807) (hh : ¬ hld c.rs x.object) (w : World) :
    GoesK w 135 u j c ab ρ x (({ x with made := (s.locs.length : Int) } : Tx).ck c.rs 0) c.rs n (n + 1) f (upd f x.object (some s.locs.length)) s ((s.lay x.no b (s.vl b)).use s.locs.length true) m (m.swap (s.ob o) (l : Int) (s.locs.length : Int))
      (({ x.blank with kind := 13, object := x.object } : Ro).acc (m.swap (s.ob o) (l : Int) (s.locs.length : Int)).took) := by
  intro W rb _ _ hA hR
  have hMk : ∀ (W : World) (ρ : Nat → Nat), St W ρ u j c.wb c.mb s m → Calls Tryz.prog 152 #[.pointer (some ⟨c.wb, 0, none⟩), .int .i64 (x.no : Int), .int .i64 x.base] W fun e w' => e = .returned (.tuple #[.int .i64 (s.locs.length : Int), .int .i64 0]) ∧ ∃ ρ', St w' ρ' u j c.wb c.mb (s.lay x.no b (s.vl b)) m ∧ Ext (Sr u j) W w' ρ ρ' := by
    intro W ρ h
    rw [hbz]
    exact Make_ok h hI.wf hno1 hno hbi hC hroom
  have hI1 := hI.lay hno hbi hC hroom (s.vl b)
  have hlo := lay_lo s x.no b (s.vl b)
  have hAq : ∀ (W : World) (ρ : Nat → Nat), St W ρ u j c.wb c.mb (s.lay x.no b (s.vl b)) m → Calls Tryz.prog 153 #[.pointer (some ⟨c.wb, 0, none⟩), .int .i64 x.object, .int .i64 x.loc, .int .i64 (s.locs.length : Int)] W fun e w' => e = .returned (.tuple #[.bool true, .int .i64 0]) ∧ ∃ ρ', St w' ρ' u j c.wb c.mb ((s.lay x.no b (s.vl b)).use s.locs.length true) (m.swap (s.ob o) (l : Int) (s.locs.length : Int)) ∧ Ext (Sr u j) W w' ρ ρ' := by
    intro W ρ h
    rw [hO, hl]
    have e := Acq_ok h hI1.wf (o := o) hi (x := l) (by simp [Ws.lay]; omega) (y := s.locs.length) (by simp [Ws.lay]) (by rw [hlo]) (by rw [hlo]; exact hact) hfr hlog
    rw [show decide ((ca m.cells ((s.lay x.no b (s.vl b)).ob o)).2 = (l : Int)) = true from decide_eq_true hwon] at e
    exact e
  have HF : Hid (f x.object = none) := hfo
  have HR : Hid ((s.lay x.no b (s.vl b)).locs.length = s.locs.length + 1) := by simp [Hid, Ws.lay]
  clear hO hl hbz hwon hact hfo hlo
  have hc := hA.cl
  have f17 := hc.c 17 _ rfl
  have f19 := hc.c 19 _ rfl
  rw [hmd] at f19
  have hq := hR.cl
  have r5 := hq.c 5 _ rfl
  have zr5 := hq.z 5 (by show 5 < 26; decide)
  have r7 := hq.c 7 _ rfl
  have zr7 := hq.z 7 (by show 7 < 26; decide)
  have hR1 : RX ((W.setCell ⟨rb, 5, none⟩ (.int .i64 13)).setCell ⟨rb, 7, none⟩ (.int .i64 x.object)) ρ c ab rb { x.blank with kind := 13, object := x.object } := (hR.set1 (r' := { x.blank with kind := 13 }) (o := 5) (by decide) _ rfl).set1 (o := 7) (by decide) _ rfl
  have hA1 := (hA.setR hR 5 (.int .i64 13)).setR (hR.set1 (r' := { x.blank with kind := 13 }) (o := 5) (by decide) (.int .i64 13) rfl) 7 (.int .i64 x.object)
  have fr1 := ((Fr.refl (OwnR c ab rb) u j W ρ).setR 5 (.int .i64 13)).setR 7 (.int .i64 x.object)
  have n1 := hR.n1
  have n1' := hR.n1.symm
  clear hc hq
  go_enter Tryz.func135, Tryz.ntmps135
  go_wp2_with fail
  clear r5 zr5 r7 zr7 f17 f19
  generalize (W.setCell ⟨rb, 5, none⟩ (.int .i64 13)).setCell ⟨rb, 7, none⟩ (.int .i64 x.object) = W1 at *
  replace hA1 := hA1.new (Keeps.refl _ W1).drew
  replace hR1 := hR1.new (Keeps.refl _ W1).drew
  replace fr1 := fr1.kN (Keeps.refl _ W1).drew
  have hM := hMk _ _ hA1.st
  have hc := hA1.cl
  have f1 := hc.c 1 _ rfl
  have f7 := hc.c 7 _ rfl
  have f18 := hc.c 18 _ rfl
  clear hc hMk
  go_region_held3 (fun w' => w'.cell? ⟨ab, 1, none⟩ = some (.pointer (some ⟨c.wb, 0, none⟩)) ∧ w'.cell? ⟨ab, 7, none⟩ = some (.int .i64 (x.no : Int)) ∧ w'.cell? ⟨ab, 18, none⟩ = some (.int .i64 x.base)) (first | go_keep | exact KZ _) (first | (go_at_call 152; refine hM.mono ?_; clear hM; rintro e W3 ⟨rfl, ρ3, s3, x3⟩; have hA3 := hA1.run s3 x3; have hR3 := hR1.run (Sr.not0 hA1.st) x3; have fr3 := fr1.ex x3; have hc3 := hA3.cl; have g1 := hc3.c 1 _ rfl; have g7 := hc3.c 7 _ rfl; have g18 := hc3.c 18 _ rfl; have g19 := hc3.c 19 _ rfl; have zg19 := hc3.z 19 (by show 19 < 36; decide); have KZ := fun (v : Value) => And.intro ((hc3.set (o := 19) (by show 19 < 36; decide) v).c 1 _ rfl) (And.intro ((hc3.set (o := 19) (by show 19 < 36; decide) v).c 7 _ rfl) ((hc3.set (o := 19) (by show 19 < 36; decide) v).c 18 _ rfl))) | (go_at_call 129; refine (must_int _ _).mono ?_; rintro e W4 ⟨rfl, rfl⟩))
  have hA5 : AX (W4.setCell ⟨ab, 19, none⟩ (.int .i64 (s.locs.length : Int))) ρ3 u j c ab { x with made := (s.locs.length : Int) } n f (s.lay x.no b (s.vl b)) m := hA3.set1 (o := 19) (by decide) _ rfl
  have hR5 := hR3.setA 19 (.int .i64 (s.locs.length : Int))
  have fr5 := fr3.setA 19 (.int .i64 (s.locs.length : Int))
  clear KZ g1 g7 g18 g19 zg19 hc3 hA3 hR3 fr3 s3 x3 hA1 hR1 fr1 f1 f7 f18
  generalize W4.setCell ⟨ab, 19, none⟩ (.int .i64 (s.locs.length : Int)) = W5 at *
  go_wp2_with fail
  replace hA5 := hA5.new (Keeps.refl _ W5).drew
  replace hR5 := hR5.new (Keeps.refl _ W5).drew
  replace fr5 := fr5.kN (Keeps.refl _ W5).drew
  have hQ := hAq _ _ hA5.st
  have hc := hA5.cl
  have f1 := hc.c 1 _ rfl
  have f17 := hc.c 17 _ rfl
  have f19 := hc.c 19 _ rfl
  have f26 := hc.c 26 _ rfl
  clear hc hAq
  go_region_held3 (fun w' => w'.cell? ⟨ab, 1, none⟩ = some (.pointer (some ⟨c.wb, 0, none⟩)) ∧ w'.cell? ⟨ab, 17, none⟩ = some (.int .i64 x.object) ∧ w'.cell? ⟨ab, 26, none⟩ = some (.int .i64 x.loc) ∧ w'.cell? ⟨ab, 19, none⟩ = some (.int .i64 (s.locs.length : Int))) (go_keep) (first | (go_at_call 153; refine hQ.mono ?_; clear hQ; rintro e W6 ⟨rfl, ρ6, s6, x6⟩; have hA6 := hA5.run s6 x6; have hR6 := hR5.run (Sr.not0 hA5.st) x6; have fr6 := fr5.ex x6; have hc6 := hA6.cl; have g1 := hc6.c 1 _ rfl; have g17 := hc6.c 17 _ rfl; have g19 := hc6.c 19 _ rfl; have g26 := hc6.c 26 _ rfl) | (go_at_call 117; refine (must_bool _ _).mono ?_; rintro e W7 ⟨rfl, rfl⟩))
  clear g1 g17 g19 g26 hc6 hA5 hR5 fr5 s6 x6 f1 f17 f19 f26
  have hT := atook hA6 hR6 (had_swap m _ _ _) (by rw [log_swap]; omega)
  go_wp2_with fail
  refine hT.mono ?_
  rintro e W8 ⟨rfl, hA8, hR8, k8⟩
  have fr8 := fr6.kR k8
  have hK := take_no hA8 hio rfl (by omega) hn (N := n + 1) (by show (if (f x.object).isSome = true then n else n + 1) = n + 1; rw [HF.out]; rfl) hh
  clear hT hA6 hR6 fr6 k8
  go_wp2_with fail
  refine hK.mono ?_
  rintro e W9 ⟨rfl, c', rs9⟩
  go_wp2_with fail
  (try simp only [Exit.then])
  refine bodyPost_ret (results_none rfl _ _ _) rfl ?_
  have S0 : ¬ Sr u j 0 := Sr.not0 hA8.st
  have n9 : ¬ (Sr u j (ρ6 rb) ∨ Own c ab rb) := fun e => e.elim (fun e => S0 (by rw [hR8.rr] at e; exact e)) (fun e => e.elim (fun e => hR.n1 e) (fun e => hR.n2 e))
  exact ⟨rfl, ρ6, c', ⟨rs9.sam, rs9.ax, fr8.tr (rs9.fr.mono (fun _ _ e => e.elim (fun e => .inl e) (fun e => .inr (.inl e)))), fun k hk => (rs9.bk k hk).imp id (fun e => Nat.le_trans fr8.keeps.size e)⟩,
    ⟨hR8.cl.keep (by show 0 < 26; decide) rs9.fr.keeps n9, (rs9.fr.old _ hR8.lt).trans hR8.rr, hR8.n1, fun e => (rs9.bk _ e).elim hR.n2 (fun e => by have := hR8.lt; omega)⟩⟩
set_option maxHeartbeats 400000 in
set_option maxRecDepth 1000000 in
theorem acq_up (hI : Inv s m) {o l b : Nat} (hO : x.object = (o : Int)) (hi : o < s.objs.length) (hl : x.loc = (l : Int)) (hli : l < s.locs.length) (hbz : x.base = (b : Int)) (hbi : b < s.locs.length) (hC : s.isC m (s.lo b).owner = true)
    (hno1 : 1 ≤ x.no) (hno : x.no < s.atts.length) (hmd : x.made = 0) (hroom : s.locs.length < 16384) (hact : s.isC m x.no = false) (hwon : (ca m.cells (s.ob o)).2 = (l : Int)) (hfr : m.free = true) (hlog : (m.log.length + 1) * 56 ≤ 140737488355328)
    (hio : I64 x.object) (hfo : f x.object = none) (hn : n < 9223372036854775807) {q : Nat} {y : Rd} (hq : c.rs[q]? = some y) (hy : y.fate = 1) (hyo : y.ob = x.object) (hrl : c.rs.length ≤ 1000000000) (w : World) :
    GoesK w 135 u j c ab ρ x (({ x with made := (s.locs.length : Int), entry := (q : Int) } : Tx).ck (c.rs.set q (y.to 3)) 0) (c.rs.set q (y.to 3)) n (n + 1) f (upd f x.object (some s.locs.length)) s ((s.lay x.no b (s.vl b)).use s.locs.length true) m (m.swap (s.ob o) (l : Int) (s.locs.length : Int))
      (({ x.blank with kind := 13, object := x.object } : Ro).acc (m.swap (s.ob o) (l : Int) (s.locs.length : Int)).took) := by
  intro W rb _ _ hA hR
  have hMk : ∀ (W : World) (ρ : Nat → Nat), St W ρ u j c.wb c.mb s m → Calls Tryz.prog 152 #[.pointer (some ⟨c.wb, 0, none⟩), .int .i64 (x.no : Int), .int .i64 x.base] W fun e w' => e = .returned (.tuple #[.int .i64 (s.locs.length : Int), .int .i64 0]) ∧ ∃ ρ', St w' ρ' u j c.wb c.mb (s.lay x.no b (s.vl b)) m ∧ Ext (Sr u j) W w' ρ ρ' := by
    intro W ρ h
    rw [hbz]
    exact Make_ok h hI.wf hno1 hno hbi hC hroom
  have hI1 := hI.lay hno hbi hC hroom (s.vl b)
  have hlo := lay_lo s x.no b (s.vl b)
  have hAq : ∀ (W : World) (ρ : Nat → Nat), St W ρ u j c.wb c.mb (s.lay x.no b (s.vl b)) m → Calls Tryz.prog 153 #[.pointer (some ⟨c.wb, 0, none⟩), .int .i64 x.object, .int .i64 x.loc, .int .i64 (s.locs.length : Int)] W fun e w' => e = .returned (.tuple #[.bool true, .int .i64 0]) ∧ ∃ ρ', St w' ρ' u j c.wb c.mb ((s.lay x.no b (s.vl b)).use s.locs.length true) (m.swap (s.ob o) (l : Int) (s.locs.length : Int)) ∧ Ext (Sr u j) W w' ρ ρ' := by
    intro W ρ h
    rw [hO, hl]
    have e := Acq_ok h hI1.wf (o := o) hi (x := l) (by simp [Ws.lay]; omega) (y := s.locs.length) (by simp [Ws.lay]) (by rw [hlo]) (by rw [hlo]; exact hact) hfr hlog
    rw [show decide ((ca m.cells ((s.lay x.no b (s.vl b)).ob o)).2 = (l : Int)) = true from decide_eq_true hwon] at e
    exact e
  have HF : Hid (f x.object = none) := hfo
  have HR : Hid ((s.lay x.no b (s.vl b)).locs.length = s.locs.length + 1) := by simp [Hid, Ws.lay]
  clear hO hl hbz hwon hact hfo hlo
  have hc := hA.cl
  have f17 := hc.c 17 _ rfl
  have f19 := hc.c 19 _ rfl
  rw [hmd] at f19
  have hq := hR.cl
  have r5 := hq.c 5 _ rfl
  have zr5 := hq.z 5 (by show 5 < 26; decide)
  have r7 := hq.c 7 _ rfl
  have zr7 := hq.z 7 (by show 7 < 26; decide)
  have hR1 : RX ((W.setCell ⟨rb, 5, none⟩ (.int .i64 13)).setCell ⟨rb, 7, none⟩ (.int .i64 x.object)) ρ c ab rb { x.blank with kind := 13, object := x.object } := (hR.set1 (r' := { x.blank with kind := 13 }) (o := 5) (by decide) _ rfl).set1 (o := 7) (by decide) _ rfl
  have hA1 := (hA.setR hR 5 (.int .i64 13)).setR (hR.set1 (r' := { x.blank with kind := 13 }) (o := 5) (by decide) (.int .i64 13) rfl) 7 (.int .i64 x.object)
  have fr1 := ((Fr.refl (OwnR c ab rb) u j W ρ).setR 5 (.int .i64 13)).setR 7 (.int .i64 x.object)
  have n1 := hR.n1
  have n1' := hR.n1.symm
  clear hc hq
  go_enter Tryz.func135, Tryz.ntmps135
  go_wp2_with fail
  clear r5 zr5 r7 zr7 f17 f19
  generalize (W.setCell ⟨rb, 5, none⟩ (.int .i64 13)).setCell ⟨rb, 7, none⟩ (.int .i64 x.object) = W1 at *
  replace hA1 := hA1.new (Keeps.refl _ W1).drew
  replace hR1 := hR1.new (Keeps.refl _ W1).drew
  replace fr1 := fr1.kN (Keeps.refl _ W1).drew
  have hM := hMk _ _ hA1.st
  have hc := hA1.cl
  have f1 := hc.c 1 _ rfl
  have f7 := hc.c 7 _ rfl
  have f18 := hc.c 18 _ rfl
  clear hc hMk
  go_region_held3 (fun w' => w'.cell? ⟨ab, 1, none⟩ = some (.pointer (some ⟨c.wb, 0, none⟩)) ∧ w'.cell? ⟨ab, 7, none⟩ = some (.int .i64 (x.no : Int)) ∧ w'.cell? ⟨ab, 18, none⟩ = some (.int .i64 x.base)) (first | go_keep | exact KZ _) (first | (go_at_call 152; refine hM.mono ?_; clear hM; rintro e W3 ⟨rfl, ρ3, s3, x3⟩; have hA3 := hA1.run s3 x3; have hR3 := hR1.run (Sr.not0 hA1.st) x3; have fr3 := fr1.ex x3; have hc3 := hA3.cl; have g1 := hc3.c 1 _ rfl; have g7 := hc3.c 7 _ rfl; have g18 := hc3.c 18 _ rfl; have g19 := hc3.c 19 _ rfl; have zg19 := hc3.z 19 (by show 19 < 36; decide); have KZ := fun (v : Value) => And.intro ((hc3.set (o := 19) (by show 19 < 36; decide) v).c 1 _ rfl) (And.intro ((hc3.set (o := 19) (by show 19 < 36; decide) v).c 7 _ rfl) ((hc3.set (o := 19) (by show 19 < 36; decide) v).c 18 _ rfl))) | (go_at_call 129; refine (must_int _ _).mono ?_; rintro e W4 ⟨rfl, rfl⟩))
  have hA5 : AX (W4.setCell ⟨ab, 19, none⟩ (.int .i64 (s.locs.length : Int))) ρ3 u j c ab { x with made := (s.locs.length : Int) } n f (s.lay x.no b (s.vl b)) m := hA3.set1 (o := 19) (by decide) _ rfl
  have hR5 := hR3.setA 19 (.int .i64 (s.locs.length : Int))
  have fr5 := fr3.setA 19 (.int .i64 (s.locs.length : Int))
  clear KZ g1 g7 g18 g19 zg19 hc3 hA3 hR3 fr3 s3 x3 hA1 hR1 fr1 f1 f7 f18
  generalize W4.setCell ⟨ab, 19, none⟩ (.int .i64 (s.locs.length : Int)) = W5 at *
  go_wp2_with fail
  replace hA5 := hA5.new (Keeps.refl _ W5).drew
  replace hR5 := hR5.new (Keeps.refl _ W5).drew
  replace fr5 := fr5.kN (Keeps.refl _ W5).drew
  have hQ := hAq _ _ hA5.st
  have hc := hA5.cl
  have f1 := hc.c 1 _ rfl
  have f17 := hc.c 17 _ rfl
  have f19 := hc.c 19 _ rfl
  have f26 := hc.c 26 _ rfl
  clear hc hAq
  go_region_held3 (fun w' => w'.cell? ⟨ab, 1, none⟩ = some (.pointer (some ⟨c.wb, 0, none⟩)) ∧ w'.cell? ⟨ab, 17, none⟩ = some (.int .i64 x.object) ∧ w'.cell? ⟨ab, 26, none⟩ = some (.int .i64 x.loc) ∧ w'.cell? ⟨ab, 19, none⟩ = some (.int .i64 (s.locs.length : Int))) (go_keep) (first | (go_at_call 153; refine hQ.mono ?_; clear hQ; rintro e W6 ⟨rfl, ρ6, s6, x6⟩; have hA6 := hA5.run s6 x6; have hR6 := hR5.run (Sr.not0 hA5.st) x6; have fr6 := fr5.ex x6; have hc6 := hA6.cl; have g1 := hc6.c 1 _ rfl; have g17 := hc6.c 17 _ rfl; have g19 := hc6.c 19 _ rfl; have g26 := hc6.c 26 _ rfl) | (go_at_call 117; refine (must_bool _ _).mono ?_; rintro e W7 ⟨rfl, rfl⟩))
  clear g1 g17 g19 g26 hc6 hA5 hR5 fr5 s6 x6 f1 f17 f19 f26
  have hT := atook hA6 hR6 (had_swap m _ _ _) (by rw [log_swap]; omega)
  go_wp2_with fail
  refine hT.mono ?_
  rintro e W8 ⟨rfl, hA8, hR8, k8⟩
  have fr8 := fr6.kR k8
  have hK := take_up hA8 hio rfl (by omega) hn (N := n + 1) (by show (if (f x.object).isSome = true then n else n + 1) = n + 1; rw [HF.out]; rfl) hq hy hyo hrl
  clear hT hA6 hR6 fr6 k8
  go_wp2_with fail
  refine hK.mono ?_
  rintro e W9 ⟨rfl, c', rs9⟩
  go_wp2_with fail
  (try simp only [Exit.then])
  refine bodyPost_ret (results_none rfl _ _ _) rfl ?_
  have S0 : ¬ Sr u j 0 := Sr.not0 hA8.st
  have n9 : ¬ (Sr u j (ρ6 rb) ∨ Own c ab rb) := fun e => e.elim (fun e => S0 (by rw [hR8.rr] at e; exact e)) (fun e => e.elim (fun e => hR.n1 e) (fun e => hR.n2 e))
  exact ⟨rfl, ρ6, c', ⟨rs9.sam, rs9.ax, fr8.tr (rs9.fr.mono (fun _ _ e => e.elim (fun e => .inl e) (fun e => .inr (.inl e)))), fun k hk => (rs9.bk k hk).imp id (fun e => Nat.le_trans fr8.keeps.size e)⟩,
    ⟨hR8.cl.keep (by show 0 < 26; decide) rs9.fr.keeps n9, (rs9.fr.old _ hR8.lt).trans hR8.rr, hR8.n1, fun e => (rs9.bk _ e).elim hR.n2 (fun e => by have := hR8.lt; omega)⟩⟩
set_option maxHeartbeats 400000 in
set_option maxRecDepth 1000000 in
theorem acq_lost (hI : Inv s m) {o l b : Nat} (hO : x.object = (o : Int)) (hi : o < s.objs.length) (hl : x.loc = (l : Int)) (hli : l < s.locs.length) (hbz : x.base = (b : Int)) (hbi : b < s.locs.length) (hC : s.isC m (s.lo b).owner = true)
    (hno1 : 1 ≤ x.no) (hno : x.no < s.atts.length) (hmd : x.made = 0) (hroom : s.locs.length < 16384) (hact : s.isC m x.no = false) (hwon : (ca m.cells (s.ob o)).2 ≠ (l : Int)) (hfr : m.free = true) (hlog : (m.log.length + 1) * 56 ≤ 140737488355328) :
    Goes 135 u j c ab ρ x (({ x with made := 0 } : Tx).opn 111) n n f f s ((s.lay x.no b (s.vl b)).use s.locs.length false) m (m.swap (s.ob o) (l : Int) (s.locs.length : Int))
      (({ x.blank with kind := 13, object := x.object } : Ro).acc (m.swap (s.ob o) (l : Int) (s.locs.length : Int)).took) := by
  intro W rb hA hR
  have hmf : ∀ (fn : Fn) (first cap : Array Value) (w : World), (Instr.makeFunc fn first cap).run Tryz.prog w = .ok (.func fn first cap) w := fun _ _ _ _ => rfl
  have hMk : ∀ (W : World) (ρ : Nat → Nat), St W ρ u j c.wb c.mb s m → Calls Tryz.prog 152 #[.pointer (some ⟨c.wb, 0, none⟩), .int .i64 (x.no : Int), .int .i64 x.base] W fun e w' => e = .returned (.tuple #[.int .i64 (s.locs.length : Int), .int .i64 0]) ∧ ∃ ρ', St w' ρ' u j c.wb c.mb (s.lay x.no b (s.vl b)) m ∧ Ext (Sr u j) W w' ρ ρ' := by
    intro W ρ h
    rw [hbz]
    exact Make_ok h hI.wf hno1 hno hbi hC hroom
  have hI1 := hI.lay hno hbi hC hroom (s.vl b)
  have hlo := lay_lo s x.no b (s.vl b)
  have hAq : ∀ (W : World) (ρ : Nat → Nat), St W ρ u j c.wb c.mb (s.lay x.no b (s.vl b)) m → Calls Tryz.prog 153 #[.pointer (some ⟨c.wb, 0, none⟩), .int .i64 x.object, .int .i64 x.loc, .int .i64 (s.locs.length : Int)] W fun e w' => e = .returned (.tuple #[.bool false, .int .i64 0]) ∧ ∃ ρ', St w' ρ' u j c.wb c.mb ((s.lay x.no b (s.vl b)).use s.locs.length false) (m.swap (s.ob o) (l : Int) (s.locs.length : Int)) ∧ Ext (Sr u j) W w' ρ ρ' := by
    intro W ρ h
    rw [hO, hl]
    have e := Acq_ok h hI1.wf (o := o) hi (x := l) (by simp [Ws.lay]; omega) (y := s.locs.length) (by simp [Ws.lay]) (by rw [hlo]) (by rw [hlo]; exact hact) hfr hlog
    rw [show decide ((ca m.cells ((s.lay x.no b (s.vl b)).ob o)).2 = (l : Int)) = false from decide_eq_false hwon] at e
    exact e
  have HR : Hid ((s.lay x.no b (s.vl b)).locs.length = s.locs.length + 1) := by simp [Hid, Ws.lay]
  clear hO hl hbz hwon hact hlo
  have hc := hA.cl
  have f17 := hc.c 17 _ rfl
  have f19 := hc.c 19 _ rfl
  rw [hmd] at f19
  have hq := hR.cl
  have r5 := hq.c 5 _ rfl
  have zr5 := hq.z 5 (by show 5 < 26; decide)
  have r7 := hq.c 7 _ rfl
  have zr7 := hq.z 7 (by show 7 < 26; decide)
  have hR1 : RX ((W.setCell ⟨rb, 5, none⟩ (.int .i64 13)).setCell ⟨rb, 7, none⟩ (.int .i64 x.object)) ρ c ab rb { x.blank with kind := 13, object := x.object } := (hR.set1 (r' := { x.blank with kind := 13 }) (o := 5) (by decide) _ rfl).set1 (o := 7) (by decide) _ rfl
  have hA1 := (hA.setR hR 5 (.int .i64 13)).setR (hR.set1 (r' := { x.blank with kind := 13 }) (o := 5) (by decide) (.int .i64 13) rfl) 7 (.int .i64 x.object)
  have fr1 := ((Fr.refl (OwnR c ab rb) u j W ρ).setR 5 (.int .i64 13)).setR 7 (.int .i64 x.object)
  have n1 := hR.n1
  have n1' := hR.n1.symm
  clear hc hq
  go_enter Tryz.func135, Tryz.ntmps135
  go_wp2_with fail
  clear r5 zr5 r7 zr7 f17 f19
  generalize (W.setCell ⟨rb, 5, none⟩ (.int .i64 13)).setCell ⟨rb, 7, none⟩ (.int .i64 x.object) = W1 at *
  replace hA1 := hA1.new (Keeps.refl _ W1).drew
  replace hR1 := hR1.new (Keeps.refl _ W1).drew
  replace fr1 := fr1.kN (Keeps.refl _ W1).drew
  have hM := hMk _ _ hA1.st
  have hc := hA1.cl
  have f1 := hc.c 1 _ rfl
  have f7 := hc.c 7 _ rfl
  have f18 := hc.c 18 _ rfl
  clear hc hMk
  go_region_held3 (fun w' => w'.cell? ⟨ab, 1, none⟩ = some (.pointer (some ⟨c.wb, 0, none⟩)) ∧ w'.cell? ⟨ab, 7, none⟩ = some (.int .i64 (x.no : Int)) ∧ w'.cell? ⟨ab, 18, none⟩ = some (.int .i64 x.base)) (first | go_keep | exact KZ _) (first | (go_at_call 152; refine hM.mono ?_; clear hM; rintro e W3 ⟨rfl, ρ3, s3, x3⟩; have hA3 := hA1.run s3 x3; have hR3 := hR1.run (Sr.not0 hA1.st) x3; have fr3 := fr1.ex x3; have hc3 := hA3.cl; have g1 := hc3.c 1 _ rfl; have g7 := hc3.c 7 _ rfl; have g18 := hc3.c 18 _ rfl; have g19 := hc3.c 19 _ rfl; have zg19 := hc3.z 19 (by show 19 < 36; decide); have KZ := fun (v : Value) => And.intro ((hc3.set (o := 19) (by show 19 < 36; decide) v).c 1 _ rfl) (And.intro ((hc3.set (o := 19) (by show 19 < 36; decide) v).c 7 _ rfl) ((hc3.set (o := 19) (by show 19 < 36; decide) v).c 18 _ rfl))) | (go_at_call 129; refine (must_int _ _).mono ?_; rintro e W4 ⟨rfl, rfl⟩))
  have hA5 : AX (W4.setCell ⟨ab, 19, none⟩ (.int .i64 (s.locs.length : Int))) ρ3 u j c ab { x with made := (s.locs.length : Int) } n f (s.lay x.no b (s.vl b)) m := hA3.set1 (o := 19) (by decide) _ rfl
  have hR5 := hR3.setA 19 (.int .i64 (s.locs.length : Int))
  have fr5 := fr3.setA 19 (.int .i64 (s.locs.length : Int))
  clear KZ g1 g7 g18 g19 zg19 hc3 hA3 hR3 fr3 s3 x3 hA1 hR1 fr1 f1 f7 f18
  generalize W4.setCell ⟨ab, 19, none⟩ (.int .i64 (s.locs.length : Int)) = W5 at *
  go_wp2_with fail
  replace hA5 := hA5.new (Keeps.refl _ W5).drew
  replace hR5 := hR5.new (Keeps.refl _ W5).drew
  replace fr5 := fr5.kN (Keeps.refl _ W5).drew
  have hQ := hAq _ _ hA5.st
  have hc := hA5.cl
  have f1 := hc.c 1 _ rfl
  have f17 := hc.c 17 _ rfl
  have f19 := hc.c 19 _ rfl
  have f26 := hc.c 26 _ rfl
  clear hc hAq
  go_region_held3 (fun w' => w'.cell? ⟨ab, 1, none⟩ = some (.pointer (some ⟨c.wb, 0, none⟩)) ∧ w'.cell? ⟨ab, 17, none⟩ = some (.int .i64 x.object) ∧ w'.cell? ⟨ab, 26, none⟩ = some (.int .i64 x.loc) ∧ w'.cell? ⟨ab, 19, none⟩ = some (.int .i64 (s.locs.length : Int))) (go_keep) (first | (go_at_call 153; refine hQ.mono ?_; clear hQ; rintro e W6 ⟨rfl, ρ6, s6, x6⟩; have hA6 := hA5.run s6 x6; have hR6 := hR5.run (Sr.not0 hA5.st) x6; have fr6 := fr5.ex x6; have hc6 := hA6.cl; have g1 := hc6.c 1 _ rfl; have g17 := hc6.c 17 _ rfl; have g19 := hc6.c 19 _ rfl; have g26 := hc6.c 26 _ rfl) | (go_at_call 117; refine (must_bool _ _).mono ?_; rintro e W7 ⟨rfl, rfl⟩))
  clear g1 g17 g19 g26 hc6 hA5 hR5 fr5 s6 x6 f1 f17 f19 f26
  have hT := atook hA6 hR6 (had_swap m _ _ _) (by rw [log_swap]; omega)
  go_wp2_with fail
  refine hT.mono ?_
  rintro e W8 ⟨rfl, hA8, hR8, k8⟩
  have fr8 := fr6.kR k8
  have hc := hA8.cl
  have f19 := hc.c 19 _ rfl
  have zf19 := hc.z 19 (by show 19 < 36; decide)
  have hA9 : AX (W8.setCell ⟨ab, 19, none⟩ (.int .i64 0)) ρ6 u j c ab { x with made := 0 } n f _ _ := hA8.set1 (o := 19) (by decide) _ rfl
  have hR9 := hR8.setA 19 (.int .i64 0)
  have fr9 := fr8.setA 19 (.int .i64 0)
  have hK := alook hA9.cl 111
  clear hT hA6 hR6 fr6 k8 hc
  go_wp2_with fail
  clear f19 zf19 hA8 hR8 fr8
  generalize W8.setCell ⟨ab, 19, none⟩ (.int .i64 0) = W9 at *
  refine hK.mono ?_
  rintro e W10 ⟨rfl, hc10, k10⟩
  go_wp2_with fail
  go_end0
  exact ⟨rfl, ρ6, hA9.self k10 hc10, hR9.far k10 hR.n1.symm, fr9.kA k10⟩
end
end Go.Proofs.YtgjndhbfjofkeaaGreatDoor

namespace Go.Proofs.YtgjndhbfjofkeaaGreatDoor
open Go.RowKit
attribute [local go_sem] Oper.semAt_some run_store_nf run_store_f
section
variable {w w' : World} {ρ ρ' ρ'' : Nat → Nat} {u j : Nat} {c : Sc} {ab rb n n' : Nat} {x x' : Tx} {f f' : Int → Option Nat} {s s' : Ws} {m m' : Mm} {r r' : Ro}
def GoesX (X : Nat → Prop) (D : World → Prop) (w : World) (k : Nat) (u j : Nat) (c : Sc) (ab : Nat) (ρ : Nat → Nat) (x x' : Tx) (rs' : List Rd) (n n' : Nat) (f f' : Int → Option Nat) (s s' : Ws) (m m' : Mm) (r' : Ro) : Prop :=
  ∀ W rb, w.heap.size ≤ rb → Keeps (fun _ => False) w W → AX W ρ u j c ab x n f s m → RX W ρ c ab rb x.blank → Calls Tryz.prog k #[.pointer (some ⟨ab, 0, none⟩), .pointer (some ⟨rb, 0, none⟩)] W fun e W' =>
    e = .returned (.tuple #[]) ∧ ∃ ρ' c', Res W W' ρ ρ' u j c c' ab x' rs' n' f' s' m' (fun q => OwnR c ab rb q ∨ X q) ∧ RX W' ρ' c' ab rb r' ∧ D W'
set_option maxHeartbeats 800000 in
set_option maxRecDepth 1000000 in
theorem step_goesX {X : Nat → Prop} {D : World → Prop} (hX : ∀ k, X k → k < w.heap.size) (hD : ∀ W W' : World, D W → Keeps (fun k => w.heap.size ≤ k) W W' → D W') (h : AX w ρ u j c ab x n f s m) (ha : x.alive = true) {k : Nat} (hn : x.nx = some k) (hcf : ∀ (args : Array Value) (w : World), (callFunc k args).run Tryz.prog w = .ok (.enter k args) w) {rs' : List Rd} (hg : GoesX X D w k u j c ab ρ x x' rs' n n' f f' s s' m m' r') :
    Calls Tryz.prog 77 #[.pointer (some ⟨ab, 0, none⟩)] w fun e w' => e = .returned (.tuple #[.agg r'.cells.toArray, .int .i64 0]) ∧ (∃ ρ' c', Res w w' ρ ρ' u j c c' ab x' rs' n' f' s' m' (fun q => Own c ab q ∨ X q)) ∧ D w' := by
  have hmf : ∀ (fn : Fn) (first cap : Array Value) (w : World), (Instr.makeFunc fn first cap).run Tryz.prog w = .ok (.func fn first cap) w := fun _ _ _ _ => rfl
  obtain ⟨w0, hw0⟩ : ∃ w0, w0 = ((w.alloc (.cells #[.pointer (some ⟨ab, 0, none⟩)] 86)).alloc (.cells #[.int .i64 0, .int .i64 0, .int .i64 0, .int .i64 0, .int .i64 0, .int .i64 0, .int .i64 0, .int .i64 0, .int .i64 0, .int .i64 0, .int .i64 0, .int .i64 0, .int .i64 0, .bool false, .bool false, .bool false, .int .i64 0, .bool false, .int .i64 0, .int .i64 0, .bool false, .bool false, .int .i64 0, .int .i64 0, .bool false, .int .i64 0] 36)).alloc (.cells #[.int .i64 0] 52) := ⟨_, rfl⟩
  have k0 : Keeps (fun _ => False) w w0 := by rw [hw0]; exact (((Keeps.refl _ w).alloc _).alloc _).alloc _
  have h0 := h.new k0
  have hb : CL w0 (w.heap.size + 1) Ro.zero.cells := by
    rw [hw0]
    have := CL.made (w.alloc (.cells #[.pointer (some ⟨ab, 0, none⟩)] 86)) Ro.zero.cells 36
    rw [show (w.alloc (.cells #[.pointer (some ⟨ab, 0, none⟩)] 86)).heap.size = w.heap.size + 1 by simp] at this
    exact this.alloc (by show 0 < 26; decide) _
  have ca : CL w0 w.heap.size [.pointer (some ⟨ab, 0, none⟩)] := by
    rw [hw0]
    exact ((CL.made w [.pointer (some ⟨ab, 0, none⟩)] 86).alloc (by show 0 < 1; decide) _).alloc (by show 0 < 1; decide) _
  have ce : CL w0 (w.heap.size + 1 + 1) [.int .i64 0] := by
    rw [hw0]
    refine cast ?_ (CL.made ((w.alloc (.cells #[.pointer (some ⟨ab, 0, none⟩)] 86)).alloc (.cells #[.int .i64 0, .int .i64 0, .int .i64 0, .int .i64 0, .int .i64 0, .int .i64 0, .int .i64 0, .int .i64 0, .int .i64 0, .int .i64 0, .int .i64 0, .int .i64 0, .int .i64 0, .bool false, .bool false, .bool false, .int .i64 0, .bool false, .int .i64 0, .int .i64 0, .bool false, .bool false, .int .i64 0, .int .i64 0, .bool false, .int .i64 0] 36)) [.int .i64 0] 52)
    congr 1
    simp
  have a0 := ca.c 0 _ rfl
  have hs := state_busy h0.cl ha hn
  have nb : ¬ w.heap.size = w.heap.size + 1 := by omega
  have nb2 : ¬ w.heap.size + 1 + 1 = w.heap.size + 1 := by omega
  have hz : ρ (w.heap.size + 1) = 0 := h.st.bnd _ (by omega)
  have na : w.heap.size + 1 ≠ ab := by have := h.alt; omega
  have no : ¬ c.Q (w.heap.size + 1) := fun e => by have := h.qlt e; omega
  go_enter_defers Tryz.func77, Tryz.ntmps77
  go_wp2_with fail
  rw [← hw0]
  clear hw0
  refine hs.mono ?_
  clear hs
  rintro e w1 ⟨rfl, rfl⟩
  go_wp2_with fail
  refine (blank_any h0.cl).mono ?_
  rintro e w2 ⟨rfl, k2⟩
  have h2 := h0.new k2
  have hb2 := hb.keep (by show 0 < 26; decide) k2 (fun e => e)
  have ca2 := ca.keep (by show 0 < 1; decide) k2 (fun e => e)
  have ce2 := ce.keep (by show 0 < 1; decide) k2 (fun e => e)
  have K2 := k0.trans k2
  clear a0 h0 hb ca ce k2 k0
  go_wp2_with (refine wpList_store_cl rfl 36 _ _ rfl (w.heap.size + 1) 0 26 _ rfl rfl rfl hb2 (by show 26 ≤ 26; decide) i46 (all_oneCell_toArray (by simp [Ro.cells, Value.oneCell'])) ?_; intro w3 hb3 k3 _; have h3 := h2.far k3 hz na no; have r3 : RX w3 ρ c ab (w.heap.size + 1) x.blank := ⟨hb3, hz, na, no⟩; have ca3 := ca2.keep (by show 0 < 1; decide) k3 nb; have ce3 := ce2.keep (by show 0 < 1; decide) k3 nb2; have a3 := ca3.c 0 _ rfl; have hc3 := h3.cl; have f15 := hc3.c 15 _ rfl; rw [hn] at f15; simp only [fnv] at f15; clear hc3)
  refine (hg _ _ (by omega) (K2.trans' k3 (fun _ _ e => e) (fun i hi e => by omega)) h3 r3).mono ?_
  rintro e w4 ⟨rfl, ρ', c', rs4, r4, d4⟩
  have h4 := rs4.ax
  have fr4 := rs4.fr
  have lt1 : w.heap.size + 1 < w3.heap.size := r3.lt
  have b0 : ρ' (w.heap.size + 1) = 0 := (fr4.old _ lt1).trans hz
  have ls : w.heap.size < w3.heap.size := ca3.lt (by show 0 < 1; decide)
  have le : w.heap.size + 1 + 1 < w3.heap.size := ce3.lt (by show 0 < 1; decide)
  have S0 : ¬ Sr u j 0 := Sr.not0 h.st
  have ce4 := ce3.keep (by show 0 < 1; decide) fr4.keeps (fun e => e.elim (fun e => S0 (by rw [h.st.bnd _ (by omega)] at e; exact e)) (fun e => e.elim (fun e => e.elim (fun e => by have := h.alt; omega) (fun e => e.elim (fun e => by have := h.qlt e; omega) (fun e => by omega))) (fun e => by have := hX _ e; omega)))
  have hr4 := run_row r4.cl
  have e4 := ce4.c 0 _ rfl
  clear a3 f15 ca3 ca2 hb2 ce2 hb3 h2 h3 ce3
  go_wp2_with (first | (refine wpList_load_run rfl 36 _ rfl ⟨w.heap.size + 1, 0, none⟩ rfl _ hr4 ?_; clear hr4) | (refine wpList_store_cl rfl 36 _ _ rfl (w.heap.size + 1) 0 26 _ rfl rfl rfl r4.cl (by show 26 ≤ 26; decide) i46 (all_oneCell_toArray (by simp [Ro.cells, Value.oneCell'])) ?_; intro w5 hb5 k5 _; have ce5 := ce4.keep (by show 0 < 1; decide) k5 nb2; have e5 := ce5.c 0 _ rfl; have ze5 := ce5.z 0 (by show 0 < 1; decide); clear e4))
  have hb6 := hb5.other (p := ⟨w.heap.size + 1 + 1, 0, none⟩) nb2 (.int .i64 0)
  have ce6 := ce5.set (o := 0) (by show 0 < 1; decide) (.int .i64 0)
  have k6 : Keeps (fun k => k = w.heap.size + 1 ∨ k = w.heap.size + 1 + 1) w4 (w5.setCell ⟨w.heap.size + 1 + 1, 0, none⟩ (.int .i64 0)) := (k5.mono (fun _ _ e => .inl e)).setCell (fun _ => .inr rfl) _
  have D6 := hD _ _ d4 (k6.mono (T := fun k => w.heap.size ≤ k) (fun i _ e => by omega))
  have hr6 := run_row (r := r') hb6
  have e6 := ce6.c 0 _ rfl
  clear e5 ze5 hb5 ce5 ce6
  generalize w5.setCell ⟨w.heap.size + 1 + 1, 0, none⟩ (.int .i64 0) = w6 at *
  have h6 : AX w6 ρ' u j c' ab x' n' f' s' m' := by
    have l4 : w3.heap.size ≤ w4.heap.size := fr4.keeps.size
    have x6 : Ext (fun r => r = 0) w4 w6 ρ' ρ' := ⟨k6.mono (fun i _ e => e.elim (fun e => by subst e; exact b0) (fun e => by subst e; exact (fr4.old _ le).trans (h.st.bnd _ (by omega)))), fun _ _ => rfl, fun i hi => .inr (h4.st.bnd i hi)⟩
    have n6 : ∀ k, (k = w.heap.size + 1 ∨ k = w.heap.size + 1 + 1) → k ≠ ab ∧ ¬ c'.Q k := fun k e => ⟨by have := h.alt; omega, fun e' => by
      rcases rs4.bk k e' with e' | e'
      · have := h.qlt e'; omega
      · omega⟩
    exact ⟨⟨fun i hi => h4.st.bnd i (Nat.le_trans k6.size hi), h4.st.mj.ext x6 (fun e => h4.st.u0 e), h4.st.wj.ext x6 (fun r h1 h2 e => h4.st.j0 (by omega)), h4.st.u0, h4.st.j0, h4.st.ap⟩, h4.cl.keep (by show 0 < 36; decide) k6 (fun e => (n6 _ e).1 rfl), h4.om.keep k6 (fun e => (n6 _ e).2 (.inl rfl)), h4.tt.keep k6 (fun i hi e => (n6 _ e).2 hi), h4.ra, h4.ro, h4.ne⟩
  have fr6 : Fr (fun q => Own c ab q ∨ X q) u j w w6 ρ ρ' := by
    have f3 : Fr (fun _ => False) u j w w3 ρ ρ := Fr.of_keeps (B := fun _ => False) (K2.trans' k3 (fun _ _ e => e) (fun i hi e => by omega)) (fun _ _ e => e)
    have f4 : Fr (fun q => Own c ab q ∨ X q) u j w w4 ρ ρ' := f3.trans fr4 (fun _ _ e => e.elim) (fun i hi e => by
      rcases e with (e | e | e) | e
      · exact .inl (.inl e)
      · exact .inl (.inr e)
      · omega
      · exact .inr e)
    exact f4.trans (Fr.of_keeps k6 (fun _ _ e => e)) (fun _ _ e => e) (fun i hi e => by omega)
  refine leaves_cons (f := 97) (args := #[.pointer (some ⟨w.heap.size, 0, none⟩), .pointer (some ⟨w.heap.size + 1, 0, none⟩), .pointer (some ⟨w.heap.size + 1 + 1, 0, none⟩)]) (by simp) (by simp [go_sem]) ?_
  refine (catch_idle _ _ _ _).mono ?_
  rintro e u' w'' ⟨rfl, rfl, rfl⟩
  refine ⟨.tuple #[.agg r'.cells.toArray, .int .i64 0], ?_, rfl, ⟨ρ', c', rs4.sam, h6, fr6, fun k hk => (rs4.bk k hk).imp id (fun e => by omega)⟩, D6⟩
  refine results_cell2x Tryz.results77 _ _ _ (a := ⟨w.heap.size + 1, 0, none⟩) (b := ⟨w.heap.size + 1 + 1, 0, none⟩) rfl rfl hr6 ?_
  go_simp
end
end Go.Proofs.YtgjndhbfjofkeaaGreatDoor

