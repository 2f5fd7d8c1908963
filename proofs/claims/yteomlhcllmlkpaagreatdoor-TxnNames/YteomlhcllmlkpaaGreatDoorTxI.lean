import Derived.Test.YteomlhcllmlkpaaGreatDoorTxH
namespace Go.Proofs.YteomlhcllmlkpaaGreatDoor
open Go.RowKit
attribute [local go_sem] Oper.semAt_some run_store_nf run_store_f
section
variable {w w' : World} {ρ ρ' ρ'' : Nat → Nat} {u j : Nat} {c : Sc} {ab rb n n' : Nat} {x x' : Tx} {f f' : Int → Option Nat} {s s' : Ws} {m m' : Mm} {r r' : Ro}
theorem lay_lo (s : Ws) (a b : Nat) (v : Vl) : (s.lay a b v).lo s.locs.length = ⟨a, b, s.vals.length, false⟩ := by simp [Ws.lay, Ws.lo, List.getD_eq_getElem?_getD]
set_option maxHeartbeats 400000 in
set_option maxRecDepth 1000000 in
theorem acq_goes (hI : Inv s m) {o l b : Nat} (hO : x.object = (o : Int)) (hi : o < s.objs.length) (hl : x.loc = (l : Int)) (hli : l < s.locs.length) (hbz : x.base = (b : Int)) (hbi : b < s.locs.length) (hC : s.isC m (s.lo b).owner = true)
    (hno1 : 1 ≤ x.no) (hno : x.no < s.atts.length) (hmd : x.made = 0) (hroom : s.locs.length < 16384) (hact : s.isC m x.no = false) (hwon : (ca m.cells (s.ob o)).2 = (l : Int)) (hfr : m.free = true) (hlog : (m.log.length + 1) * 56 ≤ 140737488355328)
    (hb : c.bare) (hio : I64 x.object) (hfo : f x.object = none) (hn : n < 9223372036854775807) :
    Goes 54 u j c ab ρ x { x with made := (s.locs.length : Int), nx := some 119 } n (n + 1) f (upd f x.object (some s.locs.length)) s ((s.lay x.no b (s.vl b)).use s.locs.length true) m (m.swap (s.ob o) (l : Int) (s.locs.length : Int))
      (({ x.blank with kind := 13, object := x.object } : Ro).acc (m.swap (s.ob o) (l : Int) (s.locs.length : Int)).took) := by
  intro W rb hA hR
  have hMk : ∀ (W : World) (ρ : Nat → Nat), St W ρ u j c.wb c.mb s m → Calls Tryz.prog 80 #[.pointer (some ⟨c.wb, 0, none⟩), .int .i64 (x.no : Int), .int .i64 x.base] W fun e w' => e = .returned (.tuple #[.int .i64 (s.locs.length : Int), .int .i64 0]) ∧ ∃ ρ', St w' ρ' u j c.wb c.mb (s.lay x.no b (s.vl b)) m ∧ Ext (Sr u j) W w' ρ ρ' := by
    intro W ρ h
    rw [hbz]
    exact Make_ok h hI.wf hno1 hno hbi hC hroom
  have hI1 := hI.lay hno hbi hC hroom (s.vl b)
  have hlo := lay_lo s x.no b (s.vl b)
  have hAq : ∀ (W : World) (ρ : Nat → Nat), St W ρ u j c.wb c.mb (s.lay x.no b (s.vl b)) m → Calls Tryz.prog 82 #[.pointer (some ⟨c.wb, 0, none⟩), .int .i64 x.object, .int .i64 x.loc, .int .i64 (s.locs.length : Int)] W fun e w' => e = .returned (.tuple #[.bool true, .int .i64 0]) ∧ ∃ ρ', St w' ρ' u j c.wb c.mb ((s.lay x.no b (s.vl b)).use s.locs.length true) (m.swap (s.ob o) (l : Int) (s.locs.length : Int)) ∧ Ext (Sr u j) W w' ρ ρ' := by
    intro W ρ h
    rw [hO, hl]
    have e := Acq_ok h hI1.wf (o := o) hi (x := l) (by simp [Ws.lay]; omega) (y := s.locs.length) (by simp [Ws.lay]) (by rw [hlo]) (by rw [hlo]; exact hact) hfr hlog
    rw [show decide ((ca m.cells ((s.lay x.no b (s.vl b)).ob o)).2 = (l : Int)) = true from decide_eq_true hwon] at e
    exact e
  have HF : Hid (f x.object = none) := hfo
  have HR : Hid ((s.lay x.no b (s.vl b)).locs.length = s.locs.length + 1) := by simp [Hid, Ws.lay]
  clear hO hl hbz hwon hact hfo hlo
  have hc := hA.cl
  have f17 := hc.c 17 _ rfl
  have f19 := hc.c 19 _ rfl
  rw [hmd] at f19
  have hq := hR.cl
  have r5 := hq.c 5 _ rfl
  have zr5 := hq.z 5 (by show 5 < 26; decide)
  have r7 := hq.c 7 _ rfl
  have zr7 := hq.z 7 (by show 7 < 26; decide)
  have hR1 : RX ((W.setCell ⟨rb, 5, none⟩ (.int .i64 13)).setCell ⟨rb, 7, none⟩ (.int .i64 x.object)) ρ c ab rb { x.blank with kind := 13, object := x.object } := (hR.set1 (r' := { x.blank with kind := 13 }) (o := 5) (by decide) _ rfl).set1 (o := 7) (by decide) _ rfl
  have hA1 := (hA.setR hR 5 (.int .i64 13)).setR (hR.set1 (r' := { x.blank with kind := 13 }) (o := 5) (by decide) (.int .i64 13) rfl) 7 (.int .i64 x.object)
  have fr1 := ((Fr.refl (OwnR c ab rb) u j W ρ).setR 5 (.int .i64 13)).setR 7 (.int .i64 x.object)
  have n1 := hR.n1
  have n1' := hR.n1.symm
  clear hc hq
  go_enter Tryz.func54, Tryz.ntmps54
  go_wp2_with fail
  clear r5 zr5 r7 zr7 f17 f19
  generalize (W.setCell ⟨rb, 5, none⟩ (.int .i64 13)).setCell ⟨rb, 7, none⟩ (.int .i64 x.object) = W1 at *
  replace hA1 := hA1.new (Keeps.refl _ W1).drew
  replace hR1 := hR1.new (Keeps.refl _ W1).drew
  replace fr1 := fr1.kN (Keeps.refl _ W1).drew
  have hM := hMk _ _ hA1.st
  have hc := hA1.cl
  have f1 := hc.c 1 _ rfl
  have f7 := hc.c 7 _ rfl
  have f18 := hc.c 18 _ rfl
  clear hc hMk
  go_region_held3 (fun w' => w'.cell? ⟨ab, 1, none⟩ = some (.pointer (some ⟨c.wb, 0, none⟩)) ∧ w'.cell? ⟨ab, 7, none⟩ = some (.int .i64 (x.no : Int)) ∧ w'.cell? ⟨ab, 18, none⟩ = some (.int .i64 x.base)) (first | go_keep | exact KZ _) (first | (go_at_call 80; refine hM.mono ?_; clear hM; rintro e W3 ⟨rfl, ρ3, s3, x3⟩; have hA3 := hA1.run s3 x3; have hR3 := hR1.run (Sr.not0 hA1.st) x3; have fr3 := fr1.ex x3; have hc3 := hA3.cl; have g1 := hc3.c 1 _ rfl; have g7 := hc3.c 7 _ rfl; have g18 := hc3.c 18 _ rfl; have g19 := hc3.c 19 _ rfl; have zg19 := hc3.z 19 (by show 19 < 36; decide); have KZ := fun (v : Value) => And.intro ((hc3.set (o := 19) (by show 19 < 36; decide) v).c 1 _ rfl) (And.intro ((hc3.set (o := 19) (by show 19 < 36; decide) v).c 7 _ rfl) ((hc3.set (o := 19) (by show 19 < 36; decide) v).c 18 _ rfl))) | (go_at_call 75; refine (must_int _ _).mono ?_; rintro e W4 ⟨rfl, rfl⟩))
  have hA5 : AX (W4.setCell ⟨ab, 19, none⟩ (.int .i64 (s.locs.length : Int))) ρ3 u j c ab { x with made := (s.locs.length : Int) } n f (s.lay x.no b (s.vl b)) m := hA3.set1 (o := 19) (by decide) _ rfl
  have hR5 := hR3.setA 19 (.int .i64 (s.locs.length : Int))
  have fr5 := fr3.setA 19 (.int .i64 (s.locs.length : Int))
  clear KZ g1 g7 g18 g19 zg19 hc3 hA3 hR3 fr3 s3 x3 hA1 hR1 fr1 f1 f7 f18
  generalize W4.setCell ⟨ab, 19, none⟩ (.int .i64 (s.locs.length : Int)) = W5 at *
  go_wp2_with fail
  replace hA5 := hA5.new (Keeps.refl _ W5).drew
  replace hR5 := hR5.new (Keeps.refl _ W5).drew
  replace fr5 := fr5.kN (Keeps.refl _ W5).drew
  have hQ := hAq _ _ hA5.st
  have hc := hA5.cl
  have f1 := hc.c 1 _ rfl
  have f17 := hc.c 17 _ rfl
  have f19 := hc.c 19 _ rfl
  have f26 := hc.c 26 _ rfl
  clear hc hAq
  go_region_held3 (fun w' => w'.cell? ⟨ab, 1, none⟩ = some (.pointer (some ⟨c.wb, 0, none⟩)) ∧ w'.cell? ⟨ab, 17, none⟩ = some (.int .i64 x.object) ∧ w'.cell? ⟨ab, 26, none⟩ = some (.int .i64 x.loc) ∧ w'.cell? ⟨ab, 19, none⟩ = some (.int .i64 (s.locs.length : Int))) (go_keep) (first | (go_at_call 82; refine hQ.mono ?_; clear hQ; rintro e W6 ⟨rfl, ρ6, s6, x6⟩; have hA6 := hA5.run s6 x6; have hR6 := hR5.run (Sr.not0 hA5.st) x6; have fr6 := fr5.ex x6; have hc6 := hA6.cl; have g1 := hc6.c 1 _ rfl; have g17 := hc6.c 17 _ rfl; have g19 := hc6.c 19 _ rfl; have g26 := hc6.c 26 _ rfl) | (go_at_call 81; refine (must_bool _ _).mono ?_; rintro e W7 ⟨rfl, rfl⟩))
  clear g1 g17 g19 g26 hc6 hA5 hR5 fr5 s6 x6 f1 f17 f19 f26
  have hT := atook hA6 hR6 (had_swap m _ _ _) (by rw [log_swap]; omega)
  go_wp2_with fail
  refine hT.mono ?_
  rintro e W8 ⟨rfl, hA8, hR8, k8⟩
  have fr8 := fr6.kR k8
  have hK := take_free hA8 hb hio rfl (by omega) hn (N := n + 1) (by show (if (f x.object).isSome = true then n else n + 1) = n + 1; rw [HF.out]; rfl)
  clear hT hA6 hR6 fr6 k8
  go_wp2_with fail
  refine hK.mono ?_
  rintro e W9 ⟨rfl, hc9, ho9, k9⟩
  go_wp2_with fail
  (try simp only [Exit.then])
  refine bodyPost_ret (results_none rfl _ _ _) rfl ?_
  have x9 : Ext (fun r => r = 0) W8 W9 ρ6 ρ6 := ⟨k9.mono (fun i _ e => e.elim (fun e => by subst e; exact hA8.ra) (fun e => by subst e; exact hA8.ro)), fun _ _ => rfl, fun i hi => .inr (hA8.st.bnd i hi)⟩
  exact ⟨rfl, ρ6, ⟨⟨fun i hi => hA8.st.bnd i (Nat.le_trans k9.size hi), hA8.st.mj.ext x9 (fun e => hA8.st.u0 e), hA8.st.wj.ext x9 (fun r h1 h2 e => hA8.st.j0 (by omega)), hA8.st.u0, hA8.st.j0, hA8.st.ap⟩, hc9, ho9, hA8.ra, hA8.ro, hA8.ne⟩,
    ⟨hR8.cl.keep (by show 0 < 26; decide) k9 (fun e => e.elim (fun e => hR.n1 e) (fun e => hR.n2 e)), hR8.rr, hR8.n1, hR8.n2⟩, fr8.tr (Fr.of_keeps k9 (fun i _ e => e.elim (fun e => .inl e) (fun e => .inr (.inl e))))⟩
end
end Go.Proofs.YteomlhcllmlkpaaGreatDoor
