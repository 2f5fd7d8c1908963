import Derived.Test.YtgjndhbfjofkeaaGreatDoorG16
import Derived.Test.YtgjndhbfjofkeaaGreatDoorG12
namespace Go.Proofs.YtgjndhbfjofkeaaGreatDoor
open Go.RowKit
attribute [local go_sem] Oper.semAt_some run_store_nf run_store_f
section
variable {w w' : World} {ρ ρ' ρ'' : Nat → Nat} {u j : Nat} {c : Sc} {ab rb n n' : Nat} {x x' : Tx} {f f' : Int → Option Nat} {s s' : Ws} {m m' : Mm} {r r' : Ro}
def Ws.cur (s : Ws) (l : Nat) (sv : Int) : Int := if sv = 2 then ((s.lo l).new : Int) else ((s.lo l).old : Int)
theorem Current_any {wb mb : Nat} (h : St w ρ u j wb mb s m) {i : Nat} {sv : Int} (hv : sv = 1 ∨ sv = 2 ∨ sv = 3) (hi : i < s.locs.length) :
    Calls Tryz.prog 145 #[.pointer (some ⟨wb, 0, none⟩), .int .i64 (i : Int), .int .i64 sv] w fun e w' => e = .returned (.tuple #[.int .i64 (s.cur i sv), .int .i64 0]) ∧ w = w' := by
  unfold Ws.cur
  rcases hv with rfl | rfl | rfl
  · exact Current_13 h (.inl rfl) hi
  · exact Current_2 h hi
  · exact Current_13 h (.inr rfl) hi
def Tx.saw (x : Tx) (s : Ws) (l : Nat) (sv : Int) : Tx := { x with holder := ((s.lo l).owner : Int), status := sv, current := s.cur l sv }
def Tx.seeRow (x : Tx) (s : Ws) (m : Mm) (l : Nat) : Ro := ({ ({ x.blank with kind := 6 } : Ro).at_ x with enemy := ((s.lo l).owner : Int) } : Ro).acc (m.load (s.att (s.lo l).owner).status).took
set_option maxHeartbeats 400000 in
set_option maxRecDepth 1000000 in
theorem see_ok (hf : Wf s m) {l : Nat} (hl : x.loc = (l : Int)) (hi : l < s.locs.length) (hfr : m.free = true) (hlog : (m.log.length + 1) * 56 ≤ 140737488355328) {sv : Int} (h2 : (ca m.cells (s.att (s.lo l).owner).status).2 = sv) (hsv : sv = 1 ∨ sv = 2 ∨ sv = 3) {d : Fd} (hfd : x.found = some d.no) (ho : I64 x.object) {p : Nat} (hp : x.place = (p : Int)) (hp2 : p < 1000000000000) (hO : (x.saw s l sv).sn c.rs d = .ok x') :
    Goes 131 u j c ab ρ x x' n n f f s s m (m.load (s.att (s.lo l).owner).status) (x.seeRow s m l) := by
  intro W rb hA hR
  have HL : Hid (x.loc = (l : Int)) := hl
  have HF : Hid (x.found = some d.no) := hfd
  have HO : Hid ((x.saw s l sv).sn c.rs d = .ok x') := hO
  have HP : Hid (x.place = (p : Int)) := hp
  clear hl hfd hO hp
  have hfld : ∀ (a b d : Int) (w' : World), (Instr.field 157 (.agg #[.int .i64 a, .int .i64 b, .int .i64 d]) 0).run Tryz.prog w' = .ok (.int .i64 a) w' := fun _ _ _ _ => by kernel_rfl
  have hc := hR.cl
  have r5 := hc.c 5 _ rfl
  have zr5 := hc.z 5 (by show 5 < 26; decide)
  have hR1 : RX (W.setCell ⟨rb, 5, none⟩ (.int .i64 6)) ρ c ab rb { x.blank with kind := 6 } := hR.set1 (o := 5) (by decide) _ rfl
  have hA1 := hA.setR hR 5 (.int .i64 6)
  have fr1 := (Fr.refl (OwnR c ab rb) u j W ρ).setR 5 (.int .i64 6)
  clear hc
  go_enter Tryz.func131, Tryz.ntmps131
  go_wp2_with fail
  clear r5 zr5
  generalize W.setCell ⟨rb, 5, none⟩ (.int .i64 6) = W1 at *
  refine (at_any hA1.cl hR1.cl hR.n1).mono ?_
  rintro e W2 ⟨rfl, hc2, k2⟩
  have hA2 := (hA1.far k2 hR.rr hR.n1 hR.n2).new (Keeps.refl _ W2).drew
  have hR2 := (hR1.self hc2).new (Keeps.refl _ W2).drew
  have fr2 := (fr1.kR k2).kN (Keeps.refl _ W2).drew
  clear hA1 hR1 hc2 k2 fr1
  have hc := hA2.cl
  have f1 := hc.c 1 _ rfl
  have f26 := hc.c 26 _ rfl
  have hL := Locator_ok hA2.st hi
  rw [← HL.out] at hL
  clear hc
  go_wp2_with fail
  go_region_held3 (fun w' => w'.cell? ⟨ab, 1, none⟩ = some (.pointer (some ⟨c.wb, 0, none⟩)) ∧ w'.cell? ⟨ab, 26, none⟩ = some (.int .i64 x.loc)) (go_keep) (first | (go_at_call 106; refine hL.mono ?_; clear hL; rintro e W3 ⟨rfl, k3⟩; have hA3 := hA2.new k3; have hc3 := hA3.cl; have g1 := hc3.c 1 _ rfl; have g26 := hc3.c 26 _ rfl; clear hc3) | (go_at_call 105; refine (must_loc _ _ _ _).mono ?_; rintro e W4 ⟨rfl, k4⟩; have hA4 := hA3.new k4; have hc4 := hA4.cl; have g1' := hc4.c 1 _ rfl; have g26' := hc4.c 26 _ rfl; clear hc4))
  have hR4 := hR2.new (k3.trans k4)
  have fr4 := fr2.kN (k3.trans k4)
  clear hA2 hR2 fr2 k3 k4 hA3 g1 g26 f1 f26 g1' g26'
  have hq := hR4.cl
  have r9 := hq.c 9 _ rfl
  have zr9 := hq.z 9 (by show 9 < 26; decide)
  have hA5 := hA4.setR hR4 9 (.int .i64 ((s.lo l).owner : Int))
  have hR5 : RX _ ρ c ab rb { ({ x.blank with kind := 6 } : Ro).at_ x with enemy := ((s.lo l).owner : Int) } := hR4.set1 (o := 9) (by decide) (.int .i64 ((s.lo l).owner : Int)) rfl
  have fr5 := fr4.setR 9 (.int .i64 ((s.lo l).owner : Int))
  have hc := hA5.cl
  have f1 := hc.c 1 _ rfl
  have hS := Status_ok hA5.st hf (hf.lo l hi).2.2 hfr hlog
  rw [h2] at hS
  clear hq hc
  go_wp2_with fail
  clear r9 zr9 f1 hA4 hR4 fr4
  generalize W4.setCell ⟨rb, 9, none⟩ (.int .i64 ((s.lo l).owner : Int)) = W5 at *
  refine hS.mono ?_
  rintro e W6 ⟨rfl, ρ6, s6, x6⟩
  have hA6 := hA5.run s6 x6
  have hR6 := hR5.run (Sr.not0 hA5.st) x6
  have fr6 := fr5.ex x6
  clear hS hA5 hR5 fr5 s6 x6
  go_wp2_with fail
  refine (must_int _ _).mono ?_
  rintro e W7 ⟨rfl, rfl⟩
  have hT := atook hA6 hR6 (had_load m _) (by rw [log_load]; omega)
  go_wp2_with fail
  refine hT.mono ?_
  rintro e W8 ⟨rfl, hA8, hR8, k8⟩
  have fr8 := fr6.kR k8
  have hc := hA8.cl
  have f27 := hc.c 27 _ rfl
  have zf27 := hc.z 27 (by show 27 < 36; decide)
  have f28 := hc.c 28 _ rfl
  have zf28 := hc.z 28 (by show 28 < 36; decide)
  clear hT hA6 hR6 fr6 k8 hc
  have hA9 : AX ((W8.setCell ⟨ab, 27, none⟩ (.int .i64 ((s.lo l).owner : Int))).setCell ⟨ab, 28, none⟩ (.int .i64 sv)) ρ6 u j c ab { x with holder := ((s.lo l).owner : Int), status := sv } n f s (m.load (s.att (s.lo l).owner).status) := (hA8.set1 (x' := { x with holder := ((s.lo l).owner : Int) }) (o := 27) (by decide) _ rfl).set1 (o := 28) (by decide) _ rfl
  have hR9 := ((hR8.setA 27 (.int .i64 ((s.lo l).owner : Int))).setA 28 (.int .i64 sv))
  have fr9 := ((fr8.setA 27 (.int .i64 ((s.lo l).owner : Int))).setA 28 (.int .i64 sv))
  go_wp2_with fail
  clear hA8 hR8 fr8 f27 f28 zf27 zf28
  generalize (W8.setCell ⟨ab, 27, none⟩ (.int .i64 ((s.lo l).owner : Int))).setCell ⟨ab, 28, none⟩ (.int .i64 sv) = W9 at *
  replace hA9 := hA9.new (Keeps.refl _ W9).drew
  replace hR9 := hR9.new (Keeps.refl _ W9).drew
  replace fr9 := fr9.kN (Keeps.refl _ W9).drew
  have hC := Current_any hA9.st hsv hi
  rw [← HL.out] at hC
  have hc := hA9.cl
  have f1 := hc.c 1 _ rfl
  have zf1 := hc.z 1 (by show 1 < 36; decide)
  have f26 := hc.c 26 _ rfl
  have zf26 := hc.z 26 (by show 26 < 36; decide)
  have f29 := hc.c 29 _ rfl
  have zf29 := hc.z 29 (by show 29 < 36; decide)
  have KZ : ∀ v : Value, (W9.setCell ⟨ab, 29, none⟩ v).drew.cell? ⟨ab, 1, none⟩ = some (.pointer (some ⟨c.wb, 0, none⟩)) ∧ (W9.setCell ⟨ab, 29, none⟩ v).drew.cell? ⟨ab, 26, none⟩ = some (.int .i64 x.loc) := fun v => ⟨(hc.set (o := 29) (by show 29 < 36; decide) v).c 1 _ rfl, (hc.set (o := 29) (by show 29 < 36; decide) v).c 26 _ rfl⟩
  clear hc
  go_region_held3 (fun w' => w'.cell? ⟨ab, 1, none⟩ = some (.pointer (some ⟨c.wb, 0, none⟩)) ∧ w'.cell? ⟨ab, 26, none⟩ = some (.int .i64 x.loc)) (first | go_keep | exact KZ _) (first | (go_at_call 145; refine hC.mono ?_; clear hC; rintro e W10 ⟨rfl, rfl⟩) | (go_at_call 129; refine (must_int _ _).mono ?_; rintro e W11 ⟨rfl, rfl⟩))
  have hA10 : AX (W9.setCell ⟨ab, 29, none⟩ (.int .i64 (s.cur l sv))).drew ρ6 u j c ab { x with holder := ((s.lo l).owner : Int), status := sv, current := (s.cur l sv) } n f s (m.load (s.att (s.lo l).owner).status) := hA9.set1 (o := 29) (by decide) _ rfl
  have hR10 : RX (W9.setCell ⟨ab, 29, none⟩ (.int .i64 (s.cur l sv))).drew ρ6 c ab rb _ := hR9.setA 29 (.int .i64 (s.cur l sv))
  have fr10 : Fr (OwnR c ab rb) u j W (W9.setCell ⟨ab, 29, none⟩ (.int .i64 (s.cur l sv))).drew ρ ρ6 := fr9.setA 29 (.int .i64 (s.cur l sv))
  have hX := seen_any hA10.ct ho HP.out hp2 d HF.out
  rw [show ({ x with holder := ((s.lo l).owner : Int), status := sv, current := s.cur l sv } : Tx).sn c.rs d = .ok x' from HO.out] at hX
  simp only [Out.en, Out.tx] at hX
  clear KZ f1 f26 f29 zf1 zf26 zf29 hA9 hR9 fr9
  generalize (W9.setCell ⟨ab, 29, none⟩ (.int .i64 (s.cur l sv))).drew = W10 at *
  go_wp2_with fail
  refine hX.mono ?_
  rintro e W12 ⟨rfl, hc12, k12⟩
  go_wp2_with fail
  go_end0
  exact ⟨rfl, ρ6, hA10.self k12 hc12, hR10.far k12 hR.n1.symm, fr10.kA k12⟩
set_option maxHeartbeats 400000 in
set_option maxRecDepth 1000000 in
theorem see_no (hf : Wf s m) {l : Nat} (hl : x.loc = (l : Int)) (hi : l < s.locs.length) (hfr : m.free = true) (hlog : (m.log.length + 1) * 56 ≤ 140737488355328) {sv : Int} (h2 : (ca m.cells (s.att (s.lo l).owner).status).2 = sv) (hsv : sv = 1 ∨ sv = 2 ∨ sv = 3) {d : Fd} (hfd : x.found = some d.no) (ho : I64 x.object) {p : Nat} (hp : x.place = (p : Int)) (hp2 : p < 1000000000000) (hO : (x.saw s l sv).sn c.rs d = .no x') (w : World) :
    FailsK w 131 4 u j c ab ρ x x' n n f f s s m (m.load (s.att (s.lo l).owner).status) (x.seeRow s m l) := by
  intro W rb _ _ hA hR
  have HL : Hid (x.loc = (l : Int)) := hl
  have HF : Hid (x.found = some d.no) := hfd
  have HO : Hid ((x.saw s l sv).sn c.rs d = .no x') := hO
  have HP : Hid (x.place = (p : Int)) := hp
  clear hl hfd hO hp
  have hfld : ∀ (a b d : Int) (w' : World), (Instr.field 157 (.agg #[.int .i64 a, .int .i64 b, .int .i64 d]) 0).run Tryz.prog w' = .ok (.int .i64 a) w' := fun _ _ _ _ => by kernel_rfl
  have hc := hR.cl
  have r5 := hc.c 5 _ rfl
  have zr5 := hc.z 5 (by show 5 < 26; decide)
  have hR1 : RX (W.setCell ⟨rb, 5, none⟩ (.int .i64 6)) ρ c ab rb { x.blank with kind := 6 } := hR.set1 (o := 5) (by decide) _ rfl
  have hA1 := hA.setR hR 5 (.int .i64 6)
  have fr1 := (Fr.refl (OwnR c ab rb) u j W ρ).setR 5 (.int .i64 6)
  clear hc
  go_enter Tryz.func131, Tryz.ntmps131
  go_wp2_with fail
  clear r5 zr5
  generalize W.setCell ⟨rb, 5, none⟩ (.int .i64 6) = W1 at *
  refine (at_any hA1.cl hR1.cl hR.n1).mono ?_
  rintro e W2 ⟨rfl, hc2, k2⟩
  have hA2 := (hA1.far k2 hR.rr hR.n1 hR.n2).new (Keeps.refl _ W2).drew
  have hR2 := (hR1.self hc2).new (Keeps.refl _ W2).drew
  have fr2 := (fr1.kR k2).kN (Keeps.refl _ W2).drew
  clear hA1 hR1 hc2 k2 fr1
  have hc := hA2.cl
  have f1 := hc.c 1 _ rfl
  have f26 := hc.c 26 _ rfl
  have hL := Locator_ok hA2.st hi
  rw [← HL.out] at hL
  clear hc
  go_wp2_with fail
  go_region_held3 (fun w' => w'.cell? ⟨ab, 1, none⟩ = some (.pointer (some ⟨c.wb, 0, none⟩)) ∧ w'.cell? ⟨ab, 26, none⟩ = some (.int .i64 x.loc)) (go_keep) (first | (go_at_call 106; refine hL.mono ?_; clear hL; rintro e W3 ⟨rfl, k3⟩; have hA3 := hA2.new k3; have hc3 := hA3.cl; have g1 := hc3.c 1 _ rfl; have g26 := hc3.c 26 _ rfl; clear hc3) | (go_at_call 105; refine (must_loc _ _ _ _).mono ?_; rintro e W4 ⟨rfl, k4⟩; have hA4 := hA3.new k4; have hc4 := hA4.cl; have g1' := hc4.c 1 _ rfl; have g26' := hc4.c 26 _ rfl; clear hc4))
  have hR4 := hR2.new (k3.trans k4)
  have fr4 := fr2.kN (k3.trans k4)
  clear hA2 hR2 fr2 k3 k4 hA3 g1 g26 f1 f26 g1' g26'
  have hq := hR4.cl
  have r9 := hq.c 9 _ rfl
  have zr9 := hq.z 9 (by show 9 < 26; decide)
  have hA5 := hA4.setR hR4 9 (.int .i64 ((s.lo l).owner : Int))
  have hR5 : RX _ ρ c ab rb { ({ x.blank with kind := 6 } : Ro).at_ x with enemy := ((s.lo l).owner : Int) } := hR4.set1 (o := 9) (by decide) (.int .i64 ((s.lo l).owner : Int)) rfl
  have fr5 := fr4.setR 9 (.int .i64 ((s.lo l).owner : Int))
  have hc := hA5.cl
  have f1 := hc.c 1 _ rfl
  have hS := Status_ok hA5.st hf (hf.lo l hi).2.2 hfr hlog
  rw [h2] at hS
  clear hq hc
  go_wp2_with fail
  clear r9 zr9 f1 hA4 hR4 fr4
  generalize W4.setCell ⟨rb, 9, none⟩ (.int .i64 ((s.lo l).owner : Int)) = W5 at *
  refine hS.mono ?_
  rintro e W6 ⟨rfl, ρ6, s6, x6⟩
  have hA6 := hA5.run s6 x6
  have hR6 := hR5.run (Sr.not0 hA5.st) x6
  have fr6 := fr5.ex x6
  clear hS hA5 hR5 fr5 s6 x6
  go_wp2_with fail
  refine (must_int _ _).mono ?_
  rintro e W7 ⟨rfl, rfl⟩
  have hT := atook hA6 hR6 (had_load m _) (by rw [log_load]; omega)
  go_wp2_with fail
  refine hT.mono ?_
  rintro e W8 ⟨rfl, hA8, hR8, k8⟩
  have fr8 := fr6.kR k8
  have hc := hA8.cl
  have f27 := hc.c 27 _ rfl
  have zf27 := hc.z 27 (by show 27 < 36; decide)
  have f28 := hc.c 28 _ rfl
  have zf28 := hc.z 28 (by show 28 < 36; decide)
  clear hT hA6 hR6 fr6 k8 hc
  have hA9 : AX ((W8.setCell ⟨ab, 27, none⟩ (.int .i64 ((s.lo l).owner : Int))).setCell ⟨ab, 28, none⟩ (.int .i64 sv)) ρ6 u j c ab { x with holder := ((s.lo l).owner : Int), status := sv } n f s (m.load (s.att (s.lo l).owner).status) := (hA8.set1 (x' := { x with holder := ((s.lo l).owner : Int) }) (o := 27) (by decide) _ rfl).set1 (o := 28) (by decide) _ rfl
  have hR9 := ((hR8.setA 27 (.int .i64 ((s.lo l).owner : Int))).setA 28 (.int .i64 sv))
  have fr9 := ((fr8.setA 27 (.int .i64 ((s.lo l).owner : Int))).setA 28 (.int .i64 sv))
  go_wp2_with fail
  clear hA8 hR8 fr8 f27 f28 zf27 zf28
  generalize (W8.setCell ⟨ab, 27, none⟩ (.int .i64 ((s.lo l).owner : Int))).setCell ⟨ab, 28, none⟩ (.int .i64 sv) = W9 at *
  replace hA9 := hA9.new (Keeps.refl _ W9).drew
  replace hR9 := hR9.new (Keeps.refl _ W9).drew
  replace fr9 := fr9.kN (Keeps.refl _ W9).drew
  have hC := Current_any hA9.st hsv hi
  rw [← HL.out] at hC
  have hc := hA9.cl
  have f1 := hc.c 1 _ rfl
  have zf1 := hc.z 1 (by show 1 < 36; decide)
  have f26 := hc.c 26 _ rfl
  have zf26 := hc.z 26 (by show 26 < 36; decide)
  have f29 := hc.c 29 _ rfl
  have zf29 := hc.z 29 (by show 29 < 36; decide)
  have KZ : ∀ v : Value, (W9.setCell ⟨ab, 29, none⟩ v).drew.cell? ⟨ab, 1, none⟩ = some (.pointer (some ⟨c.wb, 0, none⟩)) ∧ (W9.setCell ⟨ab, 29, none⟩ v).drew.cell? ⟨ab, 26, none⟩ = some (.int .i64 x.loc) := fun v => ⟨(hc.set (o := 29) (by show 29 < 36; decide) v).c 1 _ rfl, (hc.set (o := 29) (by show 29 < 36; decide) v).c 26 _ rfl⟩
  clear hc
  go_region_held3 (fun w' => w'.cell? ⟨ab, 1, none⟩ = some (.pointer (some ⟨c.wb, 0, none⟩)) ∧ w'.cell? ⟨ab, 26, none⟩ = some (.int .i64 x.loc)) (first | go_keep | exact KZ _) (first | (go_at_call 145; refine hC.mono ?_; clear hC; rintro e W10 ⟨rfl, rfl⟩) | (go_at_call 129; refine (must_int _ _).mono ?_; rintro e W11 ⟨rfl, rfl⟩))
  have hA10 : AX (W9.setCell ⟨ab, 29, none⟩ (.int .i64 (s.cur l sv))).drew ρ6 u j c ab { x with holder := ((s.lo l).owner : Int), status := sv, current := (s.cur l sv) } n f s (m.load (s.att (s.lo l).owner).status) := hA9.set1 (o := 29) (by decide) _ rfl
  have hR10 : RX (W9.setCell ⟨ab, 29, none⟩ (.int .i64 (s.cur l sv))).drew ρ6 c ab rb _ := hR9.setA 29 (.int .i64 (s.cur l sv))
  have fr10 : Fr (OwnR c ab rb) u j W (W9.setCell ⟨ab, 29, none⟩ (.int .i64 (s.cur l sv))).drew ρ ρ6 := fr9.setA 29 (.int .i64 (s.cur l sv))
  have hX := seen_any hA10.ct ho HP.out hp2 d HF.out
  rw [show ({ x with holder := ((s.lo l).owner : Int), status := sv, current := s.cur l sv } : Tx).sn c.rs d = .no x' from HO.out] at hX
  simp only [Out.en, Out.tx] at hX
  clear KZ f1 f26 f29 zf1 zf26 zf29 hA9 hR9 fr9
  generalize (W9.setCell ⟨ab, 29, none⟩ (.int .i64 (s.cur l sv))).drew = W10 at *
  go_wp2_with fail
  refine hX.mono ?_
  rintro e W12 ⟨rfl, hc12, k12⟩
  exact ⟨rfl, rfl, ρ6, hA10.self k12 hc12, hR10.far k12 hR.n1.symm, fr10.kA k12⟩
end
end Go.Proofs.YtgjndhbfjofkeaaGreatDoor

namespace Go.Proofs.YtgjndhbfjofkeaaGreatDoor
open Go.RowKit
attribute [local go_sem] Oper.semAt_some run_store_nf run_store_f
section
variable {w w' : World} {ρ ρ' ρ'' : Nat → Nat} {u j : Nat} {c : Sc} {ab rb n n' : Nat} {x x' : Tx} {f f' : Int → Option Nat} {s s' : Ws} {m m' : Mm} {r r' : Ro}
set_option maxHeartbeats 400000 in
set_option maxRecDepth 1000000 in
theorem kill_flag (hI : Inv s m) {en : Nat} (he : x.enemy = (en : Int)) (hno1 : 1 ≤ en) (hno : en < s.atts.length) (hfl : x.flag = true) (hfr : m.free = true) (hlog : (m.log.length + 1) * 56 ≤ 140737488355328) :
    Goes 176 u j c ab ρ x { x with goOn := some 182, nx := some 172 } n n f f s s m (m.swap (s.att en).status 1 3) ((({ x.blank with kind := 12 } : Ro).vs x).acc (m.swap (s.att en).status 1 3).took) := by
  intro W rb hA hR
  have hmf : ∀ (fn : Fn) (first cap : Array Value) (w : World), (Instr.makeFunc fn first cap).run Tryz.prog w = .ok (.func fn first cap) w := fun _ _ _ _ => rfl
  have HE : Hid (x.enemy = (en : Int)) := he
  have HFL : Hid (x.flag = true) := hfl
  clear he hfl
  have hq := hR.cl
  have r5 := hq.c 5 _ rfl
  have zr5 := hq.z 5 (by show 5 < 26; decide)
  have hR1 : RX (W.setCell ⟨rb, 5, none⟩ (.int .i64 12)) ρ c ab rb { x.blank with kind := 12 } := hR.set1 (o := 5) (by decide) _ rfl
  have hA1 := hA.setR hR 5 (.int .i64 12)
  have fr1 := (Fr.refl (OwnR c ab rb) u j W ρ).setR 5 (.int .i64 12)
  have hag := against_any hA1 hR1
  clear hq
  go_enter Tryz.func176, Tryz.ntmps176
  go_wp2_with fail
  clear r5 zr5
  generalize W.setCell ⟨rb, 5, none⟩ (.int .i64 12) = W1 at *
  refine hag.mono ?_
  rintro e W2 ⟨rfl, hA2, hR2, fr2⟩
  replace hA2 := hA2.new (Keeps.refl _ W2).drew
  replace hR2 := hR2.new (Keeps.refl _ W2).drew
  have fr3 := (fr1.tr fr2).kN (Keeps.refl _ W2).drew
  have hS := Kill_ok hA2.st hI.wf hno1 hno hfr hlog
  rw [← HE.out] at hS
  generalize decide ((ca m.cells (s.att en).status).2 = 1) = dd at hS
  have hc := hA2.cl
  have f1 := hc.c 1 _ rfl
  have f31 := hc.c 31 _ rfl
  clear hc hag fr2 fr1
  go_wp2_with fail
  go_region_held3 (fun w' => w'.cell? ⟨ab, 1, none⟩ = some (.pointer (some ⟨c.wb, 0, none⟩)) ∧ w'.cell? ⟨ab, 31, none⟩ = some (.int .i64 x.enemy)) (go_keep) (first | (go_at_call 139; refine hS.mono ?_; clear hS; rintro e W3 ⟨rfl, ρ3, s3, x3⟩; have hA3 := hA2.run s3 x3; have hR3 := hR2.run (Sr.not0 hA2.st) x3; have fr4 := fr3.ex x3; have hc3 := hA3.cl; have g1 := hc3.c 1 _ rfl; have g31 := hc3.c 31 _ rfl) | (go_at_call 117; refine (must_bool _ _).mono ?_; rintro e W4 ⟨rfl, rfl⟩))
  clear g1 g31 hc3 hA2 hR2 fr3 s3 x3 f1 f31
  have hT := atook hA3 hR3 (had_swap m _ _ _) (by rw [log_swap]; omega)
  go_wp2_with fail
  refine hT.mono ?_
  rintro e W8 ⟨rfl, hA8, hR8, k8⟩
  have fr8 := fr4.kR k8
  have hP := part_flag hA8.cl HFL.out 182
  clear hT
  go_wp2_with fail
  refine hP.mono ?_
  rintro e W9 ⟨rfl, hc9, k9⟩
  clear hP
  go_wp2_with fail
  go_end0
  exact ⟨rfl, ρ3, hA8.self k9 hc9, hR8.far k9 hR.n1.symm, fr8.kA k9⟩
set_option maxHeartbeats 400000 in
set_option maxRecDepth 1000000 in
theorem wait_last (hl : x.left = 1) (hw : 0 ≤ x.waited) (hw2 : x.waited ≤ 1000000) :
    Goes 179 u j c ab ρ x { x with left := 0, waited := x.waited + 1, nx := some 108 } n n f f s s m m { ({ x.blank with kind := 10 } : Ro).vs x with wait := 0 } := by
  intro W rb hA hR
  have HL : Hid (x.left = 1) := hl
  have hq := hR.cl
  have r5 := hq.c 5 _ rfl
  have zr5 := hq.z 5 (by show 5 < 26; decide)
  have hR1 : RX (W.setCell ⟨rb, 5, none⟩ (.int .i64 10)) ρ c ab rb { x.blank with kind := 10 } := hR.set1 (o := 5) (by decide) _ rfl
  have hA1 := hA.setR hR 5 (.int .i64 10)
  have fr1 := (Fr.refl (OwnR c ab rb) u j W ρ).setR 5 (.int .i64 10)
  have hag := against_any hA1 hR1
  clear hl
  have g2 : IntKind.i64.wrap (x.waited + 1) = x.waited + 1 := by rw [IntKind.wrap_i64]; omega
  clear hq
  go_enter Tryz.func179, Tryz.ntmps179
  go_wp2_with fail
  clear r5 zr5
  generalize W.setCell ⟨rb, 5, none⟩ (.int .i64 10) = W1 at *
  refine hag.mono ?_
  rintro e W2 ⟨rfl, hA2, hR2, fr2⟩
  have hc := hA2.cl
  have f33 := hc.c 33 _ rfl
  have zf33 := hc.z 33 (by show 33 < 36; decide)
  have f34 := hc.c 34 _ rfl
  have zf34 := hc.z 34 (by show 34 < 36; decide)
  rw [HL.out] at f34
  have hA3 : AX ((W2.setCell ⟨ab, 34, none⟩ (.int .i64 0)).setCell ⟨ab, 33, none⟩ (.int .i64 (x.waited + 1))) ρ u j c ab { x with left := 0, waited := x.waited + 1 } n f s m := (hA2.set1 (x' := { x with left := 0 }) (o := 34) (by decide) _ rfl).set1 (o := 33) (by decide) _ rfl
  have hR3 := (hR2.setA 34 (.int .i64 0)).setA 33 (.int .i64 (x.waited + 1))
  have fr3 := ((fr1.tr fr2).setA 34 (.int .i64 0)).setA 33 (.int .i64 (x.waited + 1))
  have hq := hR3.cl
  have r16 := hq.c 16 _ rfl
  have zr16 := hq.z 16 (by show 16 < 26; decide)
  have n1 := hR.n1
  have n1' := hR.n1.symm
  have hA4 := hA3.setR hR3 16 (.int .i64 0)
  have hR4 : RX _ ρ c ab rb { ({ x.blank with kind := 10 } : Ro).vs x with wait := 0 } := hR3.set1 (o := 16) (by decide) (.int .i64 0) rfl
  have fr4 := fr3.setR 16 (.int .i64 0)
  have hc4 := hA4.cl
  have g34 := hc4.c 34 _ rfl
  have hG := again_any hc4
  clear hag hc hq hc4
  go_wp2_with fail
  clear f33 f34 zf33 zf34 r16 zr16 g34
  generalize ((W2.setCell ⟨ab, 34, none⟩ (.int .i64 0)).setCell ⟨ab, 33, none⟩ (.int .i64 (x.waited + 1))).setCell ⟨rb, 16, none⟩ (.int .i64 0) = W4 at *
  refine hG.mono ?_
  rintro e W5 ⟨rfl, hc5, k5⟩
  go_wp2_with fail
  go_end0
  exact ⟨rfl, ρ, hA4.self k5 hc5, hR4.far k5 hR.n1.symm, fr4.kA k5⟩
end
end Go.Proofs.YtgjndhbfjofkeaaGreatDoor

namespace Go.Proofs.YtgjndhbfjofkeaaGreatDoor
open Go.RowKit
attribute [local go_sem] Oper.semAt_some run_store_nf run_store_f
section
variable {w w' : World} {ρ ρ' ρ'' : Nat → Nat} {u j : Nat} {c : Sc} {ab rb n n' : Nat} {x x' : Tx} {f f' : Int → Option Nat} {s s' : Ws} {m m' : Mm} {r r' : Ro}
theorem TT.keep2 {S : Nat → Prop} (h : TT w c) (k : Keeps S w w') (hS : ∀ i, (c.ve.ownBlock = some i ∨ c.vm = some i ∨ c.vf.ownBlock = some i) → ¬ S i) : TT w' c := by
  refine ⟨k.owns h.re (fun g e => hS g (.inl e)), k.owns h.rf (fun g e => hS g (.inr (.inr e))), ?_, h.gd, h.n3, h.n5, h.n6⟩
  rcases h.mp with e | ⟨mb, e, hm⟩
  · exact .inl e
  · exact .inr ⟨mb, e, hm.keep k (hS mb (.inr (.inl e)))⟩
theorem AX.omp (h : AX w ρ u j c ab x n f s m) (k : Keeps (fun i => i = c.om) w w') (ho : OM w' c.om n' f') : AX w' ρ u j c ab x n' f' s m :=
  ⟨h.st.wr k (h.ro _ (.inl rfl)), h.cl.keep (by show 0 < 36; decide) k (fun e => h.ne (.inl e)), ho, h.tt.keep2 k (fun i hi e => h.tt.n6 i hi e), h.ra, h.ro, h.ne⟩
def Sc.tab (c : Sc) (T : TB.Tk) (rs : List Rd) : Sc := { c with ve := T.ve, vm := T.vm, vf := T.vf, rs := rs }
theorem Sam.tab (c : Sc) (T : TB.Tk) (rs : List Rd) : Sam c (c.tab T rs) rs := ⟨rfl, rfl, rfl, rfl, rfl, rfl⟩
theorem St.wrs {wb mb : Nat} {B : Nat → Prop} (h : St w ρ u j wb mb s m) (k : Keeps B w w') (hB : ∀ i, i < w.heap.size → B i → ρ i = 0) : St w' ρ u j wb mb s m :=
  have x9 : Ext (fun r => r = 0) w w' ρ ρ := ⟨k.mono hB, fun _ _ => rfl, fun i hi => .inr (h.bnd i hi)⟩
  ⟨fun i hi => h.bnd i (Nat.le_trans k.size hi), h.mj.ext x9 (fun e => h.u0 e), h.wj.ext x9 (fun r h1 h2 e => h.j0 (by omega)), h.u0, h.j0, h.ap⟩
theorem AX.tab (h : AX w ρ u j c ab x n f s m) {T : TB.Tk} {rs : List Rd} (hT : TB.TV w' T rs) (hL : TB.Lf w w' ⟨ab, c.ve, c.vm, c.vf⟩ T) : AX w' ρ u j (c.tab T rs) ab x n f s m := by
  have htb : T.tb = ab := hL.tb
  have hlt := h.alt
  have nom : ¬ (⟨ab, c.ve, c.vm, c.vf⟩ : TB.Tk).Blk c.om := fun e => e.elim (fun e => h.ne (.inl e.symm)) (fun e => h.tt.n6 _ e rfl)
  refine ⟨h.st.wrs hL.kp (fun i _ e => e.elim (fun e => e ▸ h.ra) (fun e => h.ro i (.inr e))), ⟨fun o v e => ?_, fun o ho => ?_⟩, h.om.keep hL.kp nom, ⟨hT.re, hT.rf, hT.mp, hT.gd, hT.n3, hT.n5, fun k hk => ?_⟩, h.ra, fun k hk => ?_, fun e => ?_⟩
  · have ec : x.cells (c.tab T rs) ab = (((x.cells c ab).set 11 T.ve).set 12 (.map T.vm)).set 13 T.vf := rfl
    rw [ec] at e
    by_cases h13 : o = 13
    · subst h13
      rw [List.getElem?_set_self (by show 13 < 36; decide)] at e
      cases e
      exact htb ▸ hT.f2
    · rw [List.getElem?_set_ne (fun e' => h13 e'.symm)] at e
      by_cases h12 : o = 12
      · subst h12
        rw [List.getElem?_set_self (by show 12 < 36; decide)] at e
        cases e
        exact htb ▸ hT.f1
      · rw [List.getElem?_set_ne (fun e' => h12 e'.symm)] at e
        by_cases h11 : o = 11
        · subst h11
          rw [List.getElem?_set_self (by show 11 < 36; decide)] at e
          cases e
          exact htb ▸ hT.f0
        · rw [List.getElem?_set_ne (fun e' => h11 e'.symm)] at e
          exact hL.oc o v (by omega) (h.cl.c o v e)
  · exact htb ▸ hT.z o ho
  · rcases hL.bk k (.inr hk) with e | e
    · exact fun e' => nom (e' ▸ e)
    · have := h.om.lt
      show k ≠ c.om
      omega
  · rcases hk with e | e
    · exact h.ro k (.inl e)
    · rcases hL.bk k (.inr e) with e | e
      · exact e.elim (fun e => e ▸ h.ra) (fun e => h.ro k (.inr e))
      · exact h.st.bnd k e
  · rcases e with e | e | e | e
    · exact h.ne (.inl e)
    · exact hT.n1 (htb ▸ e)
    · exact hT.n4 (htb ▸ e)
    · exact hT.n2 (htb ▸ e)
theorem Sc.tab_bk {T : TB.Tk} {rs : List Rd} (hT : TB.TV w' T rs) (hL : TB.Lf w w' ⟨ab, c.ve, c.vm, c.vf⟩ T) (k : Nat) (hk : (c.tab T rs).Q k) : c.Q k ∨ w.heap.size ≤ k := by
  rcases hk with e | e
  · exact .inl (.inl e)
  · rcases hL.bk k (.inr e) with e' | e'
    · rcases e' with e' | e'
      · exfalso
        have htb : T.tb = ab := hL.tb
        have e'' : k = ab := e'
        subst e''
        rcases e with e | e | e
        · exact hT.n1 (htb ▸ e)
        · exact hT.n4 (htb ▸ e)
        · exact hT.n2 (htb ▸ e)
      · exact .inl (.inr e')
    · exact .inr e'
theorem RX.tab (hR : RX w ρ c ab rb r) {T : TB.Tk} {rs : List Rd} (hT : TB.TV w' T rs) (hL : TB.Lf w w' ⟨ab, c.ve, c.vm, c.vf⟩ T) : RX w' ρ (c.tab T rs) ab rb r :=
  ⟨hR.cl.keep (by show 0 < 26; decide) hL.kp (fun e => e.elim (fun e => hR.n1 e) (fun e => hR.n2 (.inr e))), hR.rr, hR.n1, fun e => (Sc.tab_bk hT hL rb e).elim hR.n2 (fun e => by have := hR.lt; omega)⟩
set_option maxHeartbeats 800000 in
set_option maxRecDepth 1000000 in
theorem take_no (h : AX w ρ u j c ab x n f s m) (ho : I64 x.object) {v : Nat} (hv : x.made = (v : Int)) (hv2 : v ≤ 9223372036854775807) (hn : n < 9223372036854775807) {N : Nat} (hN : (if (f x.object).isSome = true then n else n + 1) = N) (hh : ¬ hld c.rs x.object) :
    Calls Tryz.prog 154 #[.pointer (some ⟨ab, 0, none⟩)] w fun e w' => e = .returned (.tuple #[]) ∧ ∃ c', Res w w' ρ ρ u j c c' ab (x.ck c.rs 0) c.rs N (upd f x.object (some v)) s m (Own c ab) := by
  have hD := h.new (Keeps.refl _ w).drew
  obtain ⟨w1, hput, hom, k1⟩ := hD.om.put ho hv2 hn
  rw [← hv] at hput
  rw [hN] at hom
  clear hN
  have hc := hD.cl
  have f14 := hc.c 14 _ rfl
  have f17 := hc.c 17 _ rfl
  have f19 := hc.c 19 _ rfl
  have h1 := hD.omp k1 hom
  have hc1 := h1.cl
  have g14 := hc1.c 14 _ rfl
  have g17 := hc1.c 17 _ rfl
  have g19 := hc1.c 19 _ rfl
  have fr1 : Fr (Own c ab) u j w w1 ρ ρ := Fr.of_keeps (B := fun i => i = c.om) ⟨k1.os, k1.tape, k1.output, k1.size, k1.block⟩ (fun _ _ e => .inr (.inl e))
  have hF : ∀ W : World, CT W c ab x → Calls Tryz.prog 169 #[.pointer (some ⟨ab, 11, none⟩), .int .i64 x.object] W fun e w' => e = .returned (.tuple #[.agg #[.int .i64 0, .int .i64 0, .int .i64 0], .int .i64 71]) ∧ Keeps (fun _ => False) W w' := fun W hW => TB.upgrade_no hW.tv ho hh
  clear hv hc hc1 hh
  go_enter Tryz.func154, Tryz.ntmps154
  go_wp2_with fail
  go_region_held3 (fun w' => w'.cell? ⟨ab, 14, none⟩ = some (.map (some c.om)) ∧ w'.cell? ⟨ab, 17, none⟩ = some (.int .i64 x.object) ∧ w'.cell? ⟨ab, 19, none⟩ = some (.int .i64 x.made)) (go_keep) (fail)
  have ka : Keeps (fun _ => False) w1 (w1.alloc (.cells #[.int .i64 0, .int .i64 0, .int .i64 0] 141)).drew := ((Keeps.refl _ w1).alloc _).drew
  have hEa : CL (w1.alloc (.cells #[.int .i64 0, .int .i64 0, .int .i64 0] 141)).drew w1.heap.size [.int .i64 0, .int .i64 0, .int .i64 0] := (CL.made w1 [.int .i64 0, .int .i64 0, .int .i64 0] _).drew
  have hXa := h1.new ka
  have hXb := h1.new (Keeps.refl _ w1).drew
  have hFa := hF _ hXa.ct
  have hFb := hF _ hXb.ct
  have lta : ab < w1.heap.size := h1.alt
  have na : ¬ ab = w1.heap.size := by omega
  have na2 : ¬ w1.heap.size = ab := by omega
  have nq : ¬ c.Q w1.heap.size := fun e => by have := h1.qlt e; omega
  have rz : ρ w1.heap.size = 0 := h1.st.bnd _ (Nat.le_refl _)
  clear hF hput f14 f17 f19 hD k1
  go_wp2_with fail
  go_region_held3 (fun w' => w'.cell? ⟨ab, 17, none⟩ = some (.int .i64 x.object)) (go_keep) (first | (go_at_call 169; (with_reducible refine hFa.mono ?_); rintro e w2 ⟨rfl, k2⟩; have h2 := hXa.new k2; have e2 := hEa.keep (by show 0 < 3; decide) k2 (fun e => e); have K2 := fr1.tr (Fr.of_keeps (ka.trans k2) (fun _ _ e => e.elim)); have h2c := h2.cl; have q17 := h2c.c 17 _ rfl; have e20 := e2.c 0 _ rfl; have e21 := e2.c 1 _ rfl; have e22 := e2.c 2 _ rfl; have ze20 := e2.z 0 (by show 0 < 3; decide); have ze21 := e2.z 1 (by show 1 < 3; decide); have ze22 := e2.z 2 (by show 2 < 3; decide)) | (go_at_call 169; (with_reducible refine hFb.mono ?_); rintro e w2 ⟨rfl, k2⟩; have h2 := hXb.new k2; have K2 := fr1.tr (Fr.of_keeps ((Keeps.refl (fun _ => False) w1).drew.trans k2) (fun _ _ e => e.elim)); have h2c := h2.cl; have q17 := h2c.c 17 _ rfl))
  · have hX := h2.new ((Keeps.refl _ w2).alloc (.cells #[.int .i64 0, .int .i64 0, .int .i64 0] 141))
    have KX := K2.tr (Fr.of_keeps (A := Own c ab) ((Keeps.refl (fun _ => False) w2).alloc (.cells #[.int .i64 0, .int .i64 0, .int .i64 0] 141)) (fun _ _ e => e.elim))
    clear g14 g17 g19 q17 hEa hXa hXb hFa hFb ka h2 h2c k2 K2
    generalize w2.alloc (.cells #[.int .i64 0, .int .i64 0, .int .i64 0] 141) = w3 at *
    have h4 := hX
    have K4 := KX
    have hC := check_any h4.ct 0
    clear hX KX
    go_wp2_with fail
    change Calls Tryz.prog 110 #[.pointer (some ⟨ab, 0, none⟩), .int .i64 0] _ _ at hC
    refine hC.mono ?_
    rintro e w5 ⟨rfl, hc5, k5⟩
    go_wp2_with fail
    go_end0
    exact ⟨rfl, _, Sam.refl c, h4.self k5 hc5, K4.tr (Fr.of_keeps k5 (fun _ _ e => .inl e)), fun _ e => .inl e⟩
  · have kS : Keeps (fun k => k = w1.heap.size) w2 (((w2.setCell ⟨w1.heap.size, 0, none⟩ (.int .i64 0)).setCell ⟨w1.heap.size, 1, none⟩ (.int .i64 0)).setCell ⟨w1.heap.size, 2, none⟩ (.int .i64 0)) := keeps_set3 _ _ _ _ _
    have nq2 : ¬ c.Q w1.heap.size := nq
    have hX := h2.far kS rz na2 nq2
    have KX : Fr (Own c ab) u j w (((w2.setCell ⟨w1.heap.size, 0, none⟩ (.int .i64 0)).setCell ⟨w1.heap.size, 1, none⟩ (.int .i64 0)).setCell ⟨w1.heap.size, 2, none⟩ (.int .i64 0)) ρ ρ := K2.trans (Fr.of_keeps (A := fun k => k = w1.heap.size) kS (fun _ _ e => e)) (fun _ _ e => e) (fun i hi e => by have := fr1.keeps.size; omega)
    clear g14 g17 g19 q17 hEa hXa hXb hFa hFb ka h2 h2c k2 K2 e2 e20 e21 e22 ze20 ze21 ze22 kS
    generalize ((w2.setCell ⟨w1.heap.size, 0, none⟩ (.int .i64 0)).setCell ⟨w1.heap.size, 1, none⟩ (.int .i64 0)).setCell ⟨w1.heap.size, 2, none⟩ (.int .i64 0) = w3 at *
    have h4 := hX
    have K4 := KX
    have hC := check_any h4.ct 0
    clear hX KX
    go_wp2_with fail
    change Calls Tryz.prog 110 #[.pointer (some ⟨ab, 0, none⟩), .int .i64 0] _ _ at hC
    refine hC.mono ?_
    rintro e w5 ⟨rfl, hc5, k5⟩
    go_wp2_with fail
    go_end0
    exact ⟨rfl, _, Sam.refl c, h4.self k5 hc5, K4.tr (Fr.of_keeps k5 (fun _ _ e => .inl e)), fun _ e => .inl e⟩
set_option maxHeartbeats 800000 in
set_option maxRecDepth 1000000 in
theorem take_up (h : AX w ρ u j c ab x n f s m) (ho : I64 x.object) {v : Nat} (hv : x.made = (v : Int)) (hv2 : v ≤ 9223372036854775807) (hn : n < 9223372036854775807) {N : Nat} (hN : (if (f x.object).isSome = true then n else n + 1) = N) {q : Nat} {y : Rd} (hq : c.rs[q]? = some y) (hy : y.fate = 1) (hyo : y.ob = x.object) (hl : c.rs.length ≤ 1000000000) :
    Calls Tryz.prog 154 #[.pointer (some ⟨ab, 0, none⟩)] w fun e w' => e = .returned (.tuple #[]) ∧ ∃ c', Res w w' ρ ρ u j c c' ab (({ x with entry := (q : Int) } : Tx).ck (c.rs.set q (y.to 3)) 0) (c.rs.set q (y.to 3)) N (upd f x.object (some v)) s m (Own c ab) := by
  have hD := h.new (Keeps.refl _ w).drew
  obtain ⟨w1, hput, hom, k1⟩ := hD.om.put ho hv2 hn
  rw [← hv] at hput
  rw [hN] at hom
  clear hN
  have hc := hD.cl
  have f14 := hc.c 14 _ rfl
  have f17 := hc.c 17 _ rfl
  have f19 := hc.c 19 _ rfl
  have h1 := hD.omp k1 hom
  have hc1 := h1.cl
  have g14 := hc1.c 14 _ rfl
  have g17 := hc1.c 17 _ rfl
  have g19 := hc1.c 19 _ rfl
  have fr1 : Fr (Own c ab) u j w w1 ρ ρ := Fr.of_keeps (B := fun i => i = c.om) ⟨k1.os, k1.tape, k1.output, k1.size, k1.block⟩ (fun _ _ e => .inr (.inl e))
  have hF : ∀ W : World, CT W c ab x → Calls Tryz.prog 169 #[.pointer (some ⟨ab, 11, none⟩), .int .i64 x.object] W fun e w' => e = .returned (.tuple #[.agg #[.int .i64 y.ob, .int .i64 y.ver, .int .i64 (q : Int)], .int .i64 0]) ∧ ∃ T, TB.TV w' T (c.rs.set q (y.to 3)) ∧ TB.Lf W w' ⟨ab, c.ve, c.vm, c.vf⟩ T := fun W hW => by
    have := TB.upgrade_ok hW.tv hq hy (by omega)
    rw [hyo] at this
    exact this
  clear hv hc hc1 hq hy hyo hl
  go_enter Tryz.func154, Tryz.ntmps154
  go_wp2_with fail
  go_region_held3 (fun w' => w'.cell? ⟨ab, 14, none⟩ = some (.map (some c.om)) ∧ w'.cell? ⟨ab, 17, none⟩ = some (.int .i64 x.object) ∧ w'.cell? ⟨ab, 19, none⟩ = some (.int .i64 x.made)) (go_keep) (fail)
  have ka : Keeps (fun _ => False) w1 (w1.alloc (.cells #[.int .i64 0, .int .i64 0, .int .i64 0] 141)).drew := ((Keeps.refl _ w1).alloc _).drew
  have hEa : CL (w1.alloc (.cells #[.int .i64 0, .int .i64 0, .int .i64 0] 141)).drew w1.heap.size [.int .i64 0, .int .i64 0, .int .i64 0] := (CL.made w1 [.int .i64 0, .int .i64 0, .int .i64 0] _).drew
  have hXa := h1.new ka
  have hXb := h1.new (Keeps.refl _ w1).drew
  have hFa := hF _ hXa.ct
  have hFb := hF _ hXb.ct
  have lta : ab < w1.heap.size := h1.alt
  have na : ¬ ab = w1.heap.size := by omega
  have na2 : ¬ w1.heap.size = ab := by omega
  have nq : ¬ c.Q w1.heap.size := fun e => by have := h1.qlt e; omega
  have rz : ρ w1.heap.size = 0 := h1.st.bnd _ (Nat.le_refl _)
  clear hF hput f14 f17 f19 hD k1
  go_wp2_with fail
  go_region_held3 (fun w' => w'.cell? ⟨ab, 17, none⟩ = some (.int .i64 x.object)) (go_keep) (first | (go_at_call 169; (with_reducible refine hFa.mono ?_); rintro e w2 ⟨rfl, T, hT, hL⟩; have h2 := hXa.tab hT hL; have e2 := hEa.keep (by show 0 < 3; decide) hL.kp (fun e => e.elim (fun e => na e.symm) (fun e => nq (.inr e))); have K2 := fr1.tr ((Fr.of_keeps ka (fun _ _ e => e.elim)).tr (Fr.of_keeps hL.kp (fun _ _ e => e.elim (fun e => .inl e) (fun e => .inr (.inr e))))); have BK := Sc.tab_bk hT hL; have BS := ka.size; have h2c := h2.cl; have q17 := h2c.c 17 _ rfl; have e20 := e2.c 0 _ rfl; have e21 := e2.c 1 _ rfl; have e22 := e2.c 2 _ rfl; have ze20 := e2.z 0 (by show 0 < 3; decide); have ze21 := e2.z 1 (by show 1 < 3; decide); have ze22 := e2.z 2 (by show 2 < 3; decide)) | (go_at_call 169; (with_reducible refine hFb.mono ?_); rintro e w2 ⟨rfl, T, hT, hL⟩; have h2 := hXb.tab hT hL; have K2 := fr1.tr ((Fr.of_keeps (Keeps.refl (fun _ => False) w1).drew (fun _ _ e => e.elim)).tr (Fr.of_keeps hL.kp (fun _ _ e => e.elim (fun e => .inl e) (fun e => .inr (.inr e))))); have BK := Sc.tab_bk hT hL; have BS : w1.heap.size ≤ w1.drew.heap.size := Nat.le_refl _; have h2c := h2.cl; have q17 := h2c.c 17 _ rfl))
  · have hX := h2.new ((Keeps.refl _ w2).alloc (.cells #[.int .i64 y.ob, .int .i64 y.ver, .int .i64 (q : Int)] 141))
    have KX := K2.tr (Fr.of_keeps (A := Own c ab) ((Keeps.refl (fun _ => False) w2).alloc (.cells #[.int .i64 y.ob, .int .i64 y.ver, .int .i64 (q : Int)] 141)) (fun _ _ e => e.elim))
    have hQ : CL (w2.alloc (.cells #[.int .i64 y.ob, .int .i64 y.ver, .int .i64 (q : Int)] 141)) w2.heap.size [.int .i64 y.ob, .int .i64 y.ver, .int .i64 (q : Int)] := CL.made w2 [.int .i64 y.ob, .int .i64 y.ver, .int .i64 (q : Int)] 141
    clear g14 g17 g19 q17 hEa hXa hXb hFa hFb ka h2 h2c hT hL K2
    generalize w2.alloc (.cells #[.int .i64 y.ob, .int .i64 y.ver, .int .i64 (q : Int)] 141) = w3 at *
    have hc3 := hX.cl
    have zq := hQ.c 2 _ rfl
    have g20 := hc3.c 20 _ rfl
    have zg20 := hc3.z 20 (by show 20 < 36; decide)
    have h4 : AX (w3.setCell ⟨ab, 20, none⟩ (.int .i64 (q : Int))) ρ u j (c.tab T (c.rs.set q (y.to 3))) ab { x with entry := (q : Int) } N (upd f x.object (some v)) s m := hX.set1 (o := 20) (by decide) _ rfl
    have K4 := KX.tr (Fr.of_keeps (A := Own c ab) ((Keeps.refl (fun k => k = ab) w3).setA 20 (.int .i64 (q : Int))) (fun _ _ e => .inl e))
    have hC := check_any h4.ct 0
    clear hX hc3 hQ KX
    go_wp2_with fail
    clear g20 zg20 zq
    generalize w3.setCell ⟨ab, 20, none⟩ (.int .i64 (q : Int)) = w4 at *
    change Calls Tryz.prog 110 #[.pointer (some ⟨ab, 0, none⟩), .int .i64 0] _ _ at hC
    refine hC.mono ?_
    rintro e w5 ⟨rfl, hc5, k5⟩
    go_wp2_with fail
    go_end0
    exact ⟨rfl, _, Sam.tab c T _, h4.self k5 hc5, K4.tr (Fr.of_keeps k5 (fun _ _ e => .inl e)), fun k hk => (BK k hk).imp id (fun e => Nat.le_trans fr1.keeps.size (Nat.le_trans BS e))⟩
  · have kS : Keeps (fun k => k = w1.heap.size) w2 (((w2.setCell ⟨w1.heap.size, 0, none⟩ (.int .i64 y.ob)).setCell ⟨w1.heap.size, 1, none⟩ (.int .i64 y.ver)).setCell ⟨w1.heap.size, 2, none⟩ (.int .i64 (q : Int))) := keeps_set3 _ _ _ _ _
    have nq2 : ¬ (c.tab T (c.rs.set q (y.to 3))).Q w1.heap.size := fun e => (BK _ e).elim nq (fun e => absurd (show w1.heap.size + 1 ≤ w1.heap.size by simpa using e) (by omega))
    have hX := h2.far kS rz na2 nq2
    have KX : Fr (Own c ab) u j w (((w2.setCell ⟨w1.heap.size, 0, none⟩ (.int .i64 y.ob)).setCell ⟨w1.heap.size, 1, none⟩ (.int .i64 y.ver)).setCell ⟨w1.heap.size, 2, none⟩ (.int .i64 (q : Int))) ρ ρ := K2.trans (Fr.of_keeps (A := fun k => k = w1.heap.size) kS (fun _ _ e => e)) (fun _ _ e => e) (fun i hi e => by have := fr1.keeps.size; omega)
    have hQ : CL (((w2.setCell ⟨w1.heap.size, 0, none⟩ (.int .i64 y.ob)).setCell ⟨w1.heap.size, 1, none⟩ (.int .i64 y.ver)).setCell ⟨w1.heap.size, 2, none⟩ (.int .i64 (q : Int))) w1.heap.size [.int .i64 y.ob, .int .i64 y.ver, .int .i64 (q : Int)] := ((e2.set (o := 0) (by show 0 < 3; decide) (.int .i64 y.ob)).set (o := 1) (by show 1 < 3; decide) (.int .i64 y.ver)).set (o := 2) (by show 2 < 3; decide) (.int .i64 (q : Int))
    clear g14 g17 g19 q17 hEa hXa hXb hFa hFb ka h2 h2c hT hL K2 e2 e20 e21 e22 ze20 ze21 ze22 kS
    generalize ((w2.setCell ⟨w1.heap.size, 0, none⟩ (.int .i64 y.ob)).setCell ⟨w1.heap.size, 1, none⟩ (.int .i64 y.ver)).setCell ⟨w1.heap.size, 2, none⟩ (.int .i64 (q : Int)) = w3 at *
    have hc3 := hX.cl
    have zq := hQ.c 2 _ rfl
    have g20 := hc3.c 20 _ rfl
    have zg20 := hc3.z 20 (by show 20 < 36; decide)
    have h4 : AX (w3.setCell ⟨ab, 20, none⟩ (.int .i64 (q : Int))) ρ u j (c.tab T (c.rs.set q (y.to 3))) ab { x with entry := (q : Int) } N (upd f x.object (some v)) s m := hX.set1 (o := 20) (by decide) _ rfl
    have K4 := KX.tr (Fr.of_keeps (A := Own c ab) ((Keeps.refl (fun k => k = ab) w3).setA 20 (.int .i64 (q : Int))) (fun _ _ e => .inl e))
    have hC := check_any h4.ct 0
    clear hX hc3 hQ KX
    go_wp2_with fail
    clear g20 zg20 zq
    generalize w3.setCell ⟨ab, 20, none⟩ (.int .i64 (q : Int)) = w4 at *
    change Calls Tryz.prog 110 #[.pointer (some ⟨ab, 0, none⟩), .int .i64 0] _ _ at hC
    refine hC.mono ?_
    rintro e w5 ⟨rfl, hc5, k5⟩
    go_wp2_with fail
    go_end0
    exact ⟨rfl, _, Sam.tab c T _, h4.self k5 hc5, K4.tr (Fr.of_keeps k5 (fun _ _ e => .inl e)), fun k hk => (BK k hk).imp id (fun e => Nat.le_trans fr1.keeps.size (Nat.le_trans BS e))⟩
end
end Go.Proofs.YtgjndhbfjofkeaaGreatDoor

