import Derived.Test.YteomlhcllmlkpaaGreatDoorTxE
import Derived.Test.YteomlhcllmlkpaaGreatDoorTxF
namespace Go.Proofs.YteomlhcllmlkpaaGreatDoor
open Go.RowKit
attribute [local go_sem] Oper.semAt_some run_store_nf run_store_f
section
variable {w w' : World} {ρ ρ' ρ'' : Nat → Nat} {u j : Nat} {c : Sc} {ab rb n n' : Nat} {x x' : Tx} {f f' : Int → Option Nat} {s s' : Ws} {m m' : Mm} {r r' : Ro}
/-- The own cells are written, one by one. -/
theorem AX.set1 (h : AX w ρ u j c ab x n f s m) {o : Nat} (ho : o < 36) (v : Value) (hx : x'.cells c ab = (x.cells c ab).set o v) : AX (w.setCell ⟨ab, o, none⟩ v) ρ u j c ab x' n f s m :=
  h.self ((Keeps.refl _ w).setA _ _) (hx ▸ h.cl.set (o := o) ho v)
theorem AX.setR (h : AX w ρ u j c ab x n f s m) (hR : RX w ρ c ab rb r) (o : Nat) (v : Value) : AX (w.setCell ⟨rb, o, none⟩ v) ρ u j c ab x n f s m := h.far ((Keeps.refl _ w).setA _ _) hR.rr hR.n1 hR.n2
theorem RX.set1 (h : RX w ρ c ab rb r) {o : Nat} (ho : o < 26) (v : Value) (hx : r'.cells = r.cells.set o v) : RX (w.setCell ⟨rb, o, none⟩ v) ρ c ab rb r' := h.self (hx ▸ h.cl.set (o := o) ho v)
theorem RX.setA (h : RX w ρ c ab rb r) (o : Nat) (v : Value) : RX (w.setCell ⟨ab, o, none⟩ v) ρ c ab rb r := h.far ((Keeps.refl (fun k => k = ab) w).setA o v) h.n1.symm
theorem Fr.setA (h : Fr (OwnR c ab rb) u j w w' ρ ρ') (o : Nat) (v : Value) : Fr (OwnR c ab rb) u j w (w'.setCell ⟨ab, o, none⟩ v) ρ ρ' := h.tr (Fr.of_keeps ((Keeps.refl (fun k => k = ab) w').setA o v) (fun _ _ e => .inl e))
theorem Fr.setR (h : Fr (OwnR c ab rb) u j w w' ρ ρ') (o : Nat) (v : Value) : Fr (OwnR c ab rb) u j w (w'.setCell ⟨rb, o, none⟩ v) ρ ρ' := h.tr (Fr.of_keeps ((Keeps.refl (fun k => k = rb) w').setA o v) (fun _ _ e => .inr (.inr e)))
theorem Fr.kA {w'' : World} (h : Fr (OwnR c ab rb) u j w w' ρ ρ') (k : Keeps (fun k => k = ab) w' w'') : Fr (OwnR c ab rb) u j w w'' ρ ρ' := h.tr (Fr.of_keeps k (fun _ _ e => .inl e))
theorem Fr.kR {w'' : World} (h : Fr (OwnR c ab rb) u j w w' ρ ρ') (k : Keeps (fun k => k = rb) w' w'') : Fr (OwnR c ab rb) u j w w'' ρ ρ' := h.tr (Fr.of_keeps k (fun _ _ e => .inr (.inr e)))
theorem Fr.kN {A : Nat → Prop} {w'' : World} (h : Fr A u j w w' ρ ρ') (k : Keeps (fun _ => False) w' w'') : Fr A u j w w'' ρ ρ' := h.tr (Fr.of_keeps k (fun _ _ e => e.elim))
theorem Fr.ex {A : Nat → Prop} {w'' : World} (h : Fr A u j w w' ρ ρ') (k : Ext (Sr u j) w' w'' ρ' ρ'') : Fr A u j w w'' ρ ρ'' := h.tr (Fr.of_ext k)
set_option maxHeartbeats 400000 in
set_option maxRecDepth 1000000 in
theorem see_goes (hf : Wf s m) {l : Nat} (hl : x.loc = (l : Int)) (hi : l < s.locs.length) (hfr : m.free = true) (hlog : (m.log.length + 1) * 56 ≤ 140737488355328) (h2 : (ca m.cells (s.att (s.lo l).owner).status).2 = 2) (he : x.enemy = -1) (hfd : x.found = some 27) (hb : c.bare) (ho : I64 x.object) :
    Goes 78 u j c ab ρ x (({ x with holder := ((s.lo l).owner : Int), status := 2, current := ((s.lo l).new : Int) } : Tx).toAcq) n n f f s s m (m.load (s.att (s.lo l).owner).status) (({ ({ x.blank with kind := 6 } : Ro).at_ x with enemy := ((s.lo l).owner : Int) } : Ro).acc (m.load (s.att (s.lo l).owner).status).took) := by
  intro W rb hA hR
  have HL : Hid (x.loc = (l : Int)) := hl
  have HE : Hid (x.enemy = -1) := he
  have HF : Hid (x.found = some 27) := hfd
  clear hl he hfd
  have hfld : ∀ (a b d : Int) (w' : World), (Instr.field 112 (.agg #[.int .i64 a, .int .i64 b, .int .i64 d]) 0).run Tryz.prog w' = .ok (.int .i64 a) w' := fun _ _ _ _ => by kernel_rfl
  have hc := hR.cl
  have r5 := hc.c 5 _ rfl
  have zr5 := hc.z 5 (by show 5 < 26; decide)
  have hR1 : RX (W.setCell ⟨rb, 5, none⟩ (.int .i64 6)) ρ c ab rb { x.blank with kind := 6 } := hR.set1 (o := 5) (by decide) _ rfl
  have hA1 := hA.setR hR 5 (.int .i64 6)
  have fr1 := (Fr.refl (OwnR c ab rb) u j W ρ).setR 5 (.int .i64 6)
  clear hc
  go_enter Tryz.func78, Tryz.ntmps78
  go_wp2_with fail
  clear r5 zr5
  generalize W.setCell ⟨rb, 5, none⟩ (.int .i64 6) = W1 at *
  refine (at_any hA1.cl hR1.cl hR.n1).mono ?_
  rintro e W2 ⟨rfl, hc2, k2⟩
  have hA2 := (hA1.far k2 hR.rr hR.n1 hR.n2).new (Keeps.refl _ W2).drew
  have hR2 := (hR1.self hc2).new (Keeps.refl _ W2).drew
  have fr2 := (fr1.kR k2).kN (Keeps.refl _ W2).drew
  clear hA1 hR1 hc2 k2 fr1
  have hc := hA2.cl
  have f1 := hc.c 1 _ rfl
  have f26 := hc.c 26 _ rfl
  have hL := Locator_ok hA2.st hi
  rw [← HL.out] at hL
  clear hc
  go_wp2_with fail
  go_region_held3 (fun w' => w'.cell? ⟨ab, 1, none⟩ = some (.pointer (some ⟨c.wb, 0, none⟩)) ∧ w'.cell? ⟨ab, 26, none⟩ = some (.int .i64 x.loc)) (go_keep) (first | (go_at_call 48; refine hL.mono ?_; clear hL; rintro e W3 ⟨rfl, k3⟩; have hA3 := hA2.new k3; have hc3 := hA3.cl; have g1 := hc3.c 1 _ rfl; have g26 := hc3.c 26 _ rfl; clear hc3) | (go_at_call 47; refine (must_loc _ _ _ _).mono ?_; rintro e W4 ⟨rfl, k4⟩; have hA4 := hA3.new k4; have hc4 := hA4.cl; have g1' := hc4.c 1 _ rfl; have g26' := hc4.c 26 _ rfl; clear hc4))
  have hR4 := hR2.new (k3.trans k4)
  have fr4 := fr2.kN (k3.trans k4)
  clear hA2 hR2 fr2 k3 k4 hA3 g1 g26 f1 f26 g1' g26'
  have hq := hR4.cl
  have r9 := hq.c 9 _ rfl
  have zr9 := hq.z 9 (by show 9 < 26; decide)
  have hA5 := hA4.setR hR4 9 (.int .i64 ((s.lo l).owner : Int))
  have hR5 : RX _ ρ c ab rb { ({ x.blank with kind := 6 } : Ro).at_ x with enemy := ((s.lo l).owner : Int) } := hR4.set1 (o := 9) (by decide) (.int .i64 ((s.lo l).owner : Int)) rfl
  have fr5 := fr4.setR 9 (.int .i64 ((s.lo l).owner : Int))
  have hc := hA5.cl
  have f1 := hc.c 1 _ rfl
  have hS := Status_ok hA5.st hf (hf.lo l hi).2.2 hfr hlog
  rw [h2] at hS
  clear hq hc
  go_wp2_with fail
  clear r9 zr9 f1 hA4 hR4 fr4
  generalize W4.setCell ⟨rb, 9, none⟩ (.int .i64 ((s.lo l).owner : Int)) = W5 at *
  refine hS.mono ?_
  rintro e W6 ⟨rfl, ρ6, s6, x6⟩
  have hA6 := hA5.run s6 x6
  have hR6 := hR5.run (Sr.not0 hA5.st) x6
  have fr6 := fr5.ex x6
  clear hS hA5 hR5 fr5 s6 x6
  go_wp2_with fail
  refine (must_int _ _).mono ?_
  rintro e W7 ⟨rfl, rfl⟩
  have hT := atook hA6 hR6 (had_load m _) (by rw [log_load]; omega)
  go_wp2_with fail
  refine hT.mono ?_
  rintro e W8 ⟨rfl, hA8, hR8, k8⟩
  have fr8 := fr6.kR k8
  have hc := hA8.cl
  have f27 := hc.c 27 _ rfl
  have zf27 := hc.z 27 (by show 27 < 36; decide)
  have f28 := hc.c 28 _ rfl
  have zf28 := hc.z 28 (by show 28 < 36; decide)
  clear hT hA6 hR6 fr6 k8 hc
  have hA9 : AX ((W8.setCell ⟨ab, 27, none⟩ (.int .i64 ((s.lo l).owner : Int))).setCell ⟨ab, 28, none⟩ (.int .i64 2)) ρ6 u j c ab { x with holder := ((s.lo l).owner : Int), status := 2 } n f s (m.load (s.att (s.lo l).owner).status) := (hA8.set1 (x' := { x with holder := ((s.lo l).owner : Int) }) (o := 27) (by decide) _ rfl).set1 (o := 28) (by decide) _ rfl
  have hR9 := ((hR8.setA 27 (.int .i64 ((s.lo l).owner : Int))).setA 28 (.int .i64 2))
  have fr9 := ((fr8.setA 27 (.int .i64 ((s.lo l).owner : Int))).setA 28 (.int .i64 2))
  go_wp2_with fail
  clear hA8 hR8 fr8 f27 f28 zf27 zf28
  generalize (W8.setCell ⟨ab, 27, none⟩ (.int .i64 ((s.lo l).owner : Int))).setCell ⟨ab, 28, none⟩ (.int .i64 2) = W9 at *
  replace hA9 := hA9.new (Keeps.refl _ W9).drew
  replace hR9 := hR9.new (Keeps.refl _ W9).drew
  replace fr9 := fr9.kN (Keeps.refl _ W9).drew
  have hC := Current_2 hA9.st hi
  rw [← HL.out] at hC
  have hc := hA9.cl
  have f1 := hc.c 1 _ rfl
  have zf1 := hc.z 1 (by show 1 < 36; decide)
  have f26 := hc.c 26 _ rfl
  have zf26 := hc.z 26 (by show 26 < 36; decide)
  have f29 := hc.c 29 _ rfl
  have zf29 := hc.z 29 (by show 29 < 36; decide)
  have KZ : ∀ v : Value, (W9.setCell ⟨ab, 29, none⟩ v).drew.cell? ⟨ab, 1, none⟩ = some (.pointer (some ⟨c.wb, 0, none⟩)) ∧ (W9.setCell ⟨ab, 29, none⟩ v).drew.cell? ⟨ab, 26, none⟩ = some (.int .i64 x.loc) := fun v => ⟨(hc.set (o := 29) (by show 29 < 36; decide) v).c 1 _ rfl, (hc.set (o := 29) (by show 29 < 36; decide) v).c 26 _ rfl⟩
  clear hc
  go_region_held3 (fun w' => w'.cell? ⟨ab, 1, none⟩ = some (.pointer (some ⟨c.wb, 0, none⟩)) ∧ w'.cell? ⟨ab, 26, none⟩ = some (.int .i64 x.loc)) (first | go_keep | exact KZ _) (first | (go_at_call 94; refine hC.mono ?_; clear hC; rintro e W10 ⟨rfl, rfl⟩) | (go_at_call 75; refine (must_int _ _).mono ?_; rintro e W11 ⟨rfl, rfl⟩))
  have hA10 : AX (W9.setCell ⟨ab, 29, none⟩ (.int .i64 ((s.lo l).new : Int))).drew ρ6 u j c ab { x with holder := ((s.lo l).owner : Int), status := 2, current := ((s.lo l).new : Int) } n f s (m.load (s.att (s.lo l).owner).status) := hA9.set1 (o := 29) (by decide) _ rfl
  have hR10 : RX (W9.setCell ⟨ab, 29, none⟩ (.int .i64 ((s.lo l).new : Int))).drew ρ6 c ab rb _ := hR9.setA 29 (.int .i64 ((s.lo l).new : Int))
  have fr10 : Fr (OwnR c ab rb) u j W (W9.setCell ⟨ab, 29, none⟩ (.int .i64 ((s.lo l).new : Int))).drew ρ ρ6 := fr9.setA 29 (.int .i64 ((s.lo l).new : Int))
  have hX := seen_free hA10.cl HE.out HF.out (fun _ _ => rfl) (found_write hA10.cl hb ho rfl)
  clear KZ f1 f26 f29 zf1 zf26 zf29 hA9 hR9 fr9
  generalize (W9.setCell ⟨ab, 29, none⟩ (.int .i64 ((s.lo l).new : Int))).drew = W10 at *
  go_wp2_with fail
  refine hX.mono ?_
  rintro e W12 ⟨rfl, hc12, k12⟩
  go_wp2_with fail
  go_end0
  exact ⟨rfl, ρ6, hA10.self k12 hc12, hR10.far k12 hR.n1.symm, fr10.kA k12⟩
end
end Go.Proofs.YteomlhcllmlkpaaGreatDoor
