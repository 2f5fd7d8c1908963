import Derived.Test.YtgjndhbfjofkeaaGreatDoorG14
import Derived.Test.YtgjndhbfjofkeaaGreatDoorG06
import Derived.Laws.ResultCell
namespace Go.Proofs.YtgjndhbfjofkeaaGreatDoor
open Go.RowKit
attribute [local go_sem] Oper.semAt_some run_store_nf run_store_f
section
variable {w w' : World} {ρ ρ' ρ'' : Nat → Nat} {u j : Nat} {c : Sc} {ab rb n n' : Nat} {x x' : Tx} {f f' : Int → Option Nat} {s s' : Ws} {m m' : Mm} {r r' : Ro}
theorem AX.set1 (h : AX w ρ u j c ab x n f s m) {o : Nat} (ho : o < 36) (v : Value) (hx : x'.cells c ab = (x.cells c ab).set o v) : AX (w.setCell ⟨ab, o, none⟩ v) ρ u j c ab x' n f s m :=
  h.self ((Keeps.refl _ w).setA _ _) (hx ▸ h.cl.set (o := o) ho v)
theorem AX.setR (h : AX w ρ u j c ab x n f s m) (hR : RX w ρ c ab rb r) (o : Nat) (v : Value) : AX (w.setCell ⟨rb, o, none⟩ v) ρ u j c ab x n f s m := h.far ((Keeps.refl _ w).setA _ _) hR.rr hR.n1 hR.n2
theorem RX.set1 (h : RX w ρ c ab rb r) {o : Nat} (ho : o < 26) (v : Value) (hx : r'.cells = r.cells.set o v) : RX (w.setCell ⟨rb, o, none⟩ v) ρ c ab rb r' := h.self (hx ▸ h.cl.set (o := o) ho v)
theorem RX.setA (h : RX w ρ c ab rb r) (o : Nat) (v : Value) : RX (w.setCell ⟨ab, o, none⟩ v) ρ c ab rb r := h.far ((Keeps.refl (fun k => k = ab) w).setA o v) h.n1.symm
theorem Fr.setA (h : Fr (OwnR c ab rb) u j w w' ρ ρ') (o : Nat) (v : Value) : Fr (OwnR c ab rb) u j w (w'.setCell ⟨ab, o, none⟩ v) ρ ρ' := h.tr (Fr.of_keeps ((Keeps.refl (fun k => k = ab) w').setA o v) (fun _ _ e => .inl e))
theorem Fr.setR (h : Fr (OwnR c ab rb) u j w w' ρ ρ') (o : Nat) (v : Value) : Fr (OwnR c ab rb) u j w (w'.setCell ⟨rb, o, none⟩ v) ρ ρ' := h.tr (Fr.of_keeps ((Keeps.refl (fun k => k = rb) w').setA o v) (fun _ _ e => .inr (.inr e)))
theorem Fr.kA {w'' : World} (h : Fr (OwnR c ab rb) u j w w' ρ ρ') (k : Keeps (fun k => k = ab) w' w'') : Fr (OwnR c ab rb) u j w w'' ρ ρ' := h.tr (Fr.of_keeps k (fun _ _ e => .inl e))
theorem Fr.kR {w'' : World} (h : Fr (OwnR c ab rb) u j w w' ρ ρ') (k : Keeps (fun k => k = rb) w' w'') : Fr (OwnR c ab rb) u j w w'' ρ ρ' := h.tr (Fr.of_keeps k (fun _ _ e => .inr (.inr e)))
theorem Fr.kN {A : Nat → Prop} {w'' : World} (h : Fr A u j w w' ρ ρ') (k : Keeps (fun _ => False) w' w'') : Fr A u j w w'' ρ ρ' := h.tr (Fr.of_keeps k (fun _ _ e => e.elim))
theorem Fr.ex {A : Nat → Prop} {w'' : World} (h : Fr A u j w w' ρ ρ') (k : Ext (Sr u j) w' w'' ρ' ρ'') : Fr A u j w w'' ρ ρ'' := h.tr (Fr.of_ext k)
set_option maxHeartbeats 400000 in
set_option maxRecDepth 1000000 in
theorem live_ok (hA : AX w ρ u j c ab x n f s m) (hR : RX w ρ c ab rb r) (hf : Wf s m) (hno : x.no < s.atts.length) (hfr : m.free = true) (hlog : (m.log.length + 1) * 56 ≤ 140737488355328) (h1 : (ca m.cells (s.att x.no).status).2 = 1) :
    Calls Tryz.prog 148 #[.pointer (some ⟨ab, 0, none⟩), .pointer (some ⟨rb, 0, none⟩)] w fun e w' => e = .returned (.tuple #[]) ∧ ∃ ρ', AX w' ρ' u j c ab x n f s (m.load (s.att x.no).status) ∧ RX w' ρ' c ab rb (({ r with kind := 7 } : Ro).acc (m.load (s.att x.no).status).took) ∧ Fr (OwnR c ab rb) u j w w' ρ ρ' := by
  have hq := hR.cl
  have r5 := hq.c 5 _ rfl
  have zr5 := hq.z 5 (by show 5 < 26; decide)
  have hR1 : RX (w.setCell ⟨rb, 5, none⟩ (.int .i64 7)) ρ c ab rb { r with kind := 7 } := hR.set1 (o := 5) (by decide) _ rfl
  have hA1 := hA.setR hR 5 (.int .i64 7)
  have fr1 := (Fr.refl (OwnR c ab rb) u j w ρ).setR 5 (.int .i64 7)
  clear hq
  go_enter Tryz.func148, Tryz.ntmps148
  go_wp2_with fail
  clear r5 zr5
  generalize w.setCell ⟨rb, 5, none⟩ (.int .i64 7) = W1 at *
  replace hA1 := hA1.new (Keeps.refl _ W1).drew
  replace hR1 := hR1.new (Keeps.refl _ W1).drew
  replace fr1 := fr1.kN (Keeps.refl _ W1).drew
  have hS := Status_ok hA1.st hf hno hfr hlog
  rw [h1] at hS
  have hc := hA1.cl
  have f1 := hc.c 1 _ rfl
  have f7 := hc.c 7 _ rfl
  clear hc h1
  go_region_held3 (fun w' => w'.cell? ⟨ab, 1, none⟩ = some (.pointer (some ⟨c.wb, 0, none⟩)) ∧ w'.cell? ⟨ab, 7, none⟩ = some (.int .i64 (x.no : Int))) (go_keep) (first | (go_at_call 144; refine hS.mono ?_; clear hS; rintro e W3 ⟨rfl, ρ3, s3, x3⟩; have hA3 := hA1.run s3 x3; have hR3 := hR1.run (Sr.not0 hA1.st) x3; have fr3 := fr1.ex x3; have hc3 := hA3.cl; have g1 := hc3.c 1 _ rfl; have g7 := hc3.c 7 _ rfl) | (go_at_call 129; refine (must_int _ _).mono ?_; rintro e W4 ⟨rfl, rfl⟩))
  clear g1 g7 hc3 hA1 hR1 fr1 s3 x3 f1 f7
  have hT := atook hA3 hR3 (had_load m _) (by rw [log_load]; omega)
  go_wp2_with fail
  refine hT.mono ?_
  rintro e W8 ⟨rfl, hA8, hR8, k8⟩
  have fr8 := fr3.kR k8
  clear hT
  go_wp2_with fail
  go_end0
  exact ⟨rfl, ρ3, hA8, hR8, fr8⟩
set_option maxHeartbeats 400000 in
set_option maxRecDepth 1000000 in
theorem tell_ok (hA : AX w ρ u j c ab x n f s m) (hR : RX w ρ c ab rb r) {v : Nat} (hv : v < s.vals.length) (en : Int) :
    Calls Tryz.prog 107 #[.pointer (some ⟨ab, 0, none⟩), .pointer (some ⟨rb, 0, none⟩), .int .i64 (v : Int), .int .i64 en] w fun e w' => e = .returned (.tuple #[]) ∧ AX w' ρ u j c ab x.thru n f s m ∧ RX w' ρ c ab rb { r with entry := en, told := true, val := s.vl v } ∧ Fr (OwnR c ab rb) u j w w' ρ ρ := by
  have hq := hR.cl
  have r8 := hq.c 8 _ rfl
  have zr8 := hq.z 8 (by show 8 < 26; decide)
  have r17 := hq.c 17 _ rfl
  have zr17 := hq.z 17 (by show 17 < 26; decide)
  have hA1 := (hA.setR hR 8 (.int .i64 en)).setR (hR.set1 (r' := { r with entry := en }) (o := 8) (by decide) (.int .i64 en) rfl) 17 (.bool true)
  have hR1 : RX ((w.setCell ⟨rb, 8, none⟩ (.int .i64 en)).setCell ⟨rb, 17, none⟩ (.bool true)) ρ c ab rb { r with entry := en, told := true } := (hR.set1 (r' := { r with entry := en }) (o := 8) (by decide) _ rfl).set1 (o := 17) (by decide) _ rfl
  have fr1 := ((Fr.refl (OwnR c ab rb) u j w ρ).setR 8 (.int .i64 en)).setR 17 (.bool true)
  have hV := Version_ok hA1.st hv
  have hc := hA1.cl
  have f1 := hc.c 1 _ rfl
  have n1 := hR.n1
  have n1' := hR.n1.symm
  clear hq hc
  go_enter Tryz.func107, Tryz.ntmps107
  go_wp2_with fail
  clear r8 zr8 r17 zr17 f1
  generalize (w.setCell ⟨rb, 8, none⟩ (.int .i64 en)).setCell ⟨rb, 17, none⟩ (.bool true) = W1 at *
  refine hV.mono ?_
  rintro e W2 ⟨rfl, k2⟩
  clear hV
  go_wp2_with fail
  refine (must_val _ _).mono ?_
  rintro e W3 ⟨rfl, k3⟩
  have hA3 := hA1.new (k2.trans k3)
  have hR3 := hR1.new (k2.trans k3)
  have fr3 := fr1.kN (k2.trans k3)
  clear hA1 hR1 fr1 k2 k3
  obtain ⟨V, HV⟩ : ∃ V, Hid (s.vl v = V) := ⟨_, rfl⟩
  rw [HV.out]
  obtain ⟨va, vb, vd⟩ := V
  simp only [vv]
  have hq := hR3.cl
  have r18 := hq.c 18 _ rfl
  have zr18 := hq.z 18 (by show 18 < 26; decide)
  have r19 := hq.c 19 _ rfl
  have zr19 := hq.z 19 (by show 19 < 26; decide)
  have r20 := hq.c 20 _ rfl
  have zr20 := hq.z 20 (by show 20 < 26; decide)
  have hA4 := ((hA3.setR hR3 18 (.int .i64 va)).setR (hR3.set1 (r' := { r with entry := en, told := true, val := ⟨va, r.val.next, r.val.dead⟩ }) (o := 18) (by decide) (.int .i64 va) rfl) 19 (.int .i64 vb)).setR ((hR3.set1 (r' := { r with entry := en, told := true, val := ⟨va, r.val.next, r.val.dead⟩ }) (o := 18) (by decide) (.int .i64 va) rfl).set1 (r' := { r with entry := en, told := true, val := ⟨va, vb, r.val.dead⟩ }) (o := 19) (by decide) (.int .i64 vb) rfl) 20 (.bool vd)
  have hR4 : RX _ ρ c ab rb { r with entry := en, told := true, val := ⟨va, vb, vd⟩ } := ((hR3.set1 (r' := { r with entry := en, told := true, val := ⟨va, r.val.next, r.val.dead⟩ }) (o := 18) (by decide) (.int .i64 va) rfl).set1 (r' := { r with entry := en, told := true, val := ⟨va, vb, r.val.dead⟩ }) (o := 19) (by decide) (.int .i64 vb) rfl).set1 (o := 20) (by decide) (.bool vd) rfl
  have fr4 := ((fr3.setR 18 (.int .i64 va)).setR 19 (.int .i64 vb)).setR 20 (.bool vd)
  have hT := athrough hA4.cl
  clear hq
  go_wp2_with fail
  clear r18 zr18 r19 zr19 r20 zr20 hA3 hR3 fr3
  generalize ((W3.setCell ⟨rb, 18, none⟩ (.int .i64 va)).setCell ⟨rb, 19, none⟩ (.int .i64 vb)).setCell ⟨rb, 20, none⟩ (.bool vd) = W4 at *
  refine hT.mono ?_
  rintro e W5 ⟨rfl, hc5, k5⟩
  go_wp2_with fail
  go_end0
  refine ⟨rfl, hA4.self k5 hc5, ?_, fr4.kA k5⟩
  rw [HV.out]
  exact hR4.far k5 hR.n1.symm
def Tx.over (x : Tx) : Tx := ({ x with alive := false } : Tx).thru
set_option maxHeartbeats 400000 in
set_option maxRecDepth 1000000 in
theorem end_any (hA : AX w ρ u j c ab x n f s m) (hR : RX w ρ c ab rb r) (en : Int) :
    Calls Tryz.prog 141 #[.pointer (some ⟨ab, 0, none⟩), .pointer (some ⟨rb, 0, none⟩), .int .i64 en] w fun e w' => e = .returned (.tuple #[]) ∧ AX w' ρ u j c ab x.over n f s m ∧ RX w' ρ c ab rb { r with fin := en } ∧ Fr (OwnR c ab rb) u j w w' ρ ρ := by
  have hq := hR.cl
  have r25 := hq.c 25 _ rfl
  have zr25 := hq.z 25 (by show 25 < 26; decide)
  have hR1 : RX (w.setCell ⟨rb, 25, none⟩ (.int .i64 en)) ρ c ab rb { r with fin := en } := hR.set1 (o := 25) (by decide) _ rfl
  have hA1 := hA.setR hR 25 (.int .i64 en)
  have hc := hA1.cl
  have f9 := hc.c 9 _ rfl
  have zf9 := hc.z 9 (by show 9 < 36; decide)
  have hA2 : AX ((w.setCell ⟨rb, 25, none⟩ (.int .i64 en)).setCell ⟨ab, 9, none⟩ (.bool false)) ρ u j c ab { x with alive := false } n f s m := hA1.set1 (o := 9) (by decide) _ rfl
  have hR2 := hR1.setA 9 (.bool false)
  have fr2 := ((Fr.refl (OwnR c ab rb) u j w ρ).setR 25 (.int .i64 en)).setA 9 (.bool false)
  have hT := athrough hA2.cl
  clear hq hc
  go_enter Tryz.func141, Tryz.ntmps141
  go_wp2_with fail
  clear r25 zr25 f9 zf9 hA1 hR1
  generalize (w.setCell ⟨rb, 25, none⟩ (.int .i64 en)).setCell ⟨ab, 9, none⟩ (.bool false) = W2 at *
  refine hT.mono ?_
  rintro e W5 ⟨rfl, hc5, k5⟩
  go_wp2_with fail
  go_end0
  exact ⟨rfl, hA2.self k5 hc5, hR2.far k5 hR.n1.symm, fr2.kA k5⟩
set_option maxHeartbeats 400000 in
set_option maxRecDepth 1000000 in
theorem endAs_won (hA : AX w ρ u j c ab x n f s m) (hR : RX w ρ c ab rb r) (en : Int) :
    Calls Tryz.prog 120 #[.pointer (some ⟨ab, 0, none⟩), .pointer (some ⟨rb, 0, none⟩), .bool true, .int .i64 en] w fun e w' => e = .returned (.tuple #[]) ∧ AX w' ρ u j c ab x.over n f s m ∧ RX w' ρ c ab rb { r with fin := en } ∧ Fr (OwnR c ab rb) u j w w' ρ ρ := by
  have hE := end_any hA hR en
  go_enter Tryz.func120, Tryz.ntmps120
  go_wp2_with fail
  refine hE.mono ?_
  rintro e W1 ⟨rfl, hA1, hR1, fr1⟩
  go_wp2_with fail
  go_end0
  exact ⟨rfl, hA1, hR1, fr1⟩
set_option maxHeartbeats 400000 in
set_option maxRecDepth 1000000 in
theorem commit_goes (hI : Inv s m) (hno1 : 1 ≤ x.no) (hno : x.no < s.atts.length) (hfr : m.free = true) (hlog : (m.log.length + 1) * 56 ≤ 140737488355328) (h1 : (ca m.cells (s.att x.no).status).2 = 1) :
    Goes 93 u j c ab ρ x x.over n n f f s s m (m.swap (s.att x.no).status 1 2) { (({ x.blank with kind := 15 } : Ro).acc (m.swap (s.att x.no).status 1 2).took) with fin := 1 } := by
  intro W rb hA hR
  have hq := hR.cl
  have r5 := hq.c 5 _ rfl
  have zr5 := hq.z 5 (by show 5 < 26; decide)
  have hR1 : RX (W.setCell ⟨rb, 5, none⟩ (.int .i64 15)) ρ c ab rb { x.blank with kind := 15 } := hR.set1 (o := 5) (by decide) _ rfl
  have hA1 := hA.setR hR 5 (.int .i64 15)
  have fr1 := (Fr.refl (OwnR c ab rb) u j W ρ).setR 5 (.int .i64 15)
  clear hq
  go_enter Tryz.func93, Tryz.ntmps93
  go_wp2_with fail
  clear r5 zr5
  generalize W.setCell ⟨rb, 5, none⟩ (.int .i64 15) = W1 at *
  replace hA1 := hA1.new (Keeps.refl _ W1).drew
  replace hR1 := hR1.new (Keeps.refl _ W1).drew
  replace fr1 := fr1.kN (Keeps.refl _ W1).drew
  have hS := Commit_ok hA1.st hI.wf hno1 hno hfr hlog
  rw [show decide ((ca m.cells (s.att x.no).status).2 = 1) = true from decide_eq_true h1] at hS
  have hc := hA1.cl
  have f1 := hc.c 1 _ rfl
  have f7 := hc.c 7 _ rfl
  clear hc h1
  go_region_held3 (fun w' => w'.cell? ⟨ab, 1, none⟩ = some (.pointer (some ⟨c.wb, 0, none⟩)) ∧ w'.cell? ⟨ab, 7, none⟩ = some (.int .i64 (x.no : Int))) (go_keep) (first | (go_at_call 118; refine hS.mono ?_; clear hS; rintro e W3 ⟨rfl, ρ3, s3, x3⟩; have hA3 := hA1.run s3 x3; have hR3 := hR1.run (Sr.not0 hA1.st) x3; have fr3 := fr1.ex x3; have hc3 := hA3.cl; have g1 := hc3.c 1 _ rfl; have g7 := hc3.c 7 _ rfl) | (go_at_call 117; refine (must_bool _ _).mono ?_; rintro e W4 ⟨rfl, rfl⟩))
  clear g1 g7 hc3 hA1 hR1 fr1 s3 x3 f1 f7
  have hT := atook hA3 hR3 (had_swap m _ _ _) (by rw [log_swap]; omega)
  go_wp2_with fail
  refine hT.mono ?_
  rintro e W8 ⟨rfl, hA8, hR8, k8⟩
  have fr8 := fr3.kR k8
  have hE := endAs_won hA8 hR8 1
  clear hT
  go_wp2_with fail
  refine hE.mono ?_
  rintro e W9 ⟨rfl, hA9, hR9, fr9⟩
  clear hE
  go_wp2_with fail
  go_end0
  exact ⟨rfl, ρ3, hA9, hR9, fr8.tr fr9⟩
end
end Go.Proofs.YtgjndhbfjofkeaaGreatDoor

namespace Go.Proofs.YtgjndhbfjofkeaaGreatDoor
open Go.RowKit
attribute [local go_sem] Oper.semAt_some run_store_nf run_store_f
section
variable {w w' : World} {ρ ρ' ρ'' : Nat → Nat} {u j : Nat} {c : Sc} {ab rb n n' : Nat} {x x' : Tx} {f f' : Int → Option Nat} {s s' : Ws} {m m' : Mm} {r r' : Ro}
def Tx.stale (x : Tx) : Tx := { x with why := 4, nx := some 114 }
set_option maxHeartbeats 400000 in
set_option maxRecDepth 1000000 in
theorem fail_stale (hA : AX w ρ u j c ab x n f s m) (hR : RX w ρ c ab rb r) :
    Calls Tryz.prog 121 #[.pointer (some ⟨ab, 0, none⟩), .pointer (some ⟨rb, 0, none⟩), .int .i64 4] w fun e w' => e = .returned (.tuple #[]) ∧ AX w' ρ u j c ab x.stale n f s m ∧ RX w' ρ c ab rb r ∧ Fr (OwnR c ab rb) u j w w' ρ ρ := by
  have hmf : ∀ (fn : Fn) (first cap : Array Value) (w : World), (Instr.makeFunc fn first cap).run Tryz.prog w = .ok (.func fn first cap) w := fun _ _ _ _ => rfl
  have hc := hA.cl
  have f15 := hc.c 15 _ rfl
  have zf15 := hc.z 15 (by show 15 < 36; decide)
  have f21 := hc.c 21 _ rfl
  have zf21 := hc.z 21 (by show 21 < 36; decide)
  clear hc
  go_enter Tryz.func121, Tryz.ntmps121
  go_wp2_with fail
  (try simp only [Exit.then])
  refine bodyPost_ret (results_none rfl _ _ _) rfl ?_
  exact ⟨rfl, (hA.set1 (x' := { x with why := 4 }) (o := 21) (by decide) _ rfl).set1 (o := 15) (by decide) _ rfl, (hR.setA 21 _).setA 15 _, ((Fr.refl (OwnR c ab rb) u j w ρ).setA 21 _).setA 15 _⟩
set_option maxHeartbeats 400000 in
set_option maxRecDepth 1000000 in
theorem fail_killed (hA : AX w ρ u j c ab x n f s m) (hR : RX w ρ c ab rb r) :
    Calls Tryz.prog 121 #[.pointer (some ⟨ab, 0, none⟩), .pointer (some ⟨rb, 0, none⟩), .int .i64 5] w fun e w' => e = .returned (.tuple #[]) ∧ AX w' ρ u j c ab x.over n f s m ∧ RX w' ρ c ab rb { r with fin := 5 } ∧ Fr (OwnR c ab rb) u j w w' ρ ρ := by
  have hE := end_any hA hR 5
  go_enter Tryz.func121, Tryz.ntmps121
  go_wp2_with fail
  refine hE.mono ?_
  rintro e W1 ⟨rfl, hA1, hR1, fr1⟩
  go_wp2_with fail
  go_end0
  exact ⟨rfl, hA1, hR1, fr1⟩
structure Fails (k : Int) (x x' : Tx) (r r' : Ro) : Prop where
  go : (k = 4 ∧ x' = x.stale ∧ r' = r) ∨ (k = 5 ∧ x' = x.over ∧ r' = { r with fin := 5 })
theorem fail_any {k : Int} (hF : Fails k x x' r r') (hA : AX w ρ u j c ab x n f s m) (hR : RX w ρ c ab rb r) :
    Calls Tryz.prog 121 #[.pointer (some ⟨ab, 0, none⟩), .pointer (some ⟨rb, 0, none⟩), .int .i64 k] w fun e w' => e = .returned (.tuple #[]) ∧ AX w' ρ u j c ab x' n f s m ∧ RX w' ρ c ab rb r' ∧ Fr (OwnR c ab rb) u j w w' ρ ρ := by
  rcases hF.go with ⟨rfl, rfl, rfl⟩ | ⟨rfl, rfl, rfl⟩
  · exact fail_stale hA hR
  · exact fail_killed hA hR
set_option maxHeartbeats 400000 in
set_option maxRecDepth 1000000 in
theorem caught_fail {k : Int} (hF : Fails k x x' r r') (hA : AX w ρ u j c ab x n f s m) :
    Calls Tryz.prog 98 #[.pointer (some ⟨ab, 0, none⟩), .agg r.cells.toArray, .iface 210 (.int .i64 k)] w fun e w' => e = .returned (.tuple #[.agg r'.cells.toArray, .int .i64 0]) ∧ AX w' ρ u j c ab x' n f s m ∧ Fr (Own c ab) u j w w' ρ ρ := by
  have ht1 : ∀ w : World, (Instr.typeAssert (.iface 210 (.int .i64 k)) 20 209 true).run Tryz.prog w = .ok (.tuple #[.int .i64 0, .bool false]) w := fun _ => rfl
  have ht2 : ∀ w : World, (Instr.typeAssert (.iface 210 (.int .i64 k)) 20 210 true).run Tryz.prog w = .ok (.tuple #[.int .i64 k, .bool true]) w := fun _ => rfl
  obtain ⟨w0, hw0⟩ : ∃ w0, w0 = (w.alloc (.cells r.cells.toArray 36)).alloc (.cells #[.int .i64 0, .int .i64 0, .int .i64 0, .int .i64 0, .int .i64 0, .int .i64 0, .int .i64 0, .int .i64 0, .int .i64 0, .int .i64 0, .int .i64 0, .int .i64 0, .int .i64 0, .bool false, .bool false, .bool false, .int .i64 0, .bool false, .int .i64 0, .int .i64 0, .bool false, .bool false, .int .i64 0, .int .i64 0, .bool false, .int .i64 0] 36) := ⟨_, rfl⟩
  have k0 : Keeps (fun _ => False) w w0 := by rw [hw0]; exact ((Keeps.refl _ w).alloc _).alloc _
  have h0 := hA.new k0
  have hb : CL w0 w.heap.size r.cells := by rw [hw0]; exact (CL.made w r.cells _).alloc (by show 0 < 26; decide) _
  have hd : CL w0 (w.heap.size + 1) Ro.zero.cells := by
    rw [hw0]
    refine cast ?_ (CL.made (w.alloc (.cells r.cells.toArray 36)) Ro.zero.cells 36)
    congr 1
    simp
  go_enter Tryz.func98, Tryz.ntmps98
  go_wp2_with fail
  rw [← hw0]
  clear hw0
  have hz : ρ w.heap.size = 0 := hA.st.bnd _ (Nat.le_refl _)
  have hz1 : ρ (w.heap.size + 1) = 0 := hA.st.bnd _ (by omega)
  have la := hA.alt
  have lo : ∀ k, c.Q k → k < w.heap.size := fun k hk => hA.qlt hk
  have S0 : ¬ Sr u j 0 := Sr.not0 hA.st
  have hR0 : RX w0 ρ c ab w.heap.size r := ⟨hb, hz, by omega, fun e => by have := lo _ e; omega⟩
  refine (fail_any hF h0 hR0).mono ?_
  rintro e w1 ⟨rfl, hA1, hR1, fr1⟩
  have hd1 := hd.keep (by show 0 < 26; decide) fr1.keeps (fun e => e.elim (fun e => S0 (by rw [hz1] at e; exact e)) (fun e => e.elim (fun e => by omega) (fun e => e.elim (fun e => by have := lo _ e; omega) (fun e => by omega))))
  have hr1 := run_row hR1.cl
  go_wp2_with (first | (refine wpList_load_run rfl 36 _ rfl ⟨w.heap.size, 0, none⟩ rfl _ hr1 ?_; clear hr1) | (refine wpList_store_cl rfl 36 _ _ rfl (w.heap.size + 1) 0 26 _ rfl rfl rfl hd1 (by show 26 ≤ 26; decide) i46 (all_oneCell_toArray (by simp [Ro.cells, Value.oneCell'])) ?_; intro w2 hd2 k2 hsz; clear hsz))
  (try simp only [Exit.inBlock, Exit.then])
  have hr2 := run_row (r := r') hd2
  refine bodyPost_ret (v := .tuple #[.agg r'.cells.toArray, .int .i64 0]) ?_ rfl ⟨rfl, hA1.far k2 hz1 (by omega) (fun e => by have := lo _ e; omega), ?_⟩
  · rw [results_cell_tmp rfl]
    simp [asAddr, hr2, Result.andThen]
  · exact ((Fr.of_keeps (A := fun _ => False) k0 (fun _ _ e => e)).trans fr1 (fun _ _ e => e.elim) (C := Own c ab) (fun i hi e => e.elim (fun e => .inl e) (fun e => e.elim (fun e => .inr e) (fun e => by omega)))).trans (Fr.of_keeps (A := fun k => k = w.heap.size + 1) k2 (fun _ _ e => e)) (fun _ _ e => e) (fun i hi e => by omega)
set_option maxHeartbeats 400000 in
set_option maxRecDepth 1000000 in
theorem catch_fail {k : Int} {A E : Nat} (older : List PanicEntry) (hF : Fails k x x' r r') (hA : AX w ρ u j c ab x n f s m) (hR : RX w ρ c ab rb r) (ca : CL w A [.pointer (some ⟨ab, 0, none⟩)]) (ce : CL w E [.int .i64 0]) (rE : ρ E = 0 ∧ E ≠ ab ∧ ¬ c.Q E ∧ E ≠ rb) :
    CallsD Tryz.prog 97 #[.pointer (some ⟨A, 0, none⟩), .pointer (some ⟨rb, 0, none⟩), .pointer (some ⟨E, 0, none⟩)] (.panicking ({ v := .iface 210 (.int .i64 k), recovered := false } :: older)) w fun e u' w' =>
      e = .returned (.tuple #[]) ∧ u' = .panicking ({ v := .iface 210 (.int .i64 k), recovered := true } :: older) ∧ AX w' ρ u j c ab x' n f s m ∧ CL w' rb r'.cells ∧ CL w' E [.int .i64 0] ∧ Fr (fun q => OwnR c ab rb q ∨ q = E) u j w w' ρ ρ := by
  have a0 := ca.c 0 _ rfl
  have hr := run_row hR.cl
  refine callsD_of_wpS Tryz.func97 rfl fun c₀ cs hu => ?_
  apply wpS_seq
  apply wpS_region
  simp [wpOpsS, go_sem, recoverD, hu, Tryz.ntmps97, Exit.thenS]
  apply wpS_seq
  apply wpS_region
  simp [wpOpsS, go_sem, Exit.thenS]
  refine wpS_cond (t := true) (by simp [Act.eval, Array.replicate]) ?_
  simp only [if_true]
  refine wpS_of_wp ?_
  change Code.wp _ _ _ { tmps := #[.pointer (some ⟨A, 0, none⟩), .pointer (some ⟨rb, 0, none⟩), .pointer (some ⟨E, 0, none⟩), .iface 210 (.int .i64 k), .iface 210 (.int .i64 k), .iface 210 (.int .i64 k), .bool true, undef, undef, undef, undef, undef, undef, undef], defers := [] } w
  have hK := caught_fail hF hA
  go_wp2_with (refine wpList_load_run rfl 36 _ rfl ⟨rb, 0, none⟩ rfl _ hr ?_; clear hr)
  refine hK.mono ?_
  rintro e w1 ⟨rfl, hA1, fr1⟩
  have S0 : ¬ Sr u j 0 := Sr.not0 hA.st
  have hR1 := hR.cl.keep (by show 0 < 26; decide) fr1.keeps (fun e => e.elim (fun e => S0 (by rw [hR.rr] at e; exact e)) (fun e => e.elim (fun e => hR.n1 e) (fun e => hR.n2 e)))
  have ce1 := ce.keep (by show 0 < 1; decide) fr1.keeps (fun e => e.elim (fun e => S0 (by rw [rE.1] at e; exact e)) (fun e => e.elim (fun e => rE.2.1 e) (fun e => rE.2.2.1 e)))
  clear hK a0
  go_wp2_with (refine wpList_store_cl rfl 36 _ _ rfl rb 0 26 _ rfl rfl rfl hR1 (by show 26 ≤ 26; decide) i46 (all_oneCell_toArray (by simp [Ro.cells, Value.oneCell'])) ?_; intro w2 hd2 k2 hsz; clear hsz; have ce2 := ce1.keep (by show 0 < 1; decide) k2 rE.2.2.2; have e0 := ce2.c 0 _ rfl; have z0 := ce2.z 0 (by show 0 < 1; decide))
  have ce3 := ce2.set (o := 0) (by show 0 < 1; decide) (.int .i64 0)
  have hd3 := hd2.other (p := ⟨E, 0, none⟩) rE.2.2.2 (.int .i64 0)
  have k3 : Keeps (fun q => q = rb ∨ q = E) w1 (w2.setCell ⟨E, 0, none⟩ (.int .i64 0)) := (k2.mono (fun _ _ e => .inl e)).setCell (fun _ => .inr rfl) _
  have hA3 := (hA1.far k2 hR.rr hR.n1 hR.n2).far ((Keeps.refl (fun k => k = E) w2).setA 0 (.int .i64 0)) rE.1 rE.2.1 rE.2.2.1
  have fr3 : Fr (fun q => OwnR c ab rb q ∨ q = E) u j w (w2.setCell ⟨E, 0, none⟩ (.int .i64 0)) ρ ρ := fr1.trans (Fr.of_keeps (A := fun q => q = rb ∨ q = E) k3 (fun _ _ e => e)) (fun i _ e => .inl (e.elim (fun e => .inl e) (fun e => .inr (.inl e)))) (fun i _ e => e.elim (fun e => .inl (.inr (.inr e))) (fun e => .inr e))
  simp [bodyPostS, results, Tryz.results97]
  exact ⟨hA3, hd3, ce3, fr3⟩
def FailsK (w : World) (k : Nat) (kk : Int) (u j : Nat) (c : Sc) (ab : Nat) (ρ : Nat → Nat) (x x' : Tx) (n n' : Nat) (f f' : Int → Option Nat) (s s' : Ws) (m m' : Mm) (r' : Ro) : Prop :=
  ∀ W rb, w.heap.size ≤ rb → Keeps (fun _ => False) w W → AX W ρ u j c ab x n f s m → RX W ρ c ab rb x.blank → Calls Tryz.prog k #[.pointer (some ⟨ab, 0, none⟩), .pointer (some ⟨rb, 0, none⟩)] W fun e W' =>
    e = .panicked [{ v := .iface 210 (.int .i64 kk), recovered := false }] ∧ ∃ ρ', AX W' ρ' u j c ab x' n' f' s' m' ∧ RX W' ρ' c ab rb r' ∧ Fr (OwnR c ab rb) u j W W' ρ ρ'
set_option maxHeartbeats 800000 in
set_option maxRecDepth 1000000 in
theorem step_fails (h : AX w ρ u j c ab x n f s m) (ha : x.alive = true) {k : Nat} (hn : x.nx = some k) (hcf : ∀ (args : Array Value) (w : World), (callFunc k args).run Tryz.prog w = .ok (.enter k args) w) {kk : Int} {x1 : Tx} {r1 : Ro} (hF : Fails kk x1 x' r1 r') (hg : FailsK w k kk u j c ab ρ x x1 n n' f f' s s' m m' r1) :
    Calls Tryz.prog 77 #[.pointer (some ⟨ab, 0, none⟩)] w fun e w' => e = .returned (.tuple #[.agg r'.cells.toArray, .int .i64 0]) ∧ ∃ ρ', AX w' ρ' u j c ab x' n' f' s' m' ∧ Fr (Own c ab) u j w w' ρ ρ' := by
  have hmf : ∀ (fn : Fn) (first cap : Array Value) (w : World), (Instr.makeFunc fn first cap).run Tryz.prog w = .ok (.func fn first cap) w := fun _ _ _ _ => rfl
  obtain ⟨w0, hw0⟩ : ∃ w0, w0 = ((w.alloc (.cells #[.pointer (some ⟨ab, 0, none⟩)] 86)).alloc (.cells #[.int .i64 0, .int .i64 0, .int .i64 0, .int .i64 0, .int .i64 0, .int .i64 0, .int .i64 0, .int .i64 0, .int .i64 0, .int .i64 0, .int .i64 0, .int .i64 0, .int .i64 0, .bool false, .bool false, .bool false, .int .i64 0, .bool false, .int .i64 0, .int .i64 0, .bool false, .bool false, .int .i64 0, .int .i64 0, .bool false, .int .i64 0] 36)).alloc (.cells #[.int .i64 0] 52) := ⟨_, rfl⟩
  have k0 : Keeps (fun _ => False) w w0 := by rw [hw0]; exact (((Keeps.refl _ w).alloc _).alloc _).alloc _
  have h0 := h.new k0
  have hb : CL w0 (w.heap.size + 1) Ro.zero.cells := by
    rw [hw0]
    have := CL.made (w.alloc (.cells #[.pointer (some ⟨ab, 0, none⟩)] 86)) Ro.zero.cells 36
    rw [show (w.alloc (.cells #[.pointer (some ⟨ab, 0, none⟩)] 86)).heap.size = w.heap.size + 1 by simp] at this
    exact this.alloc (by show 0 < 26; decide) _
  have ca : CL w0 w.heap.size [.pointer (some ⟨ab, 0, none⟩)] := by
    rw [hw0]
    exact ((CL.made w [.pointer (some ⟨ab, 0, none⟩)] 86).alloc (by show 0 < 1; decide) _).alloc (by show 0 < 1; decide) _
  have ce : CL w0 (w.heap.size + 1 + 1) [.int .i64 0] := by
    rw [hw0]
    refine cast ?_ (CL.made ((w.alloc (.cells #[.pointer (some ⟨ab, 0, none⟩)] 86)).alloc (.cells #[.int .i64 0, .int .i64 0, .int .i64 0, .int .i64 0, .int .i64 0, .int .i64 0, .int .i64 0, .int .i64 0, .int .i64 0, .int .i64 0, .int .i64 0, .int .i64 0, .int .i64 0, .bool false, .bool false, .bool false, .int .i64 0, .bool false, .int .i64 0, .int .i64 0, .bool false, .bool false, .int .i64 0, .int .i64 0, .bool false, .int .i64 0] 36)) [.int .i64 0] 52)
    congr 1
    simp
  have a0 := ca.c 0 _ rfl
  have hs := state_busy h0.cl ha hn
  have nb : ¬ w.heap.size = w.heap.size + 1 := by omega
  have nb2 : ¬ w.heap.size + 1 + 1 = w.heap.size + 1 := by omega
  have hz : ρ (w.heap.size + 1) = 0 := h.st.bnd _ (by omega)
  have na : w.heap.size + 1 ≠ ab := by have := h.alt; omega
  have no : ¬ c.Q (w.heap.size + 1) := fun e => by have := h.qlt e; omega
  go_enter_defers Tryz.func77, Tryz.ntmps77
  go_wp2_with fail
  rw [← hw0]
  clear hw0
  refine hs.mono ?_
  clear hs
  rintro e w1 ⟨rfl, rfl⟩
  go_wp2_with fail
  refine (blank_any h0.cl).mono ?_
  rintro e w2 ⟨rfl, k2⟩
  have h2 := h0.new k2
  have hb2 := hb.keep (by show 0 < 26; decide) k2 (fun e => e)
  have ca2 := ca.keep (by show 0 < 1; decide) k2 (fun e => e)
  have ce2 := ce.keep (by show 0 < 1; decide) k2 (fun e => e)
  have K2 := k0.trans k2
  clear a0 h0 hb ca ce k2 k0
  go_wp2_with (refine wpList_store_cl rfl 36 _ _ rfl (w.heap.size + 1) 0 26 _ rfl rfl rfl hb2 (by show 26 ≤ 26; decide) i46 (all_oneCell_toArray (by simp [Ro.cells, Value.oneCell'])) ?_; intro w3 hb3 k3 _; have h3 := h2.far k3 hz na no; have r3 : RX w3 ρ c ab (w.heap.size + 1) x.blank := ⟨hb3, hz, na, no⟩; have ca3 := ca2.keep (by show 0 < 1; decide) k3 nb; have ce3 := ce2.keep (by show 0 < 1; decide) k3 nb2; have a3 := ca3.c 0 _ rfl; have hc3 := h3.cl; have f15 := hc3.c 15 _ rfl; rw [hn] at f15; simp only [fnv] at f15; clear hc3)
  refine (hg _ _ (by omega) (K2.trans' k3 (fun _ _ e => e) (fun i hi e => by omega)) h3 r3).mono ?_
  rintro e w4 ⟨rfl, ρ', h4, r4, fr4⟩
  have ls : w.heap.size < w3.heap.size := ca3.lt (by show 0 < 1; decide)
  have le : w.heap.size + 1 + 1 < w3.heap.size := ce3.lt (by show 0 < 1; decide)
  have la := h.alt
  have lo : ∀ k, c.Q k → k < w.heap.size := fun k hk => h.qlt hk
  have S0 : ¬ Sr u j 0 := Sr.not0 h.st
  have far : ∀ q, w.heap.size ≤ q → q ≠ w.heap.size + 1 → ¬ (Sr u j (ρ q) ∨ OwnR c ab (w.heap.size + 1) q) := fun q hq hq2 e => e.elim (fun e => S0 (by rw [h.st.bnd _ hq] at e; exact e)) (fun e => e.elim (fun e => by omega) (fun e => e.elim (fun e => by have := lo _ e; omega) (fun e => by omega)))
  have ca4 := ca3.keep (by show 0 < 1; decide) fr4.keeps (far _ (Nat.le_refl _) nb)
  have ce4 := ce3.keep (by show 0 < 1; decide) fr4.keeps (far _ (by omega) nb2)
  have f3 : Fr (fun _ => False) u j w w3 ρ ρ := Fr.of_keeps (B := fun _ => False) (K2.trans' k3 (fun _ _ e => e) (fun i hi e => by omega)) (fun _ _ e => e)
  have f4 : Fr (Own c ab) u j w w4 ρ ρ' := f3.trans fr4 (fun _ _ e => e.elim) (fun i hi e => e.elim (fun e => .inl e) (fun e => e.elim (fun e => .inr e) (fun e => by omega)))
  show bodyPostD Tryz.prog Tryz.f77 _ (Exit.panic _) _ w4
  refine leaves_cons (f := 97) (args := #[.pointer (some ⟨w.heap.size, 0, none⟩), .pointer (some ⟨w.heap.size + 1, 0, none⟩), .pointer (some ⟨w.heap.size + 1 + 1, 0, none⟩)]) (by simp) (by simp [go_sem]) ?_
  refine (catch_fail [] hF h4 r4 ca4 ce4 ⟨(fr4.old _ le).trans (h.st.bnd _ (by omega)), by omega, fun e => by have := lo _ e; omega, nb2⟩).mono ?_
  rintro e u' w6 ⟨rfl, rfl, hA6, hb6, ce6, fr6⟩
  have f6 : Fr (Own c ab) u j w w6 ρ ρ' := f4.trans fr6 (fun _ _ e => e) (fun i hi e => e.elim (fun e => e.elim (fun e => .inl e) (fun e => e.elim (fun e => .inr e) (fun e => by omega))) (fun e => by omega))
  have hr6 := run_row (r := r') hb6
  have e6 := ce6.c 0 _ rfl
  refine ⟨.tuple #[.agg r'.cells.toArray, .int .i64 0], ?_, rfl, ρ', hA6, f6⟩
  refine results_cell2x Tryz.results77 _ _ _ (a := ⟨w.heap.size + 1, 0, none⟩) (b := ⟨w.heap.size + 1 + 1, 0, none⟩) rfl rfl hr6 ?_
  go_simp
end
end Go.Proofs.YtgjndhbfjofkeaaGreatDoor

namespace Go.Proofs.YtgjndhbfjofkeaaGreatDoor
open Go.RowKit
attribute [local go_sem] Oper.semAt_some run_store_nf run_store_f
section
variable {w w' : World} {ρ ρ' ρ'' : Nat → Nat} {u j : Nat} {c : Sc} {ab rb n n' : Nat} {x x' : Tx} {f f' : Int → Option Nat} {s s' : Ws} {m m' : Mm} {r r' : Ro}
set_option maxHeartbeats 400000 in
set_option maxRecDepth 1000000 in
theorem live_killed (hA : AX w ρ u j c ab x n f s m) (hR : RX w ρ c ab rb r) (hf : Wf s m) (hno : x.no < s.atts.length) (hfr : m.free = true) (hlog : (m.log.length + 1) * 56 ≤ 140737488355328) {sv : Int} (h1 : (ca m.cells (s.att x.no).status).2 = sv) (hsv : (sv != 1) = true) :
    Calls Tryz.prog 148 #[.pointer (some ⟨ab, 0, none⟩), .pointer (some ⟨rb, 0, none⟩)] w fun e w' => e = .panicked [{ v := .iface 210 (.int .i64 5), recovered := false }] ∧ ∃ ρ', AX w' ρ' u j c ab x n f s (m.load (s.att x.no).status) ∧ RX w' ρ' c ab rb (({ r with kind := 7 } : Ro).acc (m.load (s.att x.no).status).took) ∧ Fr (OwnR c ab rb) u j w w' ρ ρ' := by
  have hq := hR.cl
  have r5 := hq.c 5 _ rfl
  have zr5 := hq.z 5 (by show 5 < 26; decide)
  have hR1 : RX (w.setCell ⟨rb, 5, none⟩ (.int .i64 7)) ρ c ab rb { r with kind := 7 } := hR.set1 (o := 5) (by decide) _ rfl
  have hA1 := hA.setR hR 5 (.int .i64 7)
  have fr1 := (Fr.refl (OwnR c ab rb) u j w ρ).setR 5 (.int .i64 7)
  clear hq
  go_enter Tryz.func148, Tryz.ntmps148
  go_wp2_with fail
  clear r5 zr5
  generalize w.setCell ⟨rb, 5, none⟩ (.int .i64 7) = W1 at *
  replace hA1 := hA1.new (Keeps.refl _ W1).drew
  replace hR1 := hR1.new (Keeps.refl _ W1).drew
  replace fr1 := fr1.kN (Keeps.refl _ W1).drew
  have hS := Status_ok hA1.st hf hno hfr hlog
  rw [h1] at hS
  have hc := hA1.cl
  have f1 := hc.c 1 _ rfl
  have f7 := hc.c 7 _ rfl
  clear hc h1
  go_region_held3 (fun w' => w'.cell? ⟨ab, 1, none⟩ = some (.pointer (some ⟨c.wb, 0, none⟩)) ∧ w'.cell? ⟨ab, 7, none⟩ = some (.int .i64 (x.no : Int))) (go_keep) (first | (go_at_call 144; refine hS.mono ?_; clear hS; rintro e W3 ⟨rfl, ρ3, s3, x3⟩; have hA3 := hA1.run s3 x3; have hR3 := hR1.run (Sr.not0 hA1.st) x3; have fr3 := fr1.ex x3; have hc3 := hA3.cl; have g1 := hc3.c 1 _ rfl; have g7 := hc3.c 7 _ rfl) | (go_at_call 129; refine (must_int _ _).mono ?_; rintro e W4 ⟨rfl, rfl⟩))
  clear g1 g7 hc3 hA1 hR1 fr1 s3 x3 f1 f7
  have hT := atook hA3 hR3 (had_load m _) (by rw [log_load]; omega)
  go_wp2_with fail
  refine hT.mono ?_
  rintro e W8 ⟨rfl, hA8, hR8, k8⟩
  have fr8 := fr3.kR k8
  have hpn : ∀ (t : TypeId) (v : Value) (w : World), (Instr.panic (.iface t v)).run Tryz.prog w = .halt (.panic (.iface t v)) w := fun _ _ _ => rfl
  clear hT
  go_wp2_with fail
  exact ⟨rfl, rfl, ρ3, hA8, hR8, fr8⟩
def Ro.vs (r : Ro) (x : Tx) : Ro := { r.at_ x with enemy := x.enemy }
set_option maxHeartbeats 400000 in
set_option maxRecDepth 1000000 in
theorem against_any (hA : AX w ρ u j c ab x n f s m) (hR : RX w ρ c ab rb r) :
    Calls Tryz.prog 147 #[.pointer (some ⟨ab, 0, none⟩), .pointer (some ⟨rb, 0, none⟩)] w fun e w' => e = .returned (.tuple #[]) ∧ AX w' ρ u j c ab x n f s m ∧ RX w' ρ c ab rb (r.vs x) ∧ Fr (OwnR c ab rb) u j w w' ρ ρ := by
  have hat := at_any hA.cl hR.cl hR.n1
  go_enter Tryz.func147, Tryz.ntmps147
  go_wp2_with fail
  refine hat.mono ?_
  rintro e w1 ⟨rfl, hc1, k1⟩
  have hA1 := hA.far k1 hR.rr hR.n1 hR.n2
  have hR1 := hR.self (r' := r.at_ x) hc1
  have fr1 := (Fr.refl (OwnR c ab rb) u j w ρ).kR k1
  have hc := hA1.cl
  have f31 := hc.c 31 _ rfl
  have hq := hR1.cl
  have r9 := hq.c 9 _ rfl
  have zr9 := hq.z 9 (by show 9 < 26; decide)
  clear hat hc hq
  go_wp2_with fail
  go_end0
  exact ⟨rfl, hA1.setR hR1 9 _, hR1.set1 (o := 9) (by decide) _ rfl, fr1.setR 9 _⟩
set_option maxHeartbeats 400000 in
set_option maxRecDepth 1000000 in
theorem stand_goes (hI : Inv s m) (hno : x.no < s.atts.length) (hfr : m.free = true) (hlog : (m.log.length + 1) * 56 ≤ 140737488355328) (h1 : (ca m.cells (s.att x.no).status).2 = 1) :
    Goes 132 u j c ab ρ x { x with nx := some 149 } n n f f s s m (m.load (s.att x.no).status) (({ x.blank.vs x with kind := 7 } : Ro).acc (m.load (s.att x.no).status).took) := by
  intro W rb hA hR
  have hmf : ∀ (fn : Fn) (first cap : Array Value) (w : World), (Instr.makeFunc fn first cap).run Tryz.prog w = .ok (.func fn first cap) w := fun _ _ _ _ => rfl
  have hag := against_any hA hR
  go_enter Tryz.func132, Tryz.ntmps132
  go_wp2_with fail
  refine hag.mono ?_
  rintro e W1 ⟨rfl, hA1, hR1, fr1⟩
  have hL := live_ok hA1 hR1 hI.wf hno hfr hlog h1
  clear hag h1
  go_wp2_with fail
  refine hL.mono ?_
  rintro e W2 ⟨rfl, ρ2, hA2, hR2, fr2⟩
  have hc := hA2.cl
  have f15 := hc.c 15 _ rfl
  have zf15 := hc.z 15 (by show 15 < 36; decide)
  clear hL hc
  go_wp2_with fail
  go_end0
  exact ⟨rfl, ρ2, hA2.set1 (o := 15) (by decide) _ rfl, hR2.setA 15 _, (fr1.tr fr2).setA 15 _⟩
set_option maxHeartbeats 400000 in
set_option maxRecDepth 1000000 in
theorem stand_killed (hI : Inv s m) (hno : x.no < s.atts.length) (hfr : m.free = true) (hlog : (m.log.length + 1) * 56 ≤ 140737488355328) {sv : Int} (h1 : (ca m.cells (s.att x.no).status).2 = sv) (hsv : (sv != 1) = true) (w : World) :
    FailsK w 132 5 u j c ab ρ x x n n f f s s m (m.load (s.att x.no).status) (({ x.blank.vs x with kind := 7 } : Ro).acc (m.load (s.att x.no).status).took) := by
  intro W rb _ _ hA hR
  have hag := against_any hA hR
  go_enter Tryz.func132, Tryz.ntmps132
  go_wp2_with fail
  refine hag.mono ?_
  rintro e W1 ⟨rfl, hA1, hR1, fr1⟩
  have hL := live_killed hA1 hR1 hI.wf hno hfr hlog h1 hsv
  clear hag h1
  go_wp2_with fail
  refine hL.mono ?_
  rintro e W2 ⟨rfl, ρ2, hA2, hR2, fr2⟩
  exact ⟨rfl, rfl, ρ2, hA2, hR2, fr1.tr fr2⟩
set_option maxHeartbeats 400000 in
set_option maxRecDepth 1000000 in
theorem mine_killed (hI : Inv s m) (hno : x.no < s.atts.length) (hfr : m.free = true) (hlog : (m.log.length + 1) * 56 ≤ 140737488355328) {sv : Int} (h1 : (ca m.cells (s.att x.no).status).2 = sv) (hsv : (sv != 1) = true) (w : World) :
    FailsK w 134 5 u j c ab ρ x x n n f f s s m (m.load (s.att x.no).status) (({ x.blank with object := x.object, kind := 7 } : Ro).acc (m.load (s.att x.no).status).took) := by
  intro W rb _ _ hA hR
  have hq := hR.cl
  have r7 := hq.c 7 _ rfl
  have zr7 := hq.z 7 (by show 7 < 26; decide)
  have hR1 : RX (W.setCell ⟨rb, 7, none⟩ (.int .i64 x.object)) ρ c ab rb { x.blank with object := x.object } := hR.set1 (o := 7) (by decide) _ rfl
  have hA1 := hA.setR hR 7 (.int .i64 x.object)
  have fr1 := (Fr.refl (OwnR c ab rb) u j W ρ).setR 7 (.int .i64 x.object)
  have hL := live_killed hA1 hR1 hI.wf hno hfr hlog h1 hsv
  have hc := hA.cl
  have f17 := hc.c 17 _ rfl
  have n1 := hR.n1
  have n1' := hR.n1.symm
  clear hc hq h1
  go_enter Tryz.func134, Tryz.ntmps134
  go_wp2_with fail
  clear r7 zr7 f17
  generalize W.setCell ⟨rb, 7, none⟩ (.int .i64 x.object) = W1 at *
  refine hL.mono ?_
  rintro e W2 ⟨rfl, ρ2, hA2, hR2, fr2⟩
  exact ⟨rfl, rfl, ρ2, hA2, hR2, fr1.tr fr2⟩
def Tx.waits (x : Tx) : Tx := { x with left := x.left - 1, waited := x.waited + 1 }
set_option maxHeartbeats 400000 in
set_option maxRecDepth 1000000 in
theorem wait_goes (hl : 2 ≤ x.left) (hl2 : x.left ≤ 4096) (hw : 0 ≤ x.waited) (hw2 : x.waited ≤ 1000000) :
    Goes 179 u j c ab ρ x x.waits n n f f s s m m { ({ x.blank with kind := 10 } : Ro).vs x with wait := x.left - 1 } := by
  intro W rb hA hR
  have hq := hR.cl
  have r5 := hq.c 5 _ rfl
  have zr5 := hq.z 5 (by show 5 < 26; decide)
  have hR1 : RX (W.setCell ⟨rb, 5, none⟩ (.int .i64 10)) ρ c ab rb { x.blank with kind := 10 } := hR.set1 (o := 5) (by decide) _ rfl
  have hA1 := hA.setR hR 5 (.int .i64 10)
  have fr1 := (Fr.refl (OwnR c ab rb) u j W ρ).setR 5 (.int .i64 10)
  have hag := against_any hA1 hR1
  have g1 : IntKind.i64.wrap (x.left - 1) = x.left - 1 := by rw [IntKind.wrap_i64]; omega
  have g2 : IntKind.i64.wrap (x.waited + 1) = x.waited + 1 := by rw [IntKind.wrap_i64]; omega
  have g3 : (x.left - 1 == 0) = false := beq_eq_false_iff_ne.2 (by omega)
  clear hq
  go_enter Tryz.func179, Tryz.ntmps179
  go_wp2_with fail
  clear r5 zr5
  generalize W.setCell ⟨rb, 5, none⟩ (.int .i64 10) = W1 at *
  refine hag.mono ?_
  rintro e W2 ⟨rfl, hA2, hR2, fr2⟩
  have hc := hA2.cl
  have f33 := hc.c 33 _ rfl
  have zf33 := hc.z 33 (by show 33 < 36; decide)
  have f34 := hc.c 34 _ rfl
  have zf34 := hc.z 34 (by show 34 < 36; decide)
  have hA3 : AX ((W2.setCell ⟨ab, 34, none⟩ (.int .i64 (x.left - 1))).setCell ⟨ab, 33, none⟩ (.int .i64 (x.waited + 1))) ρ u j c ab x.waits n f s m := (hA2.set1 (x' := { x with left := x.left - 1 }) (o := 34) (by decide) _ rfl).set1 (o := 33) (by decide) _ rfl
  have hR3 := (hR2.setA 34 (.int .i64 (x.left - 1))).setA 33 (.int .i64 (x.waited + 1))
  have fr3 := ((fr1.tr fr2).setA 34 (.int .i64 (x.left - 1))).setA 33 (.int .i64 (x.waited + 1))
  have hq := hR3.cl
  have r16 := hq.c 16 _ rfl
  have zr16 := hq.z 16 (by show 16 < 26; decide)
  have n1 := hR.n1
  have n1' := hR.n1.symm
  clear hag hc hq
  go_wp2_with fail
  go_end0
  exact ⟨rfl, ρ, hA3.setR hR3 16 _, hR3.set1 (o := 16) (by decide) _ rfl, fr3.setR 16 _⟩
end
end Go.Proofs.YtgjndhbfjofkeaaGreatDoor

namespace Go.Proofs.YtgjndhbfjofkeaaGreatDoor
open Go.RowKit
attribute [local go_sem] Oper.semAt_some run_store_nf run_store_f
section
variable {w w' : World} {ρ ρ' ρ'' : Nat → Nat} {u j : Nat} {c : Sc} {ab rb n n' : Nat} {x x' : Tx} {f f' : Int → Option Nat} {s s' : Ws} {m m' : Mm} {r r' : Ro}
set_option maxHeartbeats 400000 in
set_option maxRecDepth 1000000 in
theorem up_goes (hI : Inv s m) (hno1 : 1 ≤ x.no) (hno : x.no < s.atts.length) (hfr : m.free = true) (hlog : (m.log.length + 1) * 56 ≤ 140737488355328) :
    Goes 178 u j c ab ρ x { x with flag := true, nx := some 179 } n n f f s s m (m.swap (s.att x.no).flag 0 1) ((({ x.blank with kind := 9 } : Ro).vs x).acc (m.swap (s.att x.no).flag 0 1).took) := by
  intro W rb hA hR
  have hmf : ∀ (fn : Fn) (first cap : Array Value) (w : World), (Instr.makeFunc fn first cap).run Tryz.prog w = .ok (.func fn first cap) w := fun _ _ _ _ => rfl
  have hq := hR.cl
  have r5 := hq.c 5 _ rfl
  have zr5 := hq.z 5 (by show 5 < 26; decide)
  have hR1 : RX (W.setCell ⟨rb, 5, none⟩ (.int .i64 9)) ρ c ab rb { x.blank with kind := 9 } := hR.set1 (o := 5) (by decide) _ rfl
  have hA1 := hA.setR hR 5 (.int .i64 9)
  have fr1 := (Fr.refl (OwnR c ab rb) u j W ρ).setR 5 (.int .i64 9)
  have hag := against_any hA1 hR1
  clear hq
  go_enter Tryz.func178, Tryz.ntmps178
  go_wp2_with fail
  clear r5 zr5
  generalize W.setCell ⟨rb, 5, none⟩ (.int .i64 9) = W1 at *
  refine hag.mono ?_
  rintro e W2 ⟨rfl, hA2, hR2, fr2⟩
  replace hA2 := hA2.new (Keeps.refl _ W2).drew
  replace hR2 := hR2.new (Keeps.refl _ W2).drew
  have fr3 := (fr1.tr fr2).kN (Keeps.refl _ W2).drew
  have hS := up_ok hA2.st hI.wf hno1 hno hfr hlog
  generalize decide ((ca m.cells (s.att x.no).flag).2 = 0) = dd at hS
  have hc := hA2.cl
  have f1 := hc.c 1 _ rfl
  have f7 := hc.c 7 _ rfl
  clear hc hag fr2 fr1
  go_wp2_with fail
  go_region_held3 (fun w' => w'.cell? ⟨ab, 1, none⟩ = some (.pointer (some ⟨c.wb, 0, none⟩)) ∧ w'.cell? ⟨ab, 7, none⟩ = some (.int .i64 (x.no : Int))) (go_keep) (first | (go_at_call 180; refine hS.mono ?_; clear hS; rintro e W3 ⟨rfl, ρ3, s3, x3⟩; have hA3 := hA2.run s3 x3; have hR3 := hR2.run (Sr.not0 hA2.st) x3; have fr4 := fr3.ex x3; have hc3 := hA3.cl; have g1 := hc3.c 1 _ rfl; have g7 := hc3.c 7 _ rfl) | (go_at_call 117; refine (must_bool _ _).mono ?_; rintro e W4 ⟨rfl, rfl⟩))
  clear g1 g7 hc3 hA2 hR2 fr3 s3 x3 f1 f7
  have hT := atook hA3 hR3 (had_swap m _ _ _) (by rw [log_swap]; omega)
  go_wp2_with fail
  refine hT.mono ?_
  rintro e W8 ⟨rfl, hA8, hR8, k8⟩
  have fr8 := fr4.kR k8
  have hc := hA8.cl
  have f10 := hc.c 10 _ rfl
  have zf10 := hc.z 10 (by show 10 < 36; decide)
  have f15 := hc.c 15 _ rfl
  have zf15 := hc.z 15 (by show 15 < 36; decide)
  clear hT hc
  go_wp2_with fail
  go_end0
  exact ⟨rfl, ρ3, (hA8.set1 (x' := { x with flag := true }) (o := 10) (by decide) _ rfl).set1 (o := 15) (by decide) _ rfl, (hR8.setA 10 _).setA 15 _, (fr8.setA 10 _).setA 15 _⟩
set_option maxHeartbeats 400000 in
set_option maxRecDepth 1000000 in
theorem kill_goes (hI : Inv s m) {en : Nat} (he : x.enemy = (en : Int)) (hno1 : 1 ≤ en) (hno : en < s.atts.length) (hfl : x.flag = false) (hfr : m.free = true) (hlog : (m.log.length + 1) * 56 ≤ 140737488355328) :
    Goes 176 u j c ab ρ x { x with enemy := -1, nx := some 108 } n n f f s s m (m.swap (s.att en).status 1 3) ((({ x.blank with kind := 12 } : Ro).vs x).acc (m.swap (s.att en).status 1 3).took) := by
  intro W rb hA hR
  have hmf : ∀ (fn : Fn) (first cap : Array Value) (w : World), (Instr.makeFunc fn first cap).run Tryz.prog w = .ok (.func fn first cap) w := fun _ _ _ _ => rfl
  have HE : Hid (x.enemy = (en : Int)) := he
  have HFL : Hid (x.flag = false) := hfl
  clear he hfl
  have hq := hR.cl
  have r5 := hq.c 5 _ rfl
  have zr5 := hq.z 5 (by show 5 < 26; decide)
  have hR1 : RX (W.setCell ⟨rb, 5, none⟩ (.int .i64 12)) ρ c ab rb { x.blank with kind := 12 } := hR.set1 (o := 5) (by decide) _ rfl
  have hA1 := hA.setR hR 5 (.int .i64 12)
  have fr1 := (Fr.refl (OwnR c ab rb) u j W ρ).setR 5 (.int .i64 12)
  have hag := against_any hA1 hR1
  clear hq
  go_enter Tryz.func176, Tryz.ntmps176
  go_wp2_with fail
  clear r5 zr5
  generalize W.setCell ⟨rb, 5, none⟩ (.int .i64 12) = W1 at *
  refine hag.mono ?_
  rintro e W2 ⟨rfl, hA2, hR2, fr2⟩
  replace hA2 := hA2.new (Keeps.refl _ W2).drew
  replace hR2 := hR2.new (Keeps.refl _ W2).drew
  have fr3 := (fr1.tr fr2).kN (Keeps.refl _ W2).drew
  have hS := Kill_ok hA2.st hI.wf hno1 hno hfr hlog
  rw [← HE.out] at hS
  generalize decide ((ca m.cells (s.att en).status).2 = 1) = dd at hS
  have hc := hA2.cl
  have f1 := hc.c 1 _ rfl
  have f31 := hc.c 31 _ rfl
  clear hc hag fr2 fr1
  go_wp2_with fail
  go_region_held3 (fun w' => w'.cell? ⟨ab, 1, none⟩ = some (.pointer (some ⟨c.wb, 0, none⟩)) ∧ w'.cell? ⟨ab, 31, none⟩ = some (.int .i64 x.enemy)) (go_keep) (first | (go_at_call 139; refine hS.mono ?_; clear hS; rintro e W3 ⟨rfl, ρ3, s3, x3⟩; have hA3 := hA2.run s3 x3; have hR3 := hR2.run (Sr.not0 hA2.st) x3; have fr4 := fr3.ex x3; have hc3 := hA3.cl; have g1 := hc3.c 1 _ rfl; have g31 := hc3.c 31 _ rfl) | (go_at_call 117; refine (must_bool _ _).mono ?_; rintro e W4 ⟨rfl, rfl⟩))
  clear g1 g31 hc3 hA2 hR2 fr3 s3 x3 f1 f31
  have hT := atook hA3 hR3 (had_swap m _ _ _) (by rw [log_swap]; omega)
  go_wp2_with fail
  refine hT.mono ?_
  rintro e W8 ⟨rfl, hA8, hR8, k8⟩
  have fr8 := fr4.kR k8
  have hP := part_free_ok hA8.cl HFL.out (g := 182) (fun _ _ => rfl) (Q := fun W' => CL W' ab (({ x with enemy := -1, nx := some 108 } : Tx).cells c ab) ∧ Keeps (fun k => k = ab) W8 W') (fun W hW kW => (again_any hW).mono (fun e W' ⟨h1, h2, h3⟩ => ⟨h1, h2, kW.trans h3⟩))
  clear hT
  go_wp2_with fail
  refine hP.mono ?_
  rintro e W9 ⟨rfl, hc9, k9⟩
  clear hP
  go_wp2_with fail
  go_end0
  exact ⟨rfl, ρ3, hA8.self k9 hc9, hR8.far k9 hR.n1.symm, fr8.kA k9⟩
end
end Go.Proofs.YtgjndhbfjofkeaaGreatDoor

