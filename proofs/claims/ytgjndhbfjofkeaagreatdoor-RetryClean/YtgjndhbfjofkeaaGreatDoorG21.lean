import Derived.Test.YtgjndhbfjofkeaaGreatDoorG20
import Derived.Test.YtgjndhbfjofkeaaGreatDoorG05
import Derived.Lib.Mul64
import Derived.Laws.Bits64b
import Derived.Test.YtgjndhbfjofkeaaGreatDoorRows
import Derived.OpenShut
import Derived.WalkLawsBesides
import Derived.Test.YtgjndhbfjofkeaaGreatDoorG01
namespace Go.Proofs.YtgjndhbfjofkeaaGreatDoor
open Go.RowKit
attribute [local go_sem] Oper.semAt_some run_store_nf run_store_f
section
variable {w w' : World} {ρ ρ' ρ'' : Nat → Nat} {u j : Nat} {c : Sc} {ab rb n n' : Nat} {x x' : Tx} {f f' : Int → Option Nat} {s s' : Ws} {m m' : Mm} {r r' : Ro}
set_option maxHeartbeats 800000 in
set_option maxRecDepth 1000000 in
theorem Owner_ok {wb mb : Nat} (h : St w ρ u j wb mb s m) {i : Nat} (hi : i < s.atts.length) :
    Calls Tryz.prog 11 #[.pointer (some ⟨wb, 0, none⟩), .int .i64 (i : Int)] w fun e w' => e = .returned (.tuple #[.agg #[.int .i64 (s.att i).thread, .int .i64 (s.att i).stamp, .int .i64 (s.att i).prio], .int .i64 0]) ∧ Keeps (fun _ => False) w w' := by
  obtain ⟨w0, hw0⟩ : ∃ w0, w0 = w.alloc (.cells #[.int .i64 0, .int .i64 0, .int .i64 0] 51) := ⟨_, rfl⟩
  have K0 : Keeps (fun _ => False) w w0 := by rw [hw0]; exact (Keeps.refl _ w).alloc _
  have hb : CL w0 w.heap.size [.int .i64 0, .int .i64 0, .int .i64 0] := by rw [hw0]; exact CL.made _ _ _
  have b0 := hb.c 0 _ rfl
  have b1 := hb.c 1 _ rfl
  have b2 := hb.c 2 _ rfl
  have z0 := hb.z 0 (by show 0 < 3; decide)
  have z1 := hb.z 1 (by show 1 < 3; decide)
  have z2 := hb.z 2 (by show 2 < 3; decide)
  have h0 := (h.new K0).1
  obtain ⟨vo, va, vl, vn, hw⟩ := h0.wj
  obtain ⟨gl, hgl, rl, ll, l0, l1, l2, l3, l4⟩ := hw.att hi
  have ngl : ¬ gl = w.heap.size := fun e => by rw [e, h.bnd _ (Nat.le_refl _)] at rl; omega
  have ha := attempt_ok hw hi hgl
  have hq : ∀ W : World, (binOp .eql 82 (.pointer (some ⟨gl, i * 5, none⟩)) (.pointer none)).run Tryz.prog W = .ok (.bool false) W := fun _ => rfl
  generalize s.att i = L at *
  clear h hw h0 hb
  go_enter Tryz.func11, Tryz.ntmps11
  go_wp2_with fail
  rw [← hw0]
  clear hw0
  refine ha.mono ?_
  rintro e w' ⟨rfl, rfl⟩
  go_wp2_with fail
  (try simp only [Exit.inBlock, Exit.then])
  refine bodyPost_ret (v := .tuple #[.agg #[.int .i64 L.thread, .int .i64 L.stamp, .int .i64 L.prio], .int .i64 0]) ?_ rfl ⟨rfl, ?_⟩
  · rw [results_cell_tmp rfl]
    go_simp
  · exact K0.trans' (keeps_set3 _ w.heap.size _ _ _) (fun _ _ e => e) (fun i hi e => by omega)
set_option maxHeartbeats 800000 in
set_option maxRecDepth 1000000 in
theorem must_own (w : World) (a b d : Int) : Calls Tryz.prog 161 #[.agg #[.int .i64 a, .int .i64 b, .int .i64 d], .int .i64 0] w fun e w' => e = .returned (.agg #[.int .i64 a, .int .i64 b, .int .i64 d]) ∧ Keeps (fun _ => False) w w' := by
  go_enter Tryz.func161, Tryz.ntmps161
  go_wp2
  refine bodyPost_ret (v := .agg #[.int .i64 a, .int .i64 b, .int .i64 d]) ?_ rfl ⟨rfl, ((Keeps.refl _ w).alloc _).alloc _⟩
  rw [results_cell1x rfl]
  go_simp
set_option maxHeartbeats 800000 in
set_option maxRecDepth 1000000 in
theorem isCell_yes {wb mb : Nat} (h : St w ρ u j wb mb s m) {q : Nat} (hq : q < m.cells.length) : Calls Tryz.prog 102 #[.pointer (some ⟨mb, 0, none⟩), .int .i64 (q : Int)] w fun e w' => e = .returned (.bool true) ∧ w' = w := by
  obtain ⟨F, hm, _⟩ := h.mj
  have hp := peek_any hm hq
  clear h hm
  go_enter Tryz.func102, Tryz.ntmps102
  go_wp2_with (go_at_call 17; refine hp.mono ?_; rintro e w1 ⟨rfl, rfl⟩)
  go_ret
  exact ⟨rfl, rfl⟩
structure BX (w : World) (ρ : Nat → Nat) (c : Sc) (ab rb B : Nat) (l : List Value) : Prop where
  cl : CL w B l
  rr : ρ B = 0
  n1 : B ≠ ab
  n2 : ¬ c.Q B
  n3 : B ≠ rb
theorem BX.new {B : Nat} {l : List Value} (h : BX w ρ c ab rb B l) (hl : 0 < l.length) (k : Keeps (fun _ => False) w w') : BX w' ρ c ab rb B l := ⟨h.cl.keep hl k (fun e => e), h.rr, h.n1, h.n2, h.n3⟩
theorem BX.fr {B : Nat} {l : List Value} (h : BX w ρ c ab rb B l) (hl : 0 < l.length) (S0 : ¬ Sr u j 0) (fr : Fr (OwnR c ab rb) u j w w' ρ ρ') : BX w' ρ' c ab rb B l :=
  ⟨h.cl.keep hl fr.keeps (fun e => e.elim (fun e => S0 (by rw [h.rr] at e; exact e)) (fun e => e.elim h.n1 (fun e => e.elim h.n2 h.n3))), (fr.old _ (h.cl.lt hl)).trans h.rr, h.n1, h.n2, h.n3⟩
def cfl (mine theirs born enemy : Int) (flag : Bool) (tries waited draw : Int) : List Value := [.int .i64 mine, .int .i64 theirs, .int .i64 born, .int .i64 enemy, .bool flag, .int .i64 tries, .int .i64 waited, .int .i64 draw]
set_option maxHeartbeats 800000 in
set_option maxRecDepth 1000000 in
theorem regard_0 {k B : Nat} {p : Int} {l : List Value} (hA : AX w ρ u j c ab x n f s m) (hR : RX w ρ c ab rb r) (hB : BX w ρ c ab rb B l) (hl : 0 < l.length) (hM : Mg w c.gb k p) (hT : TR w) (hk : lkT k = 0) (e0 e1 e2 : Int) :
    Calls Tryz.prog 162 #[.pointer (some ⟨ab, 0, none⟩), .pointer (some ⟨rb, 0, none⟩), .agg #[.int .i64 e0, .int .i64 e1, .int .i64 e2], .pointer (some ⟨B, 0, none⟩)] w fun e w' => e = .returned (.tuple #[]) ∧ AX w' ρ u j c ab x n f s m ∧ RX w' ρ c ab rb r ∧ BX w' ρ c ab rb B l ∧ Keeps (fun _ => False) w w' := by
  have K0 : Keeps (fun _ => False) w (w.alloc (.cells #[.int .i64 e0, .int .i64 e1, .int .i64 e2] 51)) := (Keeps.refl _ w).alloc _
  have hL := mLook (Mg.keep hM K0) (TR.keep hT K0)
  rw [hk] at hL
  have hc := (hA.new K0).cl
  have f2 := hc.c 2 _ rfl
  clear hc hM hT hk
  go_enter Tryz.func162, Tryz.ntmps162
  go_wp2_with fail
  refine hL.mono ?_
  rintro e w1 ⟨rfl, k1⟩
  have K1 := K0.trans k1
  clear hL f2
  go_wp2_with fail
  (try simp only [Exit.inBlock, Exit.then])
  refine bodyPost_ret (results_none rfl _ _ _) rfl ?_
  exact ⟨rfl, hA.new K1, hR.new K1, hB.new hl K1, K1⟩
set_option maxHeartbeats 800000 in
set_option maxRecDepth 1000000 in
theorem regard_1 {k B : Nat} {p : Int} {a0 a2 a3 a5 a6 : Int} (hA : AX w ρ u j c ab x n f s m) (hR : RX w ρ c ab rb r) (hB : BX w ρ c ab rb B (cfl a0 0 a2 a3 false a5 a6 0)) (hM : Mg w c.gb k p) (hT : TR w) (hk : lkT k = 1) (e0 e1 e2 : Int) {q : Nat} (hq2 : e2 = (q : Int)) (hqi : q < m.cells.length) (hfr : m.free = true) (hlog : (m.log.length + 1) * 56 ≤ 140737488355328) :
    Calls Tryz.prog 162 #[.pointer (some ⟨ab, 0, none⟩), .pointer (some ⟨rb, 0, none⟩), .agg #[.int .i64 e0, .int .i64 e1, .int .i64 e2], .pointer (some ⟨B, 0, none⟩)] w fun e w' => e = .returned (.tuple #[]) ∧ ∃ ρ', AX w' ρ' u j c ab x n f s (m.load q) ∧ RX w' ρ' c ab rb (r.acc (m.load q).took) ∧ BX w' ρ' c ab rb B (cfl a0 (ca m.cells q).2 a2 a3 false a5 a6 0) ∧ Fr (fun q => OwnR c ab rb q ∨ q = B) u j w w' ρ ρ' := by
  subst hq2
  have K0 : Keeps (fun _ => False) w (w.alloc (.cells #[.int .i64 e0, .int .i64 e1, .int .i64 (q : Int)] 51)) := (Keeps.refl _ w).alloc _
  have hE : CL (w.alloc (.cells #[.int .i64 e0, .int .i64 e1, .int .i64 (q : Int)] 51)) w.heap.size [.int .i64 e0, .int .i64 e1, .int .i64 (q : Int)] := CL.made _ _ _
  have hL := mLook (Mg.keep hM K0) (TR.keep hT K0)
  rw [hk] at hL
  have hc := (hA.new K0).cl
  have f2 := hc.c 2 _ rfl
  have S0 : ¬ Sr u j 0 := Sr.not0 hA.st
  have lta := hA.alt
  have ltb : B < w.heap.size := hB.cl.lt (by show 0 < 8; decide)
  have nBE : ¬ B = w.heap.size := by omega
  have nEB : ¬ w.heap.size = B := by omega
  have nBa : ¬ B = ab := hB.n1
  have nAB : ¬ ab = B := fun e => hB.n1 e.symm
  have naE : ¬ ab = w.heap.size := by omega
  clear hc hM hT hk
  go_enter Tryz.func162, Tryz.ntmps162
  go_wp2_with fail
  refine hL.mono ?_
  rintro e W1 ⟨rfl, k1⟩
  have K1 := K0.trans k1
  have E1 := hE.keep (by show 0 < 3; decide) k1 (fun e => e)
  clear hL f2 hE
  have K2 : Keeps (fun _ => False) w W1.drew := K1.drew
  have hA1 := hA.new K2
  have hR1 := hR.new K2
  have hB1 := hB.new (by show 0 < 8; decide) K2
  have E2 := E1.drew
  have hc := hA1.cl
  have f0 := hc.c 0 _ rfl
  have q2 := E2.c 2 _ rfl
  have hI := isCell_yes hA1.st hqi
  clear hc
  go_wp2_with fail
  go_region_held3 (fun w' => w'.cell? ⟨ab, 0, none⟩ = some (.pointer (some ⟨c.mb, 0, none⟩)) ∧ w'.cell? ⟨w.heap.size, 2, none⟩ = some (.int .i64 (q : Int))) (go_keep) ((go_at_call 102; refine hI.mono ?_; rintro e W2 ⟨rfl, rfl⟩))
  clear hI f0 q2
  go_wp2_with fail
  have K3 := K2.drew
  have hA2 := hA.new K3
  have hR2 := hR.new K3
  have hB2 := hB.new (by show 0 < 8; decide) K3
  have E3 := E2.drew
  have fr2 : Fr (OwnR c ab rb) u j w W1.drew.drew ρ ρ := Fr.of_keeps K3 (fun _ _ e => e.elim)
  have hrE : ρ w.heap.size = 0 := hA.st.bnd _ (Nat.le_refl _)
  have hS := sload' hA2.st hqi hfr hlog
  have hc := hA2.cl
  have f0 := hc.c 0 _ rfl
  have q2 := E3.c 2 _ rfl
  clear hc hA1 hR1 hB1 E2 K2 hA hR
  go_region_held3 (fun w' => w'.cell? ⟨ab, 0, none⟩ = some (.pointer (some ⟨c.mb, 0, none⟩)) ∧ w'.cell? ⟨w.heap.size, 2, none⟩ = some (.int .i64 (q : Int))) (first | (go_keep; done) | exact KZ _) (first | (go_at_call 143; refine hS.mono ?_; clear hS; rintro e W3 ⟨rfl, ρ3, s3, x3⟩; have hA3 := hA2.run s3 x3; have hR3 := hR2.run S0 x3; have fr3 := fr2.ex x3; have hB3 := hB2.fr (by show 0 < 8; decide) S0 (Fr.of_ext x3); have E4 := E3.keep (by show 0 < 3; decide) x3.keeps (fun e => S0 (by rw [hrE] at e; exact e)); have hc3 := hA3.cl; have g0 := hc3.c 0 _ rfl; have g2 := E4.c 2 _ rfl; have hqB := hB3.cl; have b1 := hqB.c 1 _ rfl; have zb1 := hqB.z 1 (by show 1 < 8; decide); have KZ := fun (v : Value) => And.intro ((hc3.other (p := ⟨B, 1, none⟩) nBa v).c 0 _ rfl) ((E4.other (p := ⟨B, 1, none⟩) nBE v).c 2 _ rfl)) | (go_at_call 166; refine (must_i64 _ _).mono ?_; rintro e W4 ⟨rfl, rfl⟩))
  have hq := hB3.cl
  have hA4 := hA3.far ((Keeps.refl (fun k => k = B) W4).setA 1 (.int .i64 (ca m.cells q).2)) hB3.rr hB3.n1 hB3.n2
  have hR4 := hR3.far ((Keeps.refl (fun k => k = B) W4).setA 1 (.int .i64 (ca m.cells q).2)) hB3.n3
  have hB4 : BX (W4.setCell ⟨B, 1, none⟩ (.int .i64 (ca m.cells q).2)) ρ3 c ab rb B (cfl a0 (ca m.cells q).2 a2 a3 false a5 a6 0) := ⟨hq.set (o := 1) (by show 1 < 8; decide) _, hB3.rr, hB3.n1, hB3.n2, hB3.n3⟩
  have fr4 : Fr (fun q => OwnR c ab rb q ∨ q = B) u j w (W4.setCell ⟨B, 1, none⟩ (.int .i64 (ca m.cells q).2)) ρ ρ3 := (fr3.mono (fun _ _ e => .inl e)).tr (Fr.of_keeps ((Keeps.refl (fun k => k = B) W4).setA 1 (.int .i64 (ca m.cells q).2)) (fun _ _ e => .inr e))
  have hT := atook hA4 hR4 (had_load m _) (by rw [log_load]; omega)
  clear KZ g0 g2 b1 zb1 hqB hc3 E4 f0 q2 hq hA3 hR3 hB3 fr3
  generalize W4.setCell ⟨B, 1, none⟩ (.int .i64 (ca m.cells q).2) = W5 at *
  go_wp2_with fail
  refine hT.mono ?_
  rintro e W8 ⟨rfl, hA8, hR8, k8⟩
  go_wp2_with fail
  go_end0
  exact ⟨rfl, ρ3, hA8, hR8, ⟨hB4.cl.keep (by show 0 < 8; decide) k8 (fun e => hB4.n3 e), hB4.rr, hB4.n1, hB4.n2, hB4.n3⟩, fr4.tr (Fr.of_keeps k8 (fun _ _ e => .inl (.inr (.inr e))))⟩
set_option maxHeartbeats 800000 in
set_option maxRecDepth 1000000 in
theorem regard_2 {k B : Nat} {p : Int} {a0 a2 a3 a5 a6 : Int} (hA : AX w ρ u j c ab x n f s m) (hR : RX w ρ c ab rb r) (hB : BX w ρ c ab rb B (cfl a0 0 a2 a3 false a5 a6 0)) (hM : Mg w c.gb k p) (hT : TR w) (hk : lkT k = 2) (e0 e1 e2 : Int) (hf : Wf s m) {en : Nat} (hen : x.enemy = (en : Int)) (hei : en < s.atts.length) (hfr : m.free = true) (hlog : (m.log.length + 1) * 56 ≤ 140737488355328) :
    Calls Tryz.prog 162 #[.pointer (some ⟨ab, 0, none⟩), .pointer (some ⟨rb, 0, none⟩), .agg #[.int .i64 e0, .int .i64 e1, .int .i64 e2], .pointer (some ⟨B, 0, none⟩)] w fun e w' => e = .returned (.tuple #[]) ∧ ∃ ρ', AX w' ρ' u j c ab x n f s (m.load (s.att en).flag) ∧ RX w' ρ' c ab rb (r.acc (m.load (s.att en).flag).took) ∧ BX w' ρ' c ab rb B (cfl a0 0 a2 a3 (decide ((ca m.cells (s.att en).flag).2 = 1)) a5 a6 0) ∧ Fr (fun q => OwnR c ab rb q ∨ q = B) u j w w' ρ ρ' := by
  have HEN : Hid (x.enemy = (en : Int)) := hen
  clear hen
  have K0 : Keeps (fun _ => False) w (w.alloc (.cells #[.int .i64 e0, .int .i64 e1, .int .i64 e2] 51)) := (Keeps.refl _ w).alloc _
  have hE : CL (w.alloc (.cells #[.int .i64 e0, .int .i64 e1, .int .i64 e2] 51)) w.heap.size [.int .i64 e0, .int .i64 e1, .int .i64 e2] := CL.made _ _ _
  have hL := mLook (Mg.keep hM K0) (TR.keep hT K0)
  rw [hk] at hL
  have hc := (hA.new K0).cl
  have f2 := hc.c 2 _ rfl
  have S0 : ¬ Sr u j 0 := Sr.not0 hA.st
  have lta := hA.alt
  have ltb : B < w.heap.size := hB.cl.lt (by show 0 < 8; decide)
  have nBE : ¬ B = w.heap.size := by omega
  have nEB : ¬ w.heap.size = B := by omega
  have nBa : ¬ B = ab := hB.n1
  have nAB : ¬ ab = B := fun e => hB.n1 e.symm
  have naE : ¬ ab = w.heap.size := by omega
  clear hc hM hT hk
  go_enter Tryz.func162, Tryz.ntmps162
  go_wp2_with fail
  refine hL.mono ?_
  rintro e W1 ⟨rfl, k1⟩
  have K1 := K0.trans k1
  have E1 := hE.keep (by show 0 < 3; decide) k1 (fun e => e)
  clear hL f2 hE
  have K2 : Keeps (fun _ => False) w W1.drew := K1.drew
  have hA1 := hA.new K2
  have hR1 := hR.new K2
  have hB1 := hB.new (by show 0 < 8; decide) K2
  have E2 := E1.drew
  have hc := hA1.cl
  have f1 := hc.c 1 _ rfl
  have f31 := hc.c 31 _ rfl
  have hS := Flag_ok hA1.st hf hei hfr hlog
  rw [← HEN.out] at hS
  have fr2 : Fr (OwnR c ab rb) u j w W1.drew ρ ρ := Fr.of_keeps K2 (fun _ _ e => e.elim)
  clear hc hA hR
  go_wp2_with fail
  obtain ⟨FV, HFV⟩ : ∃ FV, Hid (decide ((ca m.cells (s.att en).flag).2 = 1) = FV) := ⟨_, rfl⟩
  rw [HFV.out] at hS
  go_region_held3 (fun w' => w'.cell? ⟨ab, 1, none⟩ = some (.pointer (some ⟨c.wb, 0, none⟩)) ∧ w'.cell? ⟨ab, 31, none⟩ = some (.int .i64 x.enemy)) (first | (go_keep; done) | exact KZ _) (first | (go_at_call 174; refine hS.mono ?_; clear hS; rintro e W3 ⟨rfl, ρ3, s3, x3⟩; have hA3 := hA1.run s3 x3; have hR3 := hR1.run S0 x3; have fr3 := fr2.ex x3; have hB3 := hB1.fr (by show 0 < 8; decide) S0 (Fr.of_ext x3); have hc3 := hA3.cl; have g0 := hc3.c 1 _ rfl; have g2 := hc3.c 31 _ rfl; have hqB := hB3.cl; have b1 := hqB.c 4 _ rfl; have zb1 := hqB.z 4 (by show 4 < 8; decide); have KZ := fun (v : Value) => And.intro ((hc3.other (p := ⟨B, 4, none⟩) nBa v).c 1 _ rfl) ((hc3.other (p := ⟨B, 4, none⟩) nBa v).c 31 _ rfl)) | (go_at_call 117; refine (must_bool _ _).mono ?_; rintro e W4 ⟨rfl, rfl⟩))
  have hq := hB3.cl
  have hA4 := hA3.far ((Keeps.refl (fun k => k = B) W4).setA 4 (.bool FV)) hB3.rr hB3.n1 hB3.n2
  have hR4 := hR3.far ((Keeps.refl (fun k => k = B) W4).setA 4 (.bool FV)) hB3.n3
  have hB4 : BX (W4.setCell ⟨B, 4, none⟩ (.bool FV)) ρ3 c ab rb B (cfl a0 0 a2 a3 FV a5 a6 0) := ⟨hq.set (o := 4) (by show 4 < 8; decide) _, hB3.rr, hB3.n1, hB3.n2, hB3.n3⟩
  have fr4 : Fr (fun q => OwnR c ab rb q ∨ q = B) u j w (W4.setCell ⟨B, 4, none⟩ (.bool FV)) ρ ρ3 := (fr3.mono (fun _ _ e => .inl e)).tr (Fr.of_keeps ((Keeps.refl (fun k => k = B) W4).setA 4 (.bool FV)) (fun _ _ e => .inr e))
  have hT := atook hA4 hR4 (had_load m _) (by rw [log_load]; omega)
  clear KZ g0 g2 b1 zb1 hqB hc3 f1 f31 hq hA3 hR3 hB3 fr3
  generalize W4.setCell ⟨B, 4, none⟩ (.bool FV) = W5 at *
  go_wp2_with fail
  refine hT.mono ?_
  rintro e W8 ⟨rfl, hA8, hR8, k8⟩
  go_wp2_with fail
  go_end0
  rw [HFV.out]
  exact ⟨rfl, ρ3, hA8, hR8, ⟨hB4.cl.keep (by show 0 < 8; decide) k8 (fun e => hB4.n3 e), hB4.rr, hB4.n1, hB4.n2, hB4.n3⟩, fr4.tr (Fr.of_keeps k8 (fun _ _ e => .inl (.inr (.inr e))))⟩
set_option maxHeartbeats 800000 in
set_option maxRecDepth 1000000 in
theorem obey_kill (hA : AX w ρ u j c ab x n f s m) {va vt : Bool} {vn : Int} (hv : va = true) :
    Calls Tryz.prog 165 #[.pointer (some ⟨ab, 0, none⟩), .agg #[.bool va, .bool vt, .int .i64 vn]] w fun e w' => e = .returned (.tuple #[]) ∧ CL w' ab (({ x with left := vn, nx := some 176 } : Tx).cells c ab) ∧ Keeps (fun k => k = ab) w w' := by
  subst hv
  have hmf : ∀ (fn : Fn) (first cap : Array Value) (w : World), (Instr.makeFunc fn first cap).run Tryz.prog w = .ok (.func fn first cap) w := fun _ _ _ _ => rfl
  have K0 : Keeps (fun _ => False) w (w.alloc (.cells #[.bool true, .bool vt, .int .i64 vn] 233)) := (Keeps.refl _ w).alloc _
  have hE : CL (w.alloc (.cells #[.bool true, .bool vt, .int .i64 vn] 233)) w.heap.size [.bool true, .bool vt, .int .i64 vn] := CL.made _ _ _
  have hA0 := hA.new K0
  have hc := hA0.cl
  have f34 := hc.c 34 _ rfl
  have zf34 := hc.z 34 (by show 34 < 36; decide)
  have lta := hA.alt
  have naE : ¬ ab = w.heap.size := by omega
  have nEa : ¬ w.heap.size = ab := by omega
  have e2 := hE.c 2 _ rfl
  have sz : (w.setCell ⟨ab, 34, none⟩ (.int .i64 vn)).heap.size = w.heap.size := by simp
  have hA1 : AX ((w.setCell ⟨ab, 34, none⟩ (.int .i64 vn)).alloc (.cells #[.bool true, .bool vt, .int .i64 vn] 233)) ρ u j c ab { x with left := vn } n f s m := (hA.set1 (x' := { x with left := vn }) (o := 34) (by decide) _ rfl).new ((Keeps.refl _ _).alloc _)
  have E1 : CL ((w.setCell ⟨ab, 34, none⟩ (.int .i64 vn)).alloc (.cells #[.bool true, .bool vt, .int .i64 vn] 233)) w.heap.size [.bool true, .bool vt, .int .i64 vn] := by
    have := CL.made (w.setCell ⟨ab, 34, none⟩ (.int .i64 vn)) [.bool true, .bool vt, .int .i64 vn] 233
    rw [sz] at this
    exact this
  have K1 : Keeps (fun k => k = ab) w ((w.setCell ⟨ab, 34, none⟩ (.int .i64 vn)).alloc (.cells #[.bool true, .bool vt, .int .i64 vn] 233)) := ((Keeps.refl _ w).setA _ _).alloc _
  have e0 := E1.c 0 _ rfl
  have hc1 := hA1.cl
  have g2 := hc1.c 2 _ rfl
  have zg2 := hc1.z 2 (by show 2 < 36; decide)
  have g10 := hc1.c 10 _ rfl
  have zg10 := hc1.z 10 (by show 10 < 36; decide)
  have g15 := hc1.c 15 _ rfl
  have zg15 := hc1.z 15 (by show 15 < 36; decide)
  clear hc hc1  hA0 hE
  go_enter Tryz.func165, Tryz.ntmps165
  go_wp2_with fail
  go_end0
  exact ⟨rfl, (((hA.set1 (x' := { x with left := vn }) (o := 34) (by decide) (.int .i64 vn) rfl).set1 (x' := { x with left := vn, nx := some 176 }) (o := 15) (by decide) _ rfl).new ((Keeps.refl _ _).alloc _)).cl, (((Keeps.refl _ w).setA _ _).setA _ _).alloc _⟩
set_option maxHeartbeats 800000 in
set_option maxRecDepth 1000000 in
theorem obey_up (hgn : ∀ q, q = 0 ∨ q = c.gb → ¬ q = ab) (hA : AX w ρ u j c ab x n f s m) {va vt : Bool} {vn : Int} {k : Nat} {p : Int} (hM : Mg w c.gb k p) (hT : TR w) (hv : va = false) (hfl : flT k = true) (hxf : x.flag = false) :
    Calls Tryz.prog 165 #[.pointer (some ⟨ab, 0, none⟩), .agg #[.bool va, .bool vt, .int .i64 vn]] w fun e w' => e = .returned (.tuple #[]) ∧ CL w' ab (({ x with left := vn, nx := some 178 } : Tx).cells c ab) ∧ Keeps (fun k => k = ab) w w' := by
  subst hv
  have hmf : ∀ (fn : Fn) (first cap : Array Value) (w : World), (Instr.makeFunc fn first cap).run Tryz.prog w = .ok (.func fn first cap) w := fun _ _ _ _ => rfl
  have K0 : Keeps (fun _ => False) w (w.alloc (.cells #[.bool false, .bool vt, .int .i64 vn] 233)) := (Keeps.refl _ w).alloc _
  have hE : CL (w.alloc (.cells #[.bool false, .bool vt, .int .i64 vn] 233)) w.heap.size [.bool false, .bool vt, .int .i64 vn] := CL.made _ _ _
  have hA0 := hA.new K0
  have hc := hA0.cl
  have f34 := hc.c 34 _ rfl
  have zf34 := hc.z 34 (by show 34 < 36; decide)
  have lta := hA.alt
  have naE : ¬ ab = w.heap.size := by omega
  have nEa : ¬ w.heap.size = ab := by omega
  have e2 := hE.c 2 _ rfl
  have sz : (w.setCell ⟨ab, 34, none⟩ (.int .i64 vn)).heap.size = w.heap.size := by simp
  have hA1 : AX ((w.setCell ⟨ab, 34, none⟩ (.int .i64 vn)).alloc (.cells #[.bool false, .bool vt, .int .i64 vn] 233)) ρ u j c ab { x with left := vn } n f s m := (hA.set1 (x' := { x with left := vn }) (o := 34) (by decide) _ rfl).new ((Keeps.refl _ _).alloc _)
  have E1 : CL ((w.setCell ⟨ab, 34, none⟩ (.int .i64 vn)).alloc (.cells #[.bool false, .bool vt, .int .i64 vn] 233)) w.heap.size [.bool false, .bool vt, .int .i64 vn] := by
    have := CL.made (w.setCell ⟨ab, 34, none⟩ (.int .i64 vn)) [.bool false, .bool vt, .int .i64 vn] 233
    rw [sz] at this
    exact this
  have K1 : Keeps (fun k => k = ab) w ((w.setCell ⟨ab, 34, none⟩ (.int .i64 vn)).alloc (.cells #[.bool false, .bool vt, .int .i64 vn] 233)) := ((Keeps.refl _ w).setA _ _).alloc _
  have e0 := E1.c 0 _ rfl
  have hc1 := hA1.cl
  have g2 := hc1.c 2 _ rfl
  have zg2 := hc1.z 2 (by show 2 < 36; decide)
  have g10 := hc1.c 10 _ rfl
  have zg10 := hc1.z 10 (by show 10 < 36; decide)
  have g15 := hc1.c 15 _ rfl
  have zg15 := hc1.z 15 (by show 15 < 36; decide)
  have kM : Keeps (fun k => k = ab) w ((w.setCell ⟨ab, 34, none⟩ (.int .i64 vn)).alloc (.cells #[.bool false, .bool vt, .int .i64 vn] 233)) := K1
  have gne : ∀ q, q = 0 ∨ q = c.gb → ¬ q = ab := hgn
  have hM1 : Mg ((w.setCell ⟨ab, 34, none⟩ (.int .i64 vn)).alloc (.cells #[.bool false, .bool vt, .int .i64 vn] 233)) c.gb k p := ⟨hM.1, hM.2.1, kM.cell hM.2.2 (gne _ (.inr rfl))⟩
  have hT1 : TR ((w.setCell ⟨ab, 34, none⟩ (.int .i64 vn)).alloc (.cells #[.bool false, .bool vt, .int .i64 vn] 233)) := fun i hi => ⟨kM.cell (hT i hi).1 (gne _ (.inl rfl)), kM.cell (hT i hi).2.1 (gne _ (.inl rfl)), kM.cell (hT i hi).2.2.1 (gne _ (.inl rfl)), kM.cell (hT i hi).2.2.2 (gne _ (.inl rfl))⟩
  have hFl := mFlags hM1 hT1
  rw [hfl] at hFl
  have HXF : Hid (x.flag = false) := hxf
  clear hxf
  clear hM hT hfl hM1 hT1 kM gne
  clear hc hc1 hA hA0 hE
  go_enter Tryz.func165, Tryz.ntmps165
  go_wp2_with fail
  clear f34 zf34 e2 sz
  generalize (w.setCell ⟨ab, 34, none⟩ (.int .i64 vn)).alloc (.cells #[.bool false, .bool vt, .int .i64 vn] 233) = W1 at *
  refine hFl.mono ?_
  rintro e W2 ⟨rfl, k2⟩
  have hA2 := hA1.new k2
  have hc2 := hA2.cl
  have d10 := hc2.c 10 _ rfl
  have zd10 := hc2.z 10 (by show 10 < 36; decide)
  have d15 := hc2.c 15 _ rfl
  have zd15 := hc2.z 15 (by show 15 < 36; decide)
  rw [show ({ x with left := vn } : Tx).flag = false from HXF.out] at d10
  clear hc2 g2 g10 g15 zg2 zg10 zg15 e0 E1 hFl hA1
  go_wp2_with fail
  go_end0
  exact ⟨rfl, hA2.cl.set (o := 15) (by show 15 < 36; decide) _, (K1.trans (k2.mono (fun _ _ e => e.elim))).setA _ _⟩
set_option maxHeartbeats 800000 in
set_option maxRecDepth 1000000 in
theorem obey_wait (hgn : ∀ q, q = 0 ∨ q = c.gb → ¬ q = ab) (hA : AX w ρ u j c ab x n f s m) {va vt : Bool} {vn : Int} {k : Nat} {p : Int} (hM : Mg w c.gb k p) (hT : TR w) (hv : va = false) (hfl : flT k = false) :
    Calls Tryz.prog 165 #[.pointer (some ⟨ab, 0, none⟩), .agg #[.bool va, .bool vt, .int .i64 vn]] w fun e w' => e = .returned (.tuple #[]) ∧ CL w' ab (({ x with left := vn, nx := some 179 } : Tx).cells c ab) ∧ Keeps (fun k => k = ab) w w' := by
  subst hv
  have hmf : ∀ (fn : Fn) (first cap : Array Value) (w : World), (Instr.makeFunc fn first cap).run Tryz.prog w = .ok (.func fn first cap) w := fun _ _ _ _ => rfl
  have K0 : Keeps (fun _ => False) w (w.alloc (.cells #[.bool false, .bool vt, .int .i64 vn] 233)) := (Keeps.refl _ w).alloc _
  have hE : CL (w.alloc (.cells #[.bool false, .bool vt, .int .i64 vn] 233)) w.heap.size [.bool false, .bool vt, .int .i64 vn] := CL.made _ _ _
  have hA0 := hA.new K0
  have hc := hA0.cl
  have f34 := hc.c 34 _ rfl
  have zf34 := hc.z 34 (by show 34 < 36; decide)
  have lta := hA.alt
  have naE : ¬ ab = w.heap.size := by omega
  have nEa : ¬ w.heap.size = ab := by omega
  have e2 := hE.c 2 _ rfl
  have sz : (w.setCell ⟨ab, 34, none⟩ (.int .i64 vn)).heap.size = w.heap.size := by simp
  have hA1 : AX ((w.setCell ⟨ab, 34, none⟩ (.int .i64 vn)).alloc (.cells #[.bool false, .bool vt, .int .i64 vn] 233)) ρ u j c ab { x with left := vn } n f s m := (hA.set1 (x' := { x with left := vn }) (o := 34) (by decide) _ rfl).new ((Keeps.refl _ _).alloc _)
  have E1 : CL ((w.setCell ⟨ab, 34, none⟩ (.int .i64 vn)).alloc (.cells #[.bool false, .bool vt, .int .i64 vn] 233)) w.heap.size [.bool false, .bool vt, .int .i64 vn] := by
    have := CL.made (w.setCell ⟨ab, 34, none⟩ (.int .i64 vn)) [.bool false, .bool vt, .int .i64 vn] 233
    rw [sz] at this
    exact this
  have K1 : Keeps (fun k => k = ab) w ((w.setCell ⟨ab, 34, none⟩ (.int .i64 vn)).alloc (.cells #[.bool false, .bool vt, .int .i64 vn] 233)) := ((Keeps.refl _ w).setA _ _).alloc _
  have e0 := E1.c 0 _ rfl
  have hc1 := hA1.cl
  have g2 := hc1.c 2 _ rfl
  have zg2 := hc1.z 2 (by show 2 < 36; decide)
  have g10 := hc1.c 10 _ rfl
  have zg10 := hc1.z 10 (by show 10 < 36; decide)
  have g15 := hc1.c 15 _ rfl
  have zg15 := hc1.z 15 (by show 15 < 36; decide)
  have kM : Keeps (fun k => k = ab) w ((w.setCell ⟨ab, 34, none⟩ (.int .i64 vn)).alloc (.cells #[.bool false, .bool vt, .int .i64 vn] 233)) := K1
  have gne : ∀ q, q = 0 ∨ q = c.gb → ¬ q = ab := hgn
  have hM1 : Mg ((w.setCell ⟨ab, 34, none⟩ (.int .i64 vn)).alloc (.cells #[.bool false, .bool vt, .int .i64 vn] 233)) c.gb k p := ⟨hM.1, hM.2.1, kM.cell hM.2.2 (gne _ (.inr rfl))⟩
  have hT1 : TR ((w.setCell ⟨ab, 34, none⟩ (.int .i64 vn)).alloc (.cells #[.bool false, .bool vt, .int .i64 vn] 233)) := fun i hi => ⟨kM.cell (hT i hi).1 (gne _ (.inl rfl)), kM.cell (hT i hi).2.1 (gne _ (.inl rfl)), kM.cell (hT i hi).2.2.1 (gne _ (.inl rfl)), kM.cell (hT i hi).2.2.2 (gne _ (.inl rfl))⟩
  have hFl := mFlags hM1 hT1
  rw [hfl] at hFl
  clear hM hT hfl hM1 hT1 kM gne
  clear hc hc1 hA hA0 hE
  go_enter Tryz.func165, Tryz.ntmps165
  go_wp2_with fail
  clear f34 zf34 e2 sz
  generalize (w.setCell ⟨ab, 34, none⟩ (.int .i64 vn)).alloc (.cells #[.bool false, .bool vt, .int .i64 vn] 233) = W1 at *
  refine hFl.mono ?_
  rintro e W2 ⟨rfl, k2⟩
  have hA2 := hA1.new k2
  have hc2 := hA2.cl
  have d10 := hc2.c 10 _ rfl
  have zd10 := hc2.z 10 (by show 10 < 36; decide)
  have d15 := hc2.c 15 _ rfl
  have zd15 := hc2.z 15 (by show 15 < 36; decide)
  clear hc2 g2 g10 g15 zg2 zg10 zg15 e0 E1 hFl hA1
  go_wp2_with fail
  go_end0
  exact ⟨rfl, hA2.cl.set (o := 15) (by show 15 < 36; decide) _, (K1.trans (k2.mono (fun _ _ e => e.elim))).setA _ _⟩
set_option maxHeartbeats 800000 in
set_option maxRecDepth 1000000 in
theorem obey_wait2 (hgn : ∀ q, q = 0 ∨ q = c.gb → ¬ q = ab) (hA : AX w ρ u j c ab x n f s m) {va vt : Bool} {vn : Int} {k : Nat} {p : Int} (hM : Mg w c.gb k p) (hT : TR w) (hv : va = false) (hfl : flT k = true) (hxf : x.flag = true) :
    Calls Tryz.prog 165 #[.pointer (some ⟨ab, 0, none⟩), .agg #[.bool va, .bool vt, .int .i64 vn]] w fun e w' => e = .returned (.tuple #[]) ∧ CL w' ab (({ x with left := vn, nx := some 179 } : Tx).cells c ab) ∧ Keeps (fun k => k = ab) w w' := by
  subst hv
  have hmf : ∀ (fn : Fn) (first cap : Array Value) (w : World), (Instr.makeFunc fn first cap).run Tryz.prog w = .ok (.func fn first cap) w := fun _ _ _ _ => rfl
  have K0 : Keeps (fun _ => False) w (w.alloc (.cells #[.bool false, .bool vt, .int .i64 vn] 233)) := (Keeps.refl _ w).alloc _
  have hE : CL (w.alloc (.cells #[.bool false, .bool vt, .int .i64 vn] 233)) w.heap.size [.bool false, .bool vt, .int .i64 vn] := CL.made _ _ _
  have hA0 := hA.new K0
  have hc := hA0.cl
  have f34 := hc.c 34 _ rfl
  have zf34 := hc.z 34 (by show 34 < 36; decide)
  have lta := hA.alt
  have naE : ¬ ab = w.heap.size := by omega
  have nEa : ¬ w.heap.size = ab := by omega
  have e2 := hE.c 2 _ rfl
  have sz : (w.setCell ⟨ab, 34, none⟩ (.int .i64 vn)).heap.size = w.heap.size := by simp
  have hA1 : AX ((w.setCell ⟨ab, 34, none⟩ (.int .i64 vn)).alloc (.cells #[.bool false, .bool vt, .int .i64 vn] 233)) ρ u j c ab { x with left := vn } n f s m := (hA.set1 (x' := { x with left := vn }) (o := 34) (by decide) _ rfl).new ((Keeps.refl _ _).alloc _)
  have E1 : CL ((w.setCell ⟨ab, 34, none⟩ (.int .i64 vn)).alloc (.cells #[.bool false, .bool vt, .int .i64 vn] 233)) w.heap.size [.bool false, .bool vt, .int .i64 vn] := by
    have := CL.made (w.setCell ⟨ab, 34, none⟩ (.int .i64 vn)) [.bool false, .bool vt, .int .i64 vn] 233
    rw [sz] at this
    exact this
  have K1 : Keeps (fun k => k = ab) w ((w.setCell ⟨ab, 34, none⟩ (.int .i64 vn)).alloc (.cells #[.bool false, .bool vt, .int .i64 vn] 233)) := ((Keeps.refl _ w).setA _ _).alloc _
  have e0 := E1.c 0 _ rfl
  have hc1 := hA1.cl
  have g2 := hc1.c 2 _ rfl
  have zg2 := hc1.z 2 (by show 2 < 36; decide)
  have g10 := hc1.c 10 _ rfl
  have zg10 := hc1.z 10 (by show 10 < 36; decide)
  have g15 := hc1.c 15 _ rfl
  have zg15 := hc1.z 15 (by show 15 < 36; decide)
  have kM : Keeps (fun k => k = ab) w ((w.setCell ⟨ab, 34, none⟩ (.int .i64 vn)).alloc (.cells #[.bool false, .bool vt, .int .i64 vn] 233)) := K1
  have gne : ∀ q, q = 0 ∨ q = c.gb → ¬ q = ab := hgn
  have hM1 : Mg ((w.setCell ⟨ab, 34, none⟩ (.int .i64 vn)).alloc (.cells #[.bool false, .bool vt, .int .i64 vn] 233)) c.gb k p := ⟨hM.1, hM.2.1, kM.cell hM.2.2 (gne _ (.inr rfl))⟩
  have hT1 : TR ((w.setCell ⟨ab, 34, none⟩ (.int .i64 vn)).alloc (.cells #[.bool false, .bool vt, .int .i64 vn] 233)) := fun i hi => ⟨kM.cell (hT i hi).1 (gne _ (.inl rfl)), kM.cell (hT i hi).2.1 (gne _ (.inl rfl)), kM.cell (hT i hi).2.2.1 (gne _ (.inl rfl)), kM.cell (hT i hi).2.2.2 (gne _ (.inl rfl))⟩
  have hFl := mFlags hM1 hT1
  rw [hfl] at hFl
  have HXF : Hid (x.flag = true) := hxf
  clear hxf
  clear hM hT hfl hM1 hT1 kM gne
  clear hc hc1 hA hA0 hE
  go_enter Tryz.func165, Tryz.ntmps165
  go_wp2_with fail
  clear f34 zf34 e2 sz
  generalize (w.setCell ⟨ab, 34, none⟩ (.int .i64 vn)).alloc (.cells #[.bool false, .bool vt, .int .i64 vn] 233) = W1 at *
  refine hFl.mono ?_
  rintro e W2 ⟨rfl, k2⟩
  have hA2 := hA1.new k2
  have hc2 := hA2.cl
  have d10 := hc2.c 10 _ rfl
  have zd10 := hc2.z 10 (by show 10 < 36; decide)
  have d15 := hc2.c 15 _ rfl
  have zd15 := hc2.z 15 (by show 15 < 36; decide)
  rw [show ({ x with left := vn } : Tx).flag = true from HXF.out] at d10
  clear hc2 g2 g10 g15 zg2 zg10 zg15 e0 E1 hFl hA1
  go_wp2_with fail
  go_end0
  exact ⟨rfl, hA2.cl.set (o := 15) (by show 15 < 36; decide) _, (K1.trans (k2.mono (fun _ _ e => e.elim))).setA _ _⟩
end
end Go.Proofs.YtgjndhbfjofkeaaGreatDoor

namespace Go.Proofs.YtgjndhbfjofkeaaGreatDoor
open Go.RowKit
def clamp (n : Int) : Int := if 9223372036854775807 < n then 9223372036854775807 else if n < -9223372036854775808 then -9223372036854775808 else n
theorem clamp_hi {n : Int} (h : 9223372036854775807 ≤ n) : (9223372036854775807 : Int) = clamp n := by unfold clamp; split <;> omega
theorem clamp_lo {n : Int} (h : n ≤ -9223372036854775808) : (-9223372036854775808 : Int) = clamp n := by unfold clamp; split <;> omega
theorem clamp_in {n m : Int} (e : m = n) (h1 : -9223372036854775808 ≤ n) (h2 : n ≤ 9223372036854775807) : m = clamp n := by unfold clamp; rw [if_neg (by omega), if_neg (by omega), e]
def mag (a : Int) : Int := (a.natAbs : Int)
def Prod128 (hi lo x y : Int) : Prop := hi * 18446744073709551616 + lo = x * y ∧ 0 ≤ hi ∧ 0 ≤ lo ∧ lo < 18446744073709551616
end Go.Proofs.YtgjndhbfjofkeaaGreatDoor

namespace Go.Proofs.YtgjndhbfjofkeaaGreatDoor
open Go.ChangeShapes Go.WideShapes Go.ChangeAt Go.RowKit
theorem satAdd_any (a b : Int) (ha : In64 a) (hb : In64 b) (w : World) :
    Calls Tryz.prog 209 #[.int .i64 a, .int .i64 b] w fun e w' => e = .returned (.int .i64 (clamp (a + b))) ∧ w' = w := by
  obtain ⟨h1, h2⟩ := ha
  obtain ⟨h3, h4⟩ := hb
  by_cases c1 : 0 < a
  · by_cases c2 : 9223372036854775807 - a < b
    · rw [← clamp_hi (show 9223372036854775807 ≤ a + b by omega)]
      go_enter Tryz.func209, Tryz.ntmps209
      go_wp2
      go_ret
      exact ⟨rfl, rfl⟩
    · rw [← clamp_in rfl (show -9223372036854775808 ≤ a + b by omega) (by omega)]
      go_enter Tryz.func209, Tryz.ntmps209
      go_wp2
      go_ret
      exact ⟨rfl, rfl⟩
  · by_cases c3 : a < 0
    · by_cases c2 : b < -9223372036854775808 - a
      · rw [← clamp_lo (show a + b ≤ -9223372036854775808 by omega)]
        go_enter Tryz.func209, Tryz.ntmps209
        go_wp2
        go_ret
        exact ⟨rfl, rfl⟩
      · rw [← clamp_in rfl (show -9223372036854775808 ≤ a + b by omega) (by omega)]
        go_enter Tryz.func209, Tryz.ntmps209
        go_wp2
        go_ret
        exact ⟨rfl, rfl⟩
    · rw [← clamp_in rfl (show -9223372036854775808 ≤ a + b by omega) (by omega)]
      go_enter Tryz.func209, Tryz.ntmps209
      go_wp2
      go_ret
      exact ⟨rfl, rfl⟩
end Go.Proofs.YtgjndhbfjofkeaaGreatDoor

namespace Go.Proofs.YtgjndhbfjofkeaaGreatDoor.CM
open Go.RowKit
structure Cf where
  mine : Int
  theirs : Int
  born : Int
  enemy : Int
  flag : Bool
  tries : Int
  waited : Int
  draw : Int
structure Vd where
  a : Bool
  t : Bool
  n : Int
  deriving DecidableEq
def cfv (c : Cf) : Value := .agg #[.int .i64 c.mine, .int .i64 c.theirs, .int .i64 c.born, .int .i64 c.enemy, .bool c.flag, .int .i64 c.tries, .int .i64 c.waited, .int .i64 c.draw]
def vdv (v : Vd) : Value := .agg #[.bool v.a, .bool v.t, .int .i64 v.n]
def Cf.ok (c : Cf) : Prop := In64 c.mine ∧ In64 c.theirs ∧ In64 c.born ∧ In64 c.enemy ∧ In64 c.tries ∧ In64 c.waited ∧ In64 c.draw
def Cf.norm (c : Cf) : Cf := { c with tries := max c.tries 0, waited := max c.waited 0 }
def Vd.ab : Vd := ⟨true, false, 0⟩
def Vd.out : Vd := ⟨true, true, 0⟩
def Vd.wt (n : Int) : Vd := ⟨false, false, n⟩
def lowz (n : Nat) (d : Int) : Int := d % 2 ^ n
def cutv (p n waited : Int) : Vd := if p - waited < 1 then .out else .wt (min n (p - waited))
def outr (c : Cf) : Bool := decide (c.theirs < clamp (c.mine + c.tries))
def judgev (k : Nat) (p : Int) (c : Cf) : Vd :=
  match k with
  | 0 => if 8 ≤ c.tries then .ab else cutv p (1 + lowz c.tries.toNat c.draw) c.waited
  | 1 => if outr c = true then .ab else cutv p 4 c.waited
  | 2 => if outr c = true then .ab else cutv p (1 + lowz (min c.tries 7).toNat c.draw) c.waited
  | 3 => if c.born < c.enemy ∨ c.flag = true then .ab else cutv p 4 c.waited
  | _ => if lowz 4 c.draw % 2 = 0 then .ab else .wt ((lowz 4 c.draw + 1) / 2 + if c.draw < 0 then 8 else 0)
theorem lowz_nn (n : Nat) (d : Int) : 0 ≤ lowz n d := Int.emod_nonneg _ (by have := Int.pow_pos (n := 2) (m := n) (by omega); omega)
theorem lowz_lt (n : Nat) (d : Int) : lowz n d < 2 ^ n := Int.emod_lt_of_pos _ (Int.pow_pos (by omega))
theorem pow_le7 {n : Nat} (h : n ≤ 7) : (2 : Int) ^ n ≤ 128 := by
  have e : ((2 ^ n : Nat) : Int) ≤ ((2 ^ 7 : Nat) : Int) := Int.ofNat_le.2 (Nat.pow_le_pow_right (by omega) h)
  simpa using e
theorem lowz_le7 {n : Nat} (h : n ≤ 7) (d : Int) : lowz n d < 128 := Int.lt_of_lt_of_le (lowz_lt n d) (pow_le7 h)
theorem low_and (n : Nat) (hn : n ≤ 62) (d : Int) : bits .and .i64 d (2 ^ n - 1) = lowz n d := by
  have h1 : (1 : Int) ≤ 2 ^ n := by have := Int.pow_pos (n := 2) (m := n) (by omega); omega
  have h2 : (2 : Int) ^ n ≤ 4611686018427387904 := by
    have e : ((2 ^ n : Nat) : Int) ≤ ((2 ^ 62 : Nat) : Int) := Int.ofNat_le.2 (Nat.pow_le_pow_right (by omega) hn)
    simpa using e
  have e1 : u (2 ^ n - 1) = 2 ^ n - 1 := by
    unfold u
    rw [Int.emod_eq_of_lt (by omega) (by omega)]
    have : ((2 ^ n : Nat) : Int) = 2 ^ n := by simp
    omega
  rw [and_i64, e1, Nat.and_two_pow_sub_one_eq_mod]
  have e2 : ((u d % 2 ^ n : Nat) : Int) = lowz n d := by
    unfold lowz u
    rw [Int.natCast_emod, Int.toNat_of_nonneg (Int.emod_nonneg _ (by omega))]
    have e3 : ((2 ^ n : Nat) : Int) = 2 ^ n := by simp
    rw [e3]
    refine Int.emod_emod_of_dvd _ ⟨2 ^ (64 - n), ?_⟩
    rw [← Int.pow_add, show n + (64 - n) = 64 by omega]
    decide
  rw [e2]
  exact wrap_id ⟨by have := lowz_nn n d; omega, by have := lowz_lt n d; omega⟩
end Go.Proofs.YtgjndhbfjofkeaaGreatDoor.CM

namespace Go.Proofs.YtgjndhbfjofkeaaGreatDoor.CM
open Go.RowKit
theorem results_cell1 {fn : Func} {p : Tmp} {ty : TypeId} (h : fn.results = #[.cell p ty]) (tmps : Array Value) (P : Program) (w : World) :
    (results fn tmps).run P w = ((asAddr (tmps.getD p undef)).run P w).andThen fun a w₁ => (loadVar ty a).run P w₁ := by
  simp only [results, h]
  simp [Sem.run_bind, Result.andThen]
structure R3 (w : World) (b : Nat) : Prop where
  c0 : w.cell? ⟨b, 0, none⟩ = some (.bool false)
  c1 : w.cell? ⟨b, 1, none⟩ = some (.bool false)
  c2 : w.cell? ⟨b, 2, none⟩ = some (.int .i64 0)
  z0 : w.frozen? ⟨b, 0, none⟩ = false
  z1 : w.frozen? ⟨b, 1, none⟩ = false
  z2 : w.frozen? ⟨b, 2, none⟩ = false
theorem R3.keep {w w' : World} {b : Nat} (h : R3 w b) (k : Keeps (fun _ => False) w w') : R3 w' b :=
  have hl := World.block_lt_of_cell? w _ h.c0
  ⟨k.cell h.c0 id, k.cell h.c1 id, k.cell h.c2 id, (k.frozen (p := ⟨b, 0, none⟩) hl id).trans h.z0, (k.frozen (p := ⟨b, 1, none⟩) hl id).trans h.z1, (k.frozen (p := ⟨b, 2, none⟩) hl id).trans h.z2⟩
theorem R3.mk1 (w : World) {b : Nat} (hb : w.heap.size = b) : R3 (w.alloc (.cells #[.bool false, .bool false, .int .i64 0] 233)) b := by
  subst hb
  refine ⟨?_, ?_, ?_, ?_, ?_, ?_⟩ <;> simp
theorem end3 {w w1 : World} {b : Nat} (k : Keeps (fun _ => False) w w1) (hb : w.heap.size ≤ b) (v0 v1 v2 : Value) : Keeps (fun _ => False) w (((w1.setCell ⟨b, 0, none⟩ v0).setCell ⟨b, 1, none⟩ v1).setCell ⟨b, 2, none⟩ v2) :=
  ((k.setCell (fun h => absurd hb (Nat.not_le.2 h)) _).setCell (fun h => absurd hb (Nat.not_le.2 h)) _).setCell (fun h => absurd hb (Nat.not_le.2 h)) _
theorem abort_any (w : World) : Calls Tryz.prog 175 #[] w fun e w' => e = .returned (.agg #[.bool true, .bool false, .int .i64 0]) ∧ Keeps (fun _ => False) w w' := by
  go_enter Tryz.func175, Tryz.ntmps175
  go_wp2
  refine bodyPost_ret (v := .agg #[.bool true, .bool false, .int .i64 0]) ?_ rfl ⟨rfl, (Keeps.refl _ w).alloc _⟩
  rw [results_cell1 rfl]
  go_simp
theorem wait_any (w : World) (n : Int) : Calls Tryz.prog 204 #[.int .i64 n] w fun e w' => e = .returned (.agg #[.bool false, .bool false, .int .i64 n]) ∧ Keeps (fun _ => False) w w' := by
  go_enter Tryz.func204, Tryz.ntmps204
  go_wp2
  refine bodyPost_ret (v := .agg #[.bool false, .bool false, .int .i64 n]) ?_ rfl ⟨rfl, (Keeps.refl _ w).alloc _⟩
  rw [results_cell1 rfl]
  go_simp
theorem low_any (w : World) (n : Nat) (hn : n ≤ 62) (d : Int) : Calls Tryz.prog 205 #[.int .i64 n, .int .i64 d] w fun e w' => e = .returned (.int .i64 (lowz n d)) ∧ w' = w := by
  have h1 : (1 : Int) ≤ 2 ^ n := by have := Int.pow_pos (n := 2) (m := n) (by omega); omega
  have h2 : (2 : Int) ^ n ≤ 4611686018427387904 := by
    have e : ((2 ^ n : Nat) : Int) ≤ ((2 ^ 62 : Nat) : Int) := Int.ofNat_le.2 (Nat.pow_le_pow_right (by omega) hn)
    simpa using e
  have hs : wrap64 (2 ^ n) = 2 ^ n := wrap_id ⟨by omega, by omega⟩
  have hs2 : wrap64 (2 ^ n - 1) = 2 ^ n - 1 := wrap_id ⟨by omega, by omega⟩
  have hl : Hid (_ = _) := low_and n hn d
  clear h1 h2
  go_enter Tryz.func205, Tryz.ntmps205
  go_wp2
  go_ret
  refine ⟨?_, rfl⟩
  rw [← hl.out]
  (try simp only [hs, hs2])
  rfl
theorem backOff_any (w : World) (n : Nat) (hn : n ≤ 7) (d : Int) : Calls Tryz.prog 203 #[.int .i64 n, .int .i64 d] w fun e w' => e = .returned (.int .i64 (1 + lowz n d)) ∧ w' = w := by
  have h1 := lowz_nn n d
  have h2 := lowz_le7 hn d
  have hl := low_any w n (by omega) d
  generalize lowz n d = L at *
  go_enter Tryz.func203, Tryz.ntmps203
  go_wp2_with (go_at_call 205; refine hl.mono ?_; rintro e w' ⟨rfl, rfl⟩)
  go_ret
  exact ⟨rfl, rfl⟩
theorem cut_any (w : World) (p n t : Int) (hp : 1 ≤ p ∧ p ≤ 4096) (ht : 0 ≤ t ∧ t ≤ 9223372036854775807) : Calls Tryz.prog 202 #[.agg #[.int .i64 p], .int .i64 n, .int .i64 t] w fun e w' => e = .returned (vdv (cutv p n t)) ∧ Keeps (fun _ => False) w w' := by
  obtain ⟨hp1, hp2⟩ := hp
  obtain ⟨ht1, ht2⟩ := ht
  by_cases h : p - t < 1
  · have e : cutv p n t = .out := if_pos h
    rw [e]
    clear e
    go_enter Tryz.func202, Tryz.ntmps202
    go_wp2
    refine bodyPost_ret (v := vdv .out) ?_ rfl ⟨rfl, ?_⟩
    · rw [results_cell1 rfl]
      go_simp
      rfl
    · exact ((Keeps.refl _ w).alloc _).alloc _
  · have e : cutv p n t = .wt (min n (p - t)) := if_neg h
    have r0 := R3.mk1 (w.alloc (Obj.cells #[.int .i64 p] 183)) (b := w.heap.size + 1) (by simp)
    by_cases hm : p - t < n
    · rw [e, show min n (p - t) = p - t by omega]
      clear e
      go_enter Tryz.func202, Tryz.ntmps202
      go_wp2_with (go_at_call 204; refine (wait_any _ _).mono ?_; rintro e w' ⟨rfl, k1⟩; obtain ⟨c0, c1, c2, z0, z1, z2⟩ := r0.keep k1; clear r0)
      refine bodyPost_ret (v := vdv (.wt (p - t))) ?_ rfl ⟨rfl, end3 ((((Keeps.refl _ w).alloc _).alloc _).trans k1) (by omega) _ _ _⟩
      rw [results_cell1 rfl]
      go_simp
      rfl
    · rw [e, show min n (p - t) = n by omega]
      clear e
      go_enter Tryz.func202, Tryz.ntmps202
      go_wp2_with (go_at_call 204; refine (wait_any _ _).mono ?_; rintro e w' ⟨rfl, k1⟩; obtain ⟨c0, c1, c2, z0, z1, z2⟩ := r0.keep k1; clear r0)
      refine bodyPost_ret (v := vdv (.wt n)) ?_ rfl ⟨rfl, end3 ((((Keeps.refl _ w).alloc _).alloc _).trans k1) (by omega) _ _ _⟩
      rw [results_cell1 rfl]
      go_simp
      rfl
theorem outranks_any (w : World) (c : Cf) (hc : c.ok) : Calls Tryz.prog 208 #[cfv c] w fun e w' => e = .returned (.bool (outr c)) ∧ Keeps (fun _ => False) w w' := by
  obtain ⟨mine, theirs, born, enemy, flag, tries, waited, draw⟩ := c
  have hs := fun W => satAdd_any mine tries hc.1 hc.2.2.2.2.1 W
  clear hc
  simp only [cfv, outr]
  generalize clamp (mine + tries) = C at *
  obtain ⟨w0, hw0⟩ : ∃ w0, w0 = w.alloc (.cells #[.int .i64 mine, .int .i64 theirs, .int .i64 born, .int .i64 enemy, .bool flag, .int .i64 tries, .int .i64 waited, .int .i64 draw] 229) := ⟨_, rfl⟩
  have K0 : Keeps (fun _ => False) w w0 := by rw [hw0]; exact (Keeps.refl _ w).alloc _
  have d0 := ks_cell (show w0.cell? ⟨w.heap.size, 0, none⟩ = some (.int .i64 mine) by rw [hw0]; simp)
  have d1 := ks_cell (show w0.cell? ⟨w.heap.size, 1, none⟩ = some (.int .i64 theirs) by rw [hw0]; simp)
  have d5 := ks_cell (show w0.cell? ⟨w.heap.size, 5, none⟩ = some (.int .i64 tries) by rw [hw0]; simp)
  have hNE : Nonempty (KS w0) := ⟨⟨w0, Keeps.refl _ w0⟩⟩
  go_enter Tryz.func208, Tryz.ntmps208
  go_wp2_with fail
  rw [← hw0]
  clear hw0
  refine wp_region_ks (by kernel_rfl) (by kernel_rfl) ?_
  repeat (go_big_quiet_step ((go_at_call 209; refine (hs _).mono ?_; rintro e w2 ⟨rfl, rfl⟩; exact ⟨rfl, _, rfl⟩)))
  refine wpQuiet_nil ?_
  rintro _ ⟨U, rfl⟩
  go_wp2_with fail
  go_ret
  exact ⟨rfl, K0.trans U.property⟩
end Go.Proofs.YtgjndhbfjofkeaaGreatDoor.CM

