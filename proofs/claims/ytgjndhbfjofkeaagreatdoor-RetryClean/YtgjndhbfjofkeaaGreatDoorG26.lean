import Derived.Test.YtgjndhbfjofkeaaGreatDoorG24
import Derived.Test.YtgjndhbfjofkeaaGreatDoorG25
namespace Go.Proofs.YtgjndhbfjofkeaaGreatDoor
open Go.RowKit
attribute [local go_sem] Oper.semAt_some run_store_nf run_store_f
section
variable {w w' : World} {ρ ρ' ρ'' : Nat → Nat} {u j : Nat} {c : Sc} {ab rb n n' : Nat} {x x' : Tx} {f f' : Int → Option Nat} {s s' : Ws} {m m' : Mm} {r r' : Ro}
set_option maxHeartbeats 400000 in
set_option maxRecDepth 1000000 in
theorem downC_ok (hI : Inv s m) (hno1 : 1 ≤ x.no) (hno : x.no < s.atts.length) (hfr : m.free = true) (hlog : (m.log.length + 1) * 56 ≤ 140737488355328) {g : Nat} (hgo : x.goOn = some g) (hcf : ∀ (args : Array Value) (w : World), (callFunc g args).run Tryz.prog w = .ok (.enter g args) w) {x9 : Tx}
    (hk : ∀ W, CT W c ab ({ x with flag := false, enemy := -1 } : Tx) → Calls Tryz.prog g #[.pointer (some ⟨ab, 0, none⟩)] W fun e w' => e = .returned (.tuple #[]) ∧ CL w' ab (x9.cells c ab) ∧ Keeps (fun k => k = ab) W w') :
    Goes 172 u j c ab ρ x x9 n n f f s s m (m.swap (s.att x.no).flag 1 0) ((({ x.blank with kind := 11 } : Ro).vs x).acc (m.swap (s.att x.no).flag 1 0).took) := by
  intro W rb hA hR
  have HG : Hid (x.goOn = some g) := hgo
  clear hgo
  have hmf : ∀ (fn : Fn) (first cap : Array Value) (w : World), (Instr.makeFunc fn first cap).run Tryz.prog w = .ok (.func fn first cap) w := fun _ _ _ _ => rfl
  have hq := hR.cl
  have r5 := hq.c 5 _ rfl
  have zr5 := hq.z 5 (by show 5 < 26; decide)
  have hR1 : RX (W.setCell ⟨rb, 5, none⟩ (.int .i64 11)) ρ c ab rb { x.blank with kind := 11 } := hR.set1 (o := 5) (by decide) _ rfl
  have hA1 := hA.setR hR 5 (.int .i64 11)
  have fr1 := (Fr.refl (OwnR c ab rb) u j W ρ).setR 5 (.int .i64 11)
  have hag := against_any hA1 hR1
  clear hq
  go_enter Tryz.func172, Tryz.ntmps172
  go_wp2_with fail
  clear r5 zr5
  generalize W.setCell ⟨rb, 5, none⟩ (.int .i64 11) = W1 at *
  refine hag.mono ?_
  rintro e W2 ⟨rfl, hA2, hR2, fr2⟩
  replace hA2 := hA2.new (Keeps.refl _ W2).drew
  replace hR2 := hR2.new (Keeps.refl _ W2).drew
  have fr3 := (fr1.tr fr2).kN (Keeps.refl _ W2).drew
  have hS := down_ok hA2.st hI.wf hno1 hno hfr hlog
  generalize decide ((ca m.cells (s.att x.no).flag).2 = 1) = dd at hS
  have hc := hA2.cl
  have f1 := hc.c 1 _ rfl
  have f7 := hc.c 7 _ rfl
  clear hc hag fr2 fr1
  go_wp2_with fail
  go_region_held3 (fun w' => w'.cell? ⟨ab, 1, none⟩ = some (.pointer (some ⟨c.wb, 0, none⟩)) ∧ w'.cell? ⟨ab, 7, none⟩ = some (.int .i64 (x.no : Int))) (go_keep) (first | (go_at_call 180; refine hS.mono ?_; clear hS; rintro e W3 ⟨rfl, ρ3, s3, x3⟩; have hA3 := hA2.run s3 x3; have hR3 := hR2.run (Sr.not0 hA2.st) x3; have fr4 := fr3.ex x3; have hc3 := hA3.cl; have g1 := hc3.c 1 _ rfl; have g7 := hc3.c 7 _ rfl) | (go_at_call 117; refine (must_bool _ _).mono ?_; rintro e W4 ⟨rfl, rfl⟩))
  clear g1 g7 hc3 hA2 hR2 fr3 s3 x3 f1 f7
  have hT := atook hA3 hR3 (had_swap m _ _ _) (by rw [log_swap]; omega)
  go_wp2_with fail
  refine hT.mono ?_
  rintro e W8 ⟨rfl, hA8, hR8, k8⟩
  have fr8 := fr4.kR k8
  have hc := hA8.cl
  have f10 := hc.c 10 _ rfl
  have zf10 := hc.z 10 (by show 10 < 36; decide)
  have f35 := hc.c 35 _ rfl
  have zf35 := hc.z 35 (by show 35 < 36; decide)
  rw [HG.out] at f35
  simp only [fnv] at f35
  have hA9 : AX (W8.setCell ⟨ab, 10, none⟩ (.bool false)) ρ3 u j c ab { x with flag := false } n f s (m.swap (s.att x.no).flag 1 0) := hA8.set1 (o := 10) (by decide) _ rfl
  have hR9 := hR8.setA 10 (.bool false)
  have fr9 := fr8.setA 10 (.bool false)
  have hP := part_free_ok hA9.cl rfl hcf (Q := fun W' => CL W' ab (x9.cells c ab) ∧ Keeps (fun k => k = ab) (W8.setCell ⟨ab, 10, none⟩ (.bool false)) W') (fun W hW kW => (hk W (hA9.ct.self kW hW)).mono (fun e W' ⟨h1, h2, h3⟩ => ⟨h1, h2, kW.trans h3⟩))
  clear hT hc hk
  go_wp2_with fail
  clear f10 zf10 f35 zf35
  generalize W8.setCell ⟨ab, 10, none⟩ (.bool false) = W9 at *
  refine hP.mono ?_
  rintro e W10 ⟨rfl, hc10, k10⟩
  clear hP
  go_wp2_with fail
  go_end0
  exact ⟨rfl, ρ3, hA9.self k10 hc10, hR9.far k10 hR.n1.symm, fr9.kA k10⟩
set_option maxHeartbeats 400000 in
set_option maxRecDepth 1000000 in
theorem downC_no (hI : Inv s m) (hno1 : 1 ≤ x.no) (hno : x.no < s.atts.length) (hfr : m.free = true) (hlog : (m.log.length + 1) * 56 ≤ 140737488355328) {g : Nat} (hgo : x.goOn = some g) (hcf : ∀ (args : Array Value) (w : World), (callFunc g args).run Tryz.prog w = .ok (.enter g args) w) {x9 : Tx} (w : World)
    (hk : ∀ W, CT W c ab ({ x with flag := false, enemy := -1 } : Tx) → Calls Tryz.prog g #[.pointer (some ⟨ab, 0, none⟩)] W fun e w' => e = stale4 ∧ CL w' ab (x9.cells c ab) ∧ Keeps (fun k => k = ab) W w') :
    FailsK w 172 4 u j c ab ρ x x9 n n f f s s m (m.swap (s.att x.no).flag 1 0) ((({ x.blank with kind := 11 } : Ro).vs x).acc (m.swap (s.att x.no).flag 1 0).took) := by
  intro W rb _ _ hA hR
  have HG : Hid (x.goOn = some g) := hgo
  clear hgo
  have hmf : ∀ (fn : Fn) (first cap : Array Value) (w : World), (Instr.makeFunc fn first cap).run Tryz.prog w = .ok (.func fn first cap) w := fun _ _ _ _ => rfl
  have hq := hR.cl
  have r5 := hq.c 5 _ rfl
  have zr5 := hq.z 5 (by show 5 < 26; decide)
  have hR1 : RX (W.setCell ⟨rb, 5, none⟩ (.int .i64 11)) ρ c ab rb { x.blank with kind := 11 } := hR.set1 (o := 5) (by decide) _ rfl
  have hA1 := hA.setR hR 5 (.int .i64 11)
  have fr1 := (Fr.refl (OwnR c ab rb) u j W ρ).setR 5 (.int .i64 11)
  have hag := against_any hA1 hR1
  clear hq
  go_enter Tryz.func172, Tryz.ntmps172
  go_wp2_with fail
  clear r5 zr5
  generalize W.setCell ⟨rb, 5, none⟩ (.int .i64 11) = W1 at *
  refine hag.mono ?_
  rintro e W2 ⟨rfl, hA2, hR2, fr2⟩
  replace hA2 := hA2.new (Keeps.refl _ W2).drew
  replace hR2 := hR2.new (Keeps.refl _ W2).drew
  have fr3 := (fr1.tr fr2).kN (Keeps.refl _ W2).drew
  have hS := down_ok hA2.st hI.wf hno1 hno hfr hlog
  generalize decide ((ca m.cells (s.att x.no).flag).2 = 1) = dd at hS
  have hc := hA2.cl
  have f1 := hc.c 1 _ rfl
  have f7 := hc.c 7 _ rfl
  clear hc hag fr2 fr1
  go_wp2_with fail
  go_region_held3 (fun w' => w'.cell? ⟨ab, 1, none⟩ = some (.pointer (some ⟨c.wb, 0, none⟩)) ∧ w'.cell? ⟨ab, 7, none⟩ = some (.int .i64 (x.no : Int))) (go_keep) (first | (go_at_call 180; refine hS.mono ?_; clear hS; rintro e W3 ⟨rfl, ρ3, s3, x3⟩; have hA3 := hA2.run s3 x3; have hR3 := hR2.run (Sr.not0 hA2.st) x3; have fr4 := fr3.ex x3; have hc3 := hA3.cl; have g1 := hc3.c 1 _ rfl; have g7 := hc3.c 7 _ rfl) | (go_at_call 117; refine (must_bool _ _).mono ?_; rintro e W4 ⟨rfl, rfl⟩))
  clear g1 g7 hc3 hA2 hR2 fr3 s3 x3 f1 f7
  have hT := atook hA3 hR3 (had_swap m _ _ _) (by rw [log_swap]; omega)
  go_wp2_with fail
  refine hT.mono ?_
  rintro e W8 ⟨rfl, hA8, hR8, k8⟩
  have fr8 := fr4.kR k8
  have hc := hA8.cl
  have f10 := hc.c 10 _ rfl
  have zf10 := hc.z 10 (by show 10 < 36; decide)
  have f35 := hc.c 35 _ rfl
  have zf35 := hc.z 35 (by show 35 < 36; decide)
  rw [HG.out] at f35
  simp only [fnv] at f35
  have hA9 : AX (W8.setCell ⟨ab, 10, none⟩ (.bool false)) ρ3 u j c ab { x with flag := false } n f s (m.swap (s.att x.no).flag 1 0) := hA8.set1 (o := 10) (by decide) _ rfl
  have hR9 := hR8.setA 10 (.bool false)
  have fr9 := fr8.setA 10 (.bool false)
  have hP := part_free_no hA9.cl rfl hcf (Q := fun W' => CL W' ab (x9.cells c ab) ∧ Keeps (fun k => k = ab) (W8.setCell ⟨ab, 10, none⟩ (.bool false)) W') (fun W hW kW => (hk W (hA9.ct.self kW hW)).mono (fun e W' ⟨h1, h2, h3⟩ => ⟨h1, h2, kW.trans h3⟩))
  clear hT hc hk
  go_wp2_with fail
  clear f10 zf10 f35 zf35
  generalize W8.setCell ⟨ab, 10, none⟩ (.bool false) = W9 at *
  refine hP.mono ?_
  rintro e W10 ⟨rfl, hc10, k10⟩
  exact ⟨rfl, rfl, ρ3, hA9.self k10 hc10, hR9.far k10 hR.n1.symm, fr9.kA k10⟩
inductive Gn | again | fd (d : Fd)
def Gn.no : Gn → Nat
  | .again => 182
  | .fd d => d.no
def Tx.gn (x : Tx) (rs : List Rd) : Gn → Out
  | .again => .ok { x with nx := some 108 }
  | .fd d => x.fd rs d
set_option maxRecDepth 1000000 in
theorem Gn.call (g : Gn) : ∀ (args : Array Value) (w : World), (callFunc g.no args).run Tryz.prog w = .ok (.enter g.no args) w := by
  cases g with
  | again => exact fun _ _ => rfl
  | fd d => exact Fd.call d
theorem gn_any (h : CT w c ab x) (ho : I64 x.object) {p : Nat} (hp : x.place = (p : Int)) (hp2 : p < 1000000000000) (g : Gn) :
    Calls Tryz.prog g.no #[.pointer (some ⟨ab, 0, none⟩)] w fun e w' => e = (x.gn c.rs g).en ∧ CL w' ab ((x.gn c.rs g).tx.cells c ab) ∧ Keeps (fun k => k = ab) w w' := by
  cases g with
  | again => exact again_any h.cl
  | fd d => exact fd_any h ho hp hp2 d
theorem downG_ok (hI : Inv s m) (hno1 : 1 ≤ x.no) (hno : x.no < s.atts.length) (hfr : m.free = true) (hlog : (m.log.length + 1) * 56 ≤ 140737488355328) (g : Gn) (hgo : x.goOn = some g.no) (ho : I64 x.object) {p : Nat} (hp : x.place = (p : Int)) (hp2 : p < 1000000000000) (hO : ({ x with flag := false, enemy := -1 } : Tx).gn c.rs g = .ok x') :
    Goes 172 u j c ab ρ x x' n n f f s s m (m.swap (s.att x.no).flag 1 0) ((({ x.blank with kind := 11 } : Ro).vs x).acc (m.swap (s.att x.no).flag 1 0).took) :=
  downC_ok hI hno1 hno hfr hlog hgo (Gn.call g) (fun W hW => by
    have := gn_any hW ho hp hp2 g
    rw [hO] at this
    exact this)
theorem down_stale (hI : Inv s m) (hno1 : 1 ≤ x.no) (hno : x.no < s.atts.length) (hfr : m.free = true) (hlog : (m.log.length + 1) * 56 ≤ 140737488355328) (g : Gn) (hgo : x.goOn = some g.no) (ho : I64 x.object) {p : Nat} (hp : x.place = (p : Int)) (hp2 : p < 1000000000000) (hO : ({ x with flag := false, enemy := -1 } : Tx).gn c.rs g = .no x') (w : World) :
    FailsK w 172 4 u j c ab ρ x x' n n f f s s m (m.swap (s.att x.no).flag 1 0) ((({ x.blank with kind := 11 } : Ro).vs x).acc (m.swap (s.att x.no).flag 1 0).took) :=
  downC_no hI hno1 hno hfr hlog hgo (Gn.call g) w (fun W hW => by
    have := gn_any hW ho hp hp2 g
    rw [hO] at this
    exact this)
end
end Go.Proofs.YtgjndhbfjofkeaaGreatDoor

namespace Go.Proofs.YtgjndhbfjofkeaaGreatDoor
open Go.RowKit
structure SR (kd : Nat) (x : Tx) (f : Int → Option Nat) (s : Ws) (m : Mm) (r : Ro) (x' : Tx) (f' : Int → Option Nat) (m' : Mm) : Prop where
  no : x'.no = x.no ∧ x'.thread = x.thread ∧ x'.stamp = x.stamp ∧ x'.prio = x.prio
  rw_ : r.thread = x.thread ∧ r.no = x.no
  k12 : r.kind ≠ 1 ∧ r.kind ≠ 2
  rk : (r.kind = 14 ∧ kpT kd = true ∧ x.rank < 255 ∧ x'.rank = x.rank + 1 ∧ ∃ q : Nat, x.prio = (q : Int) ∧ r.seen = m.val q ∧ m'.val q = wrap64 (m.val q + 1)) ∨ (r.kind ≠ 14 ∧ x'.rank = x.rank)
  fi : (r.fin = 0 ∧ x'.alive = true) ∨ (x'.alive = false ∧ 1 ≤ r.fin ∧ r.fin ≤ 5)
  ow : (r.kind = 13 ∧ r.done = true ∧ ∃ o l : Nat, r.object = (o : Int) ∧ o < s.objs.length ∧ f' = upd f r.object (some l)) ∨ (¬ (r.kind = 13 ∧ r.done = true) ∧ f' = f)
structure PO (kd t : Nat) (x : Tx) (rs : List Rd) (n : Nat) (f : Int → Option Nat) (s : Ws) (m : Mm) (r : Ro) (x' : Tx) (rs' : List Rd) (n' : Nat) (f' : Int → Option Nat) (s' : Ws) (m' : Mm) : Prop where
  pv : Pv s' m'
  gx : Gx kd (t + 1) x' rs' f' s' m'
  gw : Grw x.no (fun q => r.kind = 14 ∧ x.prio = (q : Int)) s m s' m'
  sr : SR kd x f s m r x' f' m'
  ln : s'.locs.length ≤ s.locs.length + 1 ∧ rs'.length ≤ rs.length + 1 ∧ n' ≤ n + 1 ∧ m'.log.length ≤ m.log.length + 1 ∧ m'.cells.length = m.cells.length ∧ s'.atts.length = s.atts.length
def Stp (m m' : Mm) : Prop := m'.step = m.step ∧ m'.begun = m.begun
theorem stp_swap (m : Mm) (c : Nat) (a b : Int) : Stp m (m.swap c a b) := by unfold Stp Mm.swap; first | exact ⟨rfl, rfl⟩ | (split <;> exact ⟨rfl, rfl⟩)
def SO (w : World) (ρ : Nat → Nat) (u j : Nat) (c : Sc) (ab g nd : Nat) (xs : Nat → Int) (kd t : Nat) (x : Tx) (n : Nat) (f : Int → Option Nat) (s : Ws) (m : Mm) (e : Ending) (w' : World) : Prop :=
  ∃ r x' rs' n' f' s' m' kr ρ' c', e = .returned (.tuple #[.agg r.cells.toArray, .int .i64 0]) ∧ Res w w' ρ ρ' u j c c' ab x' rs' n' f' s' m' (fun q => Own c ab q ∨ q = c.db) ∧ IsDr w' c.db g nd xs kr ∧ Stp m m' ∧ PO kd t x c.rs n f s m r x' rs' n' f' s' m'
section
variable {w w' : World} {ρ ρ' ρ'' : Nat → Nat} {u j : Nat} {c : Sc} {ab rb n n' : Nat} {x x' : Tx} {f f' : Int → Option Nat} {s s' : Ws} {m m' : Mm} {r r' : Ro} {g nd kr kd t : Nat} {xs : Nat → Int} {rs rs' : List Rd}
theorem DX.out (hD : DX w ρ c ab g nd xs kr) (S0 : ¬ Sr u j 0) (fr : Fr (Own c ab) u j w w' ρ ρ') : IsDr w' c.db g nd xs kr :=
  hD.dr.keep fr.keeps (fun e => e.elim (fun e => S0 (by rw [hD.r1.1] at e; exact e)) (fun e => e.elim hD.r1.2.1 hD.r1.2.2)) (fun e => e.elim (fun e => S0 (by rw [hD.r2.1] at e; exact e)) (fun e => e.elim hD.r2.2.1 hD.r2.2.2))
theorem fin_k (hA : AX w ρ u j c ab x n f s m) (hD : DX w ρ c ab g nd xs kr) (ha : x.alive = true) {k : Nat} (hk : x.nx = some k) (hcf : ∀ (args : Array Value) (w : World), (callFunc k args).run Tryz.prog w = .ok (.enter k args) w) (hg : GoesK w k u j c ab ρ x x' rs' n n' f f' s s' m m' r') (po : PO kd t x c.rs n f s m r' x' rs' n' f' s' m') (hsp : Stp m m' := by first | exact ⟨rfl, rfl⟩ | exact stp_swap _ _ _ _) :
    Calls Tryz.prog 77 #[.pointer (some ⟨ab, 0, none⟩)] w fun e w' => SO w ρ u j c ab g nd xs kd t x n f s m e w' :=
  (step_goes hA ha hk hcf hg).mono (fun _ _ ⟨h1, ρ', c', h2⟩ => ⟨r', x', rs', n', f', s', m', kr, ρ', c', h1, ⟨h2.sam, h2.ax, h2.fr.mono (fun _ _ e => .inl e), h2.bk⟩, hD.out (Sr.not0 hA.st) h2.fr, hsp, po⟩)
theorem fin_f (hA : AX w ρ u j c ab x n f s m) (hD : DX w ρ c ab g nd xs kr) (ha : x.alive = true) {k : Nat} (hk : x.nx = some k) (hcf : ∀ (args : Array Value) (w : World), (callFunc k args).run Tryz.prog w = .ok (.enter k args) w) {kk : Int} {x1 : Tx} {r1 : Ro} (hF : Fails kk x1 x' r1 r') (hg : FailsK w k kk u j c ab ρ x x1 n n' f f' s s' m m' r1) (po : PO kd t x c.rs n f s m r' x' c.rs n' f' s' m') (hsp : Stp m m' := by first | exact ⟨rfl, rfl⟩ | exact stp_swap _ _ _ _) :
    Calls Tryz.prog 77 #[.pointer (some ⟨ab, 0, none⟩)] w fun e w' => SO w ρ u j c ab g nd xs kd t x n f s m e w' :=
  (step_fails hA ha hk hcf hF hg).mono (fun _ _ ⟨h1, ρ', h2, h3⟩ => ⟨r', x', c.rs, n', f', s', m', kr, ρ', c, h1, ⟨Sam.refl c, h2, h3.mono (fun _ _ e => .inl e), fun _ e => .inl e⟩, hD.out (Sr.not0 hA.st) h3, hsp, po⟩)
theorem SR.plain {k : Int} (hS : Sm x x') (h1 : r.thread = x.thread) (h2 : r.no = x.no) (hk : r.kind = k) (hk' : k ≠ 1 ∧ k ≠ 2 ∧ k ≠ 13 ∧ k ≠ 14) (hf : r.fin = 0) (ha : x.alive = true) : SR kd x f s m r x' f m' :=
  ⟨⟨hS.no, hS.th, hS.st, hS.pr⟩, ⟨h1, h2⟩, by omega, .inr ⟨by omega, hS.rk⟩, .inl ⟨hf, hS.al.trans ha⟩, .inr ⟨fun e => by omega, rfl⟩⟩
theorem SR.ends {k : Int} (h1 : r.thread = x.thread) (h2 : r.no = x.no) (hk : r.kind = k) (hk' : k ≠ 1 ∧ k ≠ 2 ∧ k ≠ 13 ∧ k ≠ 14) (hf : 1 ≤ r.fin ∧ r.fin ≤ 5) : SR kd x f s m r x.over f m' :=
  ⟨⟨rfl, rfl, rfl, rfl⟩, ⟨h1, h2⟩, by omega, .inr ⟨by omega, rfl⟩, .inr ⟨rfl, hf⟩, .inr ⟨fun e => by omega, rfl⟩⟩
theorem Gx.over (hG : Gc x.no x.thread x.stamp x.prio x.rank rs f s) : Gx kd t x.over rs f s m := ⟨hG, fun h => (by cases h), ⟨Int.le_refl _, Int.natCast_nonneg _, Int.le_refl _, Int.natCast_nonneg _⟩, fun _ h => (by cases h)⟩
theorem Gx.thru (hG : Gc x.no x.thread x.stamp x.prio x.rank rs f s) (hl : x.alive = true → m.val (s.att x.no).status ≠ 2) : Gx kd t x.thru rs f s m := ⟨hG, hl, ⟨Int.le_refl _, Int.natCast_nonneg _, Int.le_refl _, Int.natCast_nonneg _⟩, fun _ _ h => by cases h⟩
theorem Gx.stale (h : Gx kd t x rs f s m) : Gx kd t x.stale rs f s m := ⟨h.gc, h.lv, h.nm, fun k _ hk => by cases hk; exact .quit (.inr rfl)⟩
theorem Ob.i64 (h : Ob x s) (hI : Inv s m) : I64 x.object := by obtain ⟨o, e, ho⟩ := h; have := hI.no; rw [e]; constructor <;> omega
theorem Pu.i64 {d : Fd} (h : Pu x rs f s d) (hI : Inv s m) : I64 x.object := by
  cases d with
  | rd => exact h.2.1.i64 hI
  | wr => exact h.2.1.i64 hI
  | ck => exact h.ob.i64 hI
  | fi => rw [h.2]; constructor <;> omega
theorem hld_set {q : Nat} {y : Rd} (hg : Gd rs) (hq : rs[q]? = some y) (hy : y.fate = 1) {o : Int} {k : Nat} (hk : k ≠ 1) (h : hld (rs.set q (y.to k)) o) : hld rs o ∧ o ≠ y.ob := by
  obtain ⟨j, r, h1, h2, h3⟩ := h
  by_cases e : q = j
  · subst e
    rw [List.getElem?_set_self (List.getElem?_eq_some_iff.1 hq).1] at h1
    cases h1
    exact absurd h2 hk
  · rw [List.getElem?_set_ne e] at h1
    exact ⟨⟨j, r, h1, h2, h3⟩, fun e2 => e (hg.one q j y r hq h1 hy h2 (by rw [h3, e2]))⟩
theorem rd_set {q : Nat} {y : Rd} (hq : rs[q]? = some y) {k : Nat} {P : Rd → Prop} (h : ∀ r ∈ rs, P r) (hy : P y → P (y.to k)) : ∀ r ∈ rs.set q (y.to k), P r := fun r hr => by
  rcases List.mem_or_eq_of_mem_set hr with e | e
  · exact h r e
  · rw [e]; exact hy (h y (List.mem_of_getElem? hq))
end
end Go.Proofs.YtgjndhbfjofkeaaGreatDoor

namespace Go.Proofs.YtgjndhbfjofkeaaGreatDoor
open Go.RowKit
section
variable {w w' : World} {ρ ρ' ρ'' : Nat → Nat} {u j : Nat} {c : Sc} {ab rb n n' : Nat} {x x' : Tx} {f f' : Int → Option Nat} {s s' : Ws} {m m' : Mm} {r r' : Ro} {g nd kr kd t : Nat} {xs : Nat → Int} {rs rs' : List Rd} {p : Int}
theorem wLk {d : Fd} (h : Lk x rs f s d) (h0 : x'.found = x.found) (h1 : x'.phase = x.phase) (h2 : x'.object = x.object) (h3 : x'.base = x.base) (h4 : x'.made = x.made) (h5 : x'.aob = x.aob) (h6 : x'.place = x.place) : Lk x' rs f s d :=
  ⟨h0.trans h.fd, by rw [h5]; exact h.ob, by rw [h6]; exact h.pl, h.pu.cg h1 h2 h3 h4⟩
theorem po_load {k : Int} (hP : Pv s m) (hG : Gx kd t x rs f s m) (ha : x.alive = true) (cc : Nat) (hS : Sm x x') (hN : Nx_ kd x' rs f s m) (h1 : r.thread = x.thread) (h2 : r.no = x.no) (hk : r.kind = k) (hk' : k ≠ 1 ∧ k ≠ 2 ∧ k ≠ 13 ∧ k ≠ 14) (hf : r.fin = 0) :
    PO kd t x rs n f s m r x' rs n f s (m.load cc) := by
  obtain ⟨p1, p2⟩ := hP.load cc x.no (fun q => r.kind = 14 ∧ x.prio = (q : Int))
  have hG1 : Gx kd t x' rs f s m := Gx.next hG.gc hG.nm hG.lv hN hS
  refine ⟨p1, ⟨hG1.gc, fun h => ?_, by have := hG1.nm; omega, fun k h hk => (hG1.bz k h hk).grw hP.inv p2⟩, p2, SR.plain hS h1 h2 hk hk' hf ha, ?_⟩
  · rw [m.val_load]; exact hG1.lv h
  · refine ⟨by omega, by omega, by omega, by rw [log_load]; exact Nat.le_refl _, m.len_load cc, rfl⟩
theorem ends_load {k : Int} (hP : Pv s m) (hG : Gx kd t x rs f s m) (cc : Nat) (h1 : r.thread = x.thread) (h2 : r.no = x.no) (hk : r.kind = k) (hk' : k ≠ 1 ∧ k ≠ 2 ∧ k ≠ 13 ∧ k ≠ 14) (hf : 1 ≤ r.fin ∧ r.fin ≤ 5) : PO kd t x rs n f s m r x.over rs n f s (m.load cc) := by
  obtain ⟨p1, p2⟩ := hP.load cc x.no (fun q => r.kind = 14 ∧ x.prio = (q : Int))
  exact ⟨p1, Gx.over hG.gc, p2, SR.ends h1 h2 hk hk' hf, by omega, by omega, by omega, by rw [log_load]; exact Nat.le_refl _, m.len_load cc, rfl⟩
theorem sm_trans {x1 x2 : Tx} (h : Sm x x1) (k : Sm x1 x2) : Sm x x2 := ⟨k.no.trans h.no, k.th.trans h.th, k.st.trans h.st, k.pr.trans h.pr, k.rk.trans h.rk, k.al.trans h.al, k.tr.elim (fun e => h.tr.imp e.trans e.trans) .inr, k.wa.elim (fun e => h.wa.imp e.trans e.trans) .inr⟩
theorem po_gen {k : Int} (hP : Pv s m) (hG : Gx kd t x rs f s m) (ha : x.alive = true) (p1 : Pv s' m') (p2 : Grw x.no (fun q => r.kind = 14 ∧ x.prio = (q : Int)) s m s' m') (hS : Sm x x') (hN : Nx_ kd x' rs f s m) (h1 : r.thread = x.thread) (h2 : r.no = x.no) (hk : r.kind = k) (hk' : k ≠ 1 ∧ k ≠ 2 ∧ k ≠ 13 ∧ k ≠ 14) (hf : r.fin = 0)
    (hlv : m.val (s.att x.no).status ≠ 2 → m'.val (s.att x.no).status ≠ 2) (hln : s'.locs.length ≤ s.locs.length + 1 ∧ m'.log.length ≤ m.log.length + 1 ∧ m'.cells.length = m.cells.length ∧ s'.atts.length = s.atts.length) :
    PO kd t x rs n f s m r x' rs n f s' m' := by
  have hG1 : Gx kd t x' rs f s m := Gx.next hG.gc hG.nm hG.lv hN hS
  refine ⟨p1, ⟨hG1.gc.grw p2, fun h => ?_, by have := hG1.nm; omega, fun k h hk => (hG1.bz k h hk).grw hP.inv p2⟩, p2, SR.plain hS h1 h2 hk hk' hf ha, by omega, by omega, by omega, by omega, by omega, by omega⟩
  rw [p2.at_ _ hG1.gc.no, hS.no]
  exact hlv (hG.lv ha)
theorem ends_gen {k : Int} (hG : Gx kd t x rs f s m) (p1 : Pv s' m') (p2 : Grw x.no (fun q => r.kind = 14 ∧ x.prio = (q : Int)) s m s' m') (h1 : r.thread = x.thread) (h2 : r.no = x.no) (hk : r.kind = k) (hk' : k ≠ 1 ∧ k ≠ 2 ∧ k ≠ 13 ∧ k ≠ 14) (hf : 1 ≤ r.fin ∧ r.fin ≤ 5)
    (hln : s'.locs.length ≤ s.locs.length + 1 ∧ m'.log.length ≤ m.log.length + 1 ∧ m'.cells.length = m.cells.length ∧ s'.atts.length = s.atts.length) : PO kd t x rs n f s m r x.over rs n f s' m' :=
  ⟨p1, Gx.over (hG.gc.grw p2), p2, SR.ends h1 h2 hk hk' hf, by omega, by omega, by omega, by omega, by omega, by omega⟩
set_option maxRecDepth 1000000 in
theorem step_point (hA : AX w ρ u j c ab x n f s m) (hD : DX w ρ c ab g nd xs kr) (hP : Pv s m) (hG : Gx kd t x c.rs f s m) (ha : x.alive = true) (hk : x.nx = some 108) (hfr : m.free = true) (hlog : (m.log.length + 1) * 56 ≤ 140737488355328) {d : Fd} (h : Lk x c.rs f s d) (he : x.enemy = -1 ∨ En_ x s) :
    Calls Tryz.prog 77 #[.pointer (some ⟨ab, 0, none⟩)] w fun e w' => SO w ρ u j c ab g nd xs kd t x n f s m e w' := by
  obtain ⟨o, ho, hoi⟩ := h.ob
  obtain ⟨l, hl, hll, _⟩ := hP.inv.at_ o hoi
  refine fin_k hA hD ha hk (fun _ _ => rfl) ((point_goes hP.inv.wf ho hoi hfr hlog).k w) (po_load (k := 5) hP hG ha _ ⟨rfl, rfl, rfl, rfl, rfl, rfl, .inl rfl, .inl rfl⟩ ⟨_, rfl, .see d (wLk h rfl rfl rfl rfl rfl rfl rfl) he ⟨l, hl, hll⟩⟩ rfl rfl rfl (by decide) rfl)
theorem saw_sw (hP : Pv s m) {l : Nat} (hl : x.loc = (l : Int)) (hi : l < s.locs.length) {sv : Int} (h2 : m.val (s.att (s.lo l).owner).status = sv) : Sw (x.saw s l sv) s m := by
  refine ⟨⟨l, hl, hi⟩, ?_, fun e => ?_⟩
  · show ∃ b : Nat, s.cur l sv = (b : Int) ∧ _
    unfold Ws.cur
    split
    · rename_i e
      refine ⟨(s.lo l).new, rfl, by rw [(hP.inv.lo l hi).1]; exact hi, ?_⟩
      rw [(hP.inv.lo l hi).1, h2, e]
    · exact ⟨(s.lo l).old, rfl, (hP.inv.lo l hi).2.1, hP.inv.old l hi⟩
  · refine ⟨(s.lo l).owner, rfl, ?_, (hP.inv.lo l hi).2.2⟩
    have e1 : sv = 1 := e
    have h0 := hP.inv.gen
    rcases Nat.eq_zero_or_pos (s.lo l).owner with e0 | e0
    · rw [e0] at h2; omega
    · exact e0
set_option maxRecDepth 1000000 in
theorem step_see (hA : AX w ρ u j c ab x n f s m) (hD : DX w ρ c ab g nd xs kr) (hP : Pv s m) (hG : Gx kd t x c.rs f s m) (ha : x.alive = true) (hk : x.nx = some 131) (hfr : m.free = true) (hlog : (m.log.length + 1) * 56 ≤ 140737488355328) (hrs : c.rs.length ≤ 1000000) {d : Fd} (h : Lk x c.rs f s d) (he : x.enemy = -1 ∨ En_ x s) (hl : ∃ l : Nat, x.loc = (l : Int) ∧ l < s.locs.length) :
    Calls Tryz.prog 77 #[.pointer (some ⟨ab, 0, none⟩)] w fun e w' => SO w ρ u j c ab g nd xs kd t x n f s m e w' := by
  obtain ⟨l, hl, hi⟩ := hl
  obtain ⟨p, hp, hp2⟩ := h.pl
  have h3 := hP.st3 _ (hP.inv.lo l hi).2.2
  have hS := saw_sw hP hl hi rfl
  have hL : Lk (x.saw s l (m.val (s.att (s.lo l).owner).status)) c.rs f s d := wLk h rfl rfl rfl rfl rfl rfl rfl
  have hE : (x.saw s l (m.val (s.att (s.lo l).owner).status)).enemy = -1 ∨ En_ (x.saw s l (m.val (s.att (s.lo l).owner).status)) s := he
  have hsm : Sm x (x.saw s l (m.val (s.att (s.lo l).owner).status)) := ⟨rfl, rfl, rfl, rfl, rfl, rfl, .inl rfl, .inl rfl⟩
  obtain ⟨q1, q2⟩ := sn_nx (kd := kd) (m := m) hG.gc hL hS hE
  cases hO : (x.saw s l (m.val (s.att (s.lo l).owner).status)).sn c.rs d with
  | ok x1 =>
    obtain ⟨r1, r2⟩ := q1 x1 hO
    exact fin_k hA hD ha hk (fun _ _ => rfl) ((see_ok hP.inv.wf hl hi hfr hlog rfl h3 h.fd (h.pu.i64 hP.inv) hp (by omega) hO).k w) (po_load (k := 6) hP hG ha _ (sm_trans hsm r2) r1 rfl rfl rfl (by decide) rfl)
  | no x1 =>
    have hs1 : Sm x x1.stale := by
      rcases q2 x1 hO with rfl | rfl <;> exact ⟨rfl, rfl, rfl, rfl, rfl, rfl, .inl rfl, .inl rfl⟩
    exact fin_f hA hD ha hk (fun _ _ => rfl) (x' := x1.stale) (r' := x.seeRow s m l) ⟨.inl ⟨rfl, rfl, rfl⟩⟩ (see_no hP.inv.wf hl hi hfr hlog rfl h3 h.fd (h.pu.i64 hP.inv) hp (by omega) hO w) (po_load (k := 6) hP hG ha _ hs1 ⟨_, rfl, .quit (.inr rfl)⟩ rfl rfl rfl (by decide) rfl)
set_option maxRecDepth 1000000 in
theorem step_stand (hA : AX w ρ u j c ab x n f s m) (hD : DX w ρ c ab g nd xs kr) (hP : Pv s m) (hG : Gx kd t x c.rs f s m) (ha : x.alive = true) (hk : x.nx = some 132) (hfr : m.free = true) (hlog : (m.log.length + 1) * 56 ≤ 140737488355328) {d : Fd} (h : Lk x c.rs f s d) (he : En_ x s) :
    Calls Tryz.prog 77 #[.pointer (some ⟨ab, 0, none⟩)] w fun e w' => SO w ρ u j c ab g nd xs kd t x n f s m e w' := by
  by_cases h1 : m.val (s.att x.no).status = 1
  · exact fin_k hA hD ha hk (fun _ _ => rfl) ((stand_goes hP.inv hG.gc.no hfr hlog h1).k w) (po_load (k := 7) hP hG ha _ ⟨rfl, rfl, rfl, rfl, rfl, rfl, .inl rfl, .inl rfl⟩ ⟨_, rfl, .judge d (wLk h rfl rfl rfl rfl rfl rfl rfl) he⟩ rfl rfl rfl (by decide) rfl)
  · exact fin_f hA hD ha hk (fun _ _ => rfl) (x' := x.over) ⟨.inr ⟨rfl, rfl, rfl⟩⟩ (stand_killed hP.inv hG.gc.no hfr hlog rfl (bne_t h1) w) (ends_load (k := 7) hP hG _ rfl rfl rfl (by decide) (show (1 : Int) ≤ 5 ∧ (5 : Int) ≤ 5 by decide))
end
end Go.Proofs.YtgjndhbfjofkeaaGreatDoor

namespace Go.Proofs.YtgjndhbfjofkeaaGreatDoor
open Go.RowKit
section
variable {w w' : World} {ρ ρ' ρ'' : Nat → Nat} {u j : Nat} {c : Sc} {ab rb n n' : Nat} {x x' : Tx} {f f' : Int → Option Nat} {s s' : Ws} {m m' : Mm} {r r' : Ro} {g nd kr kd t : Nat} {xs : Nat → Int} {rs rs' : List Rd} {p : Int}
theorem in01 : In64 0 ∧ In64 1 := by unfold In64; omega
set_option maxRecDepth 1000000 in
theorem step_kill (hA : AX w ρ u j c ab x n f s m) (hD : DX w ρ c ab g nd xs kr) (hP : Pv s m) (hG : Gx kd t x c.rs f s m) (ha : x.alive = true) (hk : x.nx = some 176) (hfr : m.free = true) (hlog : (m.log.length + 1) * 56 ≤ 140737488355328) {d : Fd} (h : Lk x c.rs f s d) (he : En_ x s) :
    Calls Tryz.prog 77 #[.pointer (some ⟨ab, 0, none⟩)] w fun e w' => SO w ρ u j c ab g nd xs kd t x n f s m e w' := by
  obtain ⟨en, hen, h1, h2⟩ := he
  have hlv : m.val (s.att x.no).status ≠ 2 → (m.swap (s.att en).status 1 3).val (s.att x.no).status ≠ 2 := fun e => by
    rw [m.val_swap]; split
    · omega
    · exact e
  have hln := And.intro (show s.locs.length ≤ s.locs.length + 1 by omega) (And.intro (show (m.swap (s.att en).status 1 3).log.length ≤ m.log.length + 1 by rw [log_swap]; exact Nat.le_refl _) (And.intro (m.len_swap (s.att en).status 1 3) (rfl : s.atts.length = s.atts.length)))
  cases hfl : x.flag with
  | false =>
    obtain ⟨p1, p2⟩ := hP.stat h2 (sv := 3) (.inr rfl) x.no (fun q => (12 : Int) = 14 ∧ x.prio = (q : Int)) (fun e => by omega)
    exact fin_k hA hD ha hk (fun _ _ => rfl) ((kill_goes hP.inv hen h1 h2 hfl hfr hlog).k w) (po_gen (k := 12) hP hG ha p1 p2 ⟨rfl, rfl, rfl, rfl, rfl, rfl, .inl rfl, .inl rfl⟩ ⟨_, rfl, .point d (wLk h rfl rfl rfl rfl rfl rfl rfl) (.inl rfl)⟩ rfl rfl rfl (by decide) rfl hlv hln)
  | true =>
    obtain ⟨p1, p2⟩ := hP.stat h2 (sv := 3) (.inr rfl) x.no (fun q => (12 : Int) = 14 ∧ x.prio = (q : Int)) (fun e => by omega)
    exact fin_k hA hD ha hk (fun _ _ => rfl) ((kill_flag hP.inv hen h1 h2 hfl hfr hlog).k w) (po_gen (k := 12) hP hG ha p1 p2 ⟨rfl, rfl, rfl, rfl, rfl, rfl, .inl rfl, .inl rfl⟩ ⟨_, rfl, .down d (wLk h rfl rfl rfl rfl rfl rfl rfl) (.inl rfl)⟩ rfl rfl rfl (by decide) rfl hlv hln)
theorem flag_lv (hP : Pv s m) {N i : Nat} (hN : N < s.atts.length) (hi : i < s.atts.length) (a b : Int) : m.val (s.att N).status ≠ 2 → (m.swap (s.att i).flag a b).val (s.att N).status ≠ 2 := fun e => by
  rw [m.val_swap, if_neg (fun q => (hP.inv.kinj hN hi).2.1 q.1)]; exact e
theorem flag_ln (i : Nat) (a b : Int) : s.locs.length ≤ s.locs.length + 1 ∧ (m.swap (s.att i).flag a b).log.length ≤ m.log.length + 1 ∧ (m.swap (s.att i).flag a b).cells.length = m.cells.length ∧ s.atts.length = s.atts.length := ⟨by omega, by rw [log_swap]; exact Nat.le_refl _, m.len_swap _ _ _, rfl⟩
set_option maxRecDepth 1000000 in
theorem step_up (hA : AX w ρ u j c ab x n f s m) (hD : DX w ρ c ab g nd xs kr) (hP : Pv s m) (hG : Gx kd t x c.rs f s m) (ha : x.alive = true) (hk : x.nx = some 178) (hfr : m.free = true) (hlog : (m.log.length + 1) * 56 ≤ 140737488355328) {d : Fd} (h : Lk x c.rs f s d) (he : En_ x s) (hl : 1 ≤ x.left ∧ x.left ≤ 4096) :
    Calls Tryz.prog 77 #[.pointer (some ⟨ab, 0, none⟩)] w fun e w' => SO w ρ u j c ab g nd xs kd t x n f s m e w' := by
  obtain ⟨p1, p2⟩ := hP.flag hG.gc.no (a := 0) (b := 1) in01.2 x.no (fun q => (9 : Int) = 14 ∧ x.prio = (q : Int))
  exact fin_k hA hD ha hk (fun _ _ => rfl) ((up_goes hP.inv hG.gc.no1 hG.gc.no hfr hlog).k w) (po_gen (k := 9) hP hG ha p1 p2 ⟨rfl, rfl, rfl, rfl, rfl, rfl, .inl rfl, .inl rfl⟩ ⟨_, rfl, .wait d (wLk h rfl rfl rfl rfl rfl rfl rfl) he hl⟩ rfl rfl rfl (by decide) rfl (flag_lv hP hG.gc.no hG.gc.no 0 1) (flag_ln _ 0 1))
set_option maxRecDepth 1000000 in
theorem step_wait (hA : AX w ρ u j c ab x n f s m) (hD : DX w ρ c ab g nd xs kr) (hP : Pv s m) (hG : Gx kd t x c.rs f s m) (ha : x.alive = true) (hk : x.nx = some 179) (ht : t ≤ 1000000) {d : Fd} (h : Lk x c.rs f s d) (he : En_ x s) (hl : 1 ≤ x.left ∧ x.left ≤ 4096) :
    Calls Tryz.prog 77 #[.pointer (some ⟨ab, 0, none⟩)] w fun e w' => SO w ρ u j c ab g nd xs kd t x n f s m e w' := by
  obtain ⟨p1, p2⟩ := hP.same (m' := m) rfl (fun _ => rfl) x.no (fun q => (10 : Int) = 14 ∧ x.prio = (q : Int))
  have hn := hG.nm
  by_cases h2 : 2 ≤ x.left
  · refine fin_k hA hD ha hk (fun _ _ => rfl) ((wait_goes h2 hl.2 hn.2.2.1 (by omega)).k w) ⟨p1, ⟨hG.gc, hG.lv, ?_, fun k _ hk' => ?_⟩, p2, ⟨⟨rfl, rfl, rfl, rfl⟩, ⟨rfl, rfl⟩, (show (10 : Int) ≠ 1 ∧ (10 : Int) ≠ 2 by decide), .inr ⟨(show (10 : Int) ≠ 14 by decide), rfl⟩, .inl ⟨rfl, ha⟩, .inr ⟨fun e => absurd (show (10 : Int) = 13 from e.1) (by decide), rfl⟩⟩, by omega, by omega, by omega, by omega, rfl, rfl⟩
    · show 0 ≤ x.tries ∧ x.tries ≤ ((t + 1 : Nat) : Int) ∧ 0 ≤ x.waited + 1 ∧ x.waited + 1 ≤ ((t + 1 : Nat) : Int)
      omega
    · have e : some 179 = some k := hk.symm.trans hk'
      cases e
      exact .wait d (wLk h rfl rfl rfl rfl rfl rfl rfl) he (show 1 ≤ x.left - 1 ∧ x.left - 1 ≤ 4096 by omega)
  · refine fin_k hA hD ha hk (fun _ _ => rfl) ((wait_last (by omega) hn.2.2.1 (by omega)).k w) ⟨p1, ⟨hG.gc, hG.lv, ?_, fun k _ hk' => ?_⟩, p2, ⟨⟨rfl, rfl, rfl, rfl⟩, ⟨rfl, rfl⟩, (show (10 : Int) ≠ 1 ∧ (10 : Int) ≠ 2 by decide), .inr ⟨(show (10 : Int) ≠ 14 by decide), rfl⟩, .inl ⟨rfl, ha⟩, .inr ⟨fun e => absurd (show (10 : Int) = 13 from e.1) (by decide), rfl⟩⟩, by omega, by omega, by omega, by omega, rfl, rfl⟩
    · show 0 ≤ x.tries ∧ x.tries ≤ ((t + 1 : Nat) : Int) ∧ 0 ≤ x.waited + 1 ∧ x.waited + 1 ≤ ((t + 1 : Nat) : Int)
      omega
    · cases hk'
      exact .point d (wLk h rfl rfl rfl rfl rfl rfl rfl) (.inr he)
set_option maxRecDepth 1000000 in
theorem step_down (hA : AX w ρ u j c ab x n f s m) (hD : DX w ρ c ab g nd xs kr) (hP : Pv s m) (hG : Gx kd t x c.rs f s m) (ha : x.alive = true) (hk : x.nx = some 172) (hfr : m.free = true) (hlog : (m.log.length + 1) * 56 ≤ 140737488355328) (hrs : c.rs.length ≤ 1000000) {d : Fd} (h : Lk x c.rs f s d) (hg : x.goOn = some 182 ∨ (x.goOn = some d.no ∧ Sw x s m)) :
    Calls Tryz.prog 77 #[.pointer (some ⟨ab, 0, none⟩)] w fun e w' => SO w ρ u j c ab g nd xs kd t x n f s m e w' := by
  obtain ⟨p1, p2⟩ := hP.flag hG.gc.no (a := 1) (b := 0) in01.1 x.no (fun q => (11 : Int) = 14 ∧ x.prio = (q : Int))
  obtain ⟨pp, hp, hp2⟩ := h.pl
  have hi := h.pu.i64 hP.inv
  have hL : Lk ({ x with flag := false, enemy := -1 } : Tx) c.rs f s d := wLk h rfl rfl rfl rfl rfl rfl rfl
  have hsm : Sm x ({ x with flag := false, enemy := -1 } : Tx) := ⟨rfl, rfl, rfl, rfl, rfl, rfl, .inl rfl, .inl rfl⟩
  rcases hg with hg | ⟨hg, hS⟩
  · exact fin_k hA hD ha hk (fun _ _ => rfl) ((downG_ok hP.inv hG.gc.no1 hG.gc.no hfr hlog .again hg hi hp (by omega) rfl).k w) (po_gen (k := 11) hP hG ha p1 p2 ⟨rfl, rfl, rfl, rfl, rfl, rfl, .inl rfl, .inl rfl⟩ ⟨_, rfl, .point d (wLk h rfl rfl rfl rfl rfl rfl rfl) (.inl rfl)⟩ rfl rfl rfl (by decide) rfl (flag_lv hP hG.gc.no hG.gc.no 1 0) (flag_ln _ 1 0))
  · obtain ⟨q1, q2⟩ := fd_nx (kd := kd) (m := m) hG.gc hL ⟨hS.lc, hS.cu, hS.ho⟩ (.inl rfl)
    cases hO : ({ x with flag := false, enemy := -1 } : Tx).fd c.rs d with
    | ok x1 =>
      obtain ⟨r1, r2⟩ := q1 x1 hO
      exact fin_k hA hD ha hk (fun _ _ => rfl) ((downG_ok hP.inv hG.gc.no1 hG.gc.no hfr hlog (.fd d) hg hi hp (by omega) hO).k w) (po_gen (k := 11) hP hG ha p1 p2 (sm_trans hsm r2) r1 rfl rfl rfl (by decide) rfl (flag_lv hP hG.gc.no hG.gc.no 1 0) (flag_ln _ 1 0))
    | no x1 =>
      obtain rfl := q2 x1 hO
      exact fin_f hA hD ha hk (fun _ _ => rfl) ⟨.inl ⟨rfl, rfl, rfl⟩⟩ (down_stale hP.inv hG.gc.no1 hG.gc.no hfr hlog (.fd d) hg hi hp (by omega) hO w) (po_gen (k := 11) hP hG ha p1 p2 ⟨rfl, rfl, rfl, rfl, rfl, rfl, .inl rfl, .inl rfl⟩ ⟨_, rfl, .quit (.inr rfl)⟩ rfl rfl rfl (by decide) rfl (flag_lv hP hG.gc.no hG.gc.no 1 0) (flag_ln _ 1 0))
theorem stat_ln (i : Nat) (a b : Int) : s.locs.length ≤ s.locs.length + 1 ∧ (m.swap (s.att i).status a b).log.length ≤ m.log.length + 1 ∧ (m.swap (s.att i).status a b).cells.length = m.cells.length ∧ s.atts.length = s.atts.length := ⟨by omega, by rw [log_swap]; exact Nat.le_refl _, m.len_swap _ _ _, rfl⟩
set_option maxRecDepth 1000000 in
theorem step_commit (hA : AX w ρ u j c ab x n f s m) (hD : DX w ρ c ab g nd xs kr) (hP : Pv s m) (hG : Gx kd t x c.rs f s m) (ha : x.alive = true) (hk : x.nx = some 93) (hfr : m.free = true) (hlog : (m.log.length + 1) * 56 ≤ 140737488355328) :
    Calls Tryz.prog 77 #[.pointer (some ⟨ab, 0, none⟩)] w fun e w' => SO w ρ u j c ab g nd xs kd t x n f s m e w' := by
  obtain ⟨p1, p2⟩ := hP.stat hG.gc.no (sv := 2) (.inl rfl) x.no (fun q => (15 : Int) = 14 ∧ x.prio = (q : Int)) (fun _ => rfl)
  by_cases h1 : m.val (s.att x.no).status = 1
  · exact fin_k hA hD ha hk (fun _ _ => rfl) ((commit_goes hP.inv hG.gc.no1 hG.gc.no hfr hlog h1).k w) (ends_gen (k := 15) hG p1 p2 rfl rfl rfl (by decide) (show (1 : Int) ≤ 1 ∧ (1 : Int) ≤ 5 by decide) (stat_ln _ 1 2))
  · exact fin_k hA hD ha hk (fun _ _ => rfl) ((commit_lost hP.inv hG.gc.no1 hG.gc.no hfr hlog rfl h1).k w) (ends_gen (k := 15) hG p1 p2 rfl rfl rfl (by decide) (show (1 : Int) ≤ 5 ∧ (5 : Int) ≤ 5 by decide) (stat_ln _ 1 2))
set_option maxRecDepth 1000000 in
theorem step_quit (hA : AX w ρ u j c ab x n f s m) (hD : DX w ρ c ab g nd xs kr) (hP : Pv s m) (hG : Gx kd t x c.rs f s m) (ha : x.alive = true) (hk : x.nx = some 114) (hfr : m.free = true) (hlog : (m.log.length + 1) * 56 ≤ 140737488355328) (hw : x.why = 2 ∨ x.why = 4) :
    Calls Tryz.prog 77 #[.pointer (some ⟨ab, 0, none⟩)] w fun e w' => SO w ρ u j c ab g nd xs kd t x n f s m e w' := by
  obtain ⟨p1, p2⟩ := hP.stat hG.gc.no (sv := 3) (.inr rfl) x.no (fun q => (16 : Int) = 14 ∧ x.prio = (q : Int)) (fun e => by omega)
  by_cases h1 : m.val (s.att x.no).status = 1
  · exact fin_k hA hD ha hk (fun _ _ => rfl) ((quit_won hP.inv hG.gc.no1 hG.gc.no hfr hlog h1).k w) (ends_gen (k := 16) hG p1 p2 rfl rfl rfl (by decide) (show 1 ≤ x.why ∧ x.why ≤ 5 by omega) (stat_ln _ 1 3))
  · rcases hw with hw | hw
    · exact fin_k hA hD ha hk (fun _ _ => rfl) ((quit_lost hP.inv hG.gc.no1 hG.gc.no hfr hlog (by rw [hw]; rfl) rfl h1).k w) (ends_gen (k := 16) hG p1 p2 rfl rfl rfl (by decide) (show (1 : Int) ≤ 5 ∧ (5 : Int) ≤ 5 by decide) (stat_ln _ 1 3))
    · exact fin_k hA hD ha hk (fun _ _ => rfl) ((quit_stale hP.inv hG.gc.no1 hG.gc.no hfr hlog hw rfl h1).k w) (ends_gen (k := 16) hG p1 p2 rfl rfl rfl (by decide) (show (1 : Int) ≤ 4 ∧ (4 : Int) ≤ 5 by decide) (stat_ln _ 1 3))
end
end Go.Proofs.YtgjndhbfjofkeaaGreatDoor

namespace Go.Proofs.YtgjndhbfjofkeaaGreatDoor
open Go.RowKit
section
variable {w w' : World} {ρ ρ' ρ'' : Nat → Nat} {u j : Nat} {c : Sc} {ab rb n n' : Nat} {x x' : Tx} {f f' : Int → Option Nat} {s s' : Ws} {m m' : Mm} {r r' : Ro} {g nd kr kd t : Nat} {xs : Nat → Int} {rs rs' : List Rd} {p : Int}
theorem took_swap (m : Mm) (hb : m.begun = true) (c : Nat) (a b : Int) : (m.swap c a b).took.done = decide (m.val c = a) := by
  unfold Mm.took
  rw [if_neg (by simp [Mm.swap, Mm.take, hb])]
  simp [Mm.swap, Mm.take, ra, Mm.row, List.getD_eq_getElem?_getD, Mm.val]
  exact decide_eq_decide.2 Iff.rfl
theorem took_bump (m : Mm) (hb : m.begun = true) (c : Nat) : (m.bump c).took.seen = m.val c := by
  unfold Mm.took
  rw [if_neg (by simp [Mm.bump, Mm.take, hb])]
  simp [Mm.bump, Mm.take, ra, Mm.row, List.getD_eq_getElem?_getD, Mm.val]
theorem acq_ln {a b o l : Nat} {bb : Bool} : ((s.lay a b (s.vl b)).use s.locs.length bb).locs.length ≤ s.locs.length + 1 ∧ (m.swap (s.ob o) (l : Int) (s.locs.length : Int)).log.length ≤ m.log.length + 1 ∧ (m.swap (s.ob o) (l : Int) (s.locs.length : Int)).cells.length = m.cells.length ∧ ((s.lay a b (s.vl b)).use s.locs.length bb).atts.length = s.atts.length := by
  refine ⟨?_, by rw [log_swap]; exact Nat.le_refl _, m.len_swap _ _ _, rfl⟩
  simp [Ws.use, Ws.lay]
set_option maxRecDepth 1000000 in
set_option maxHeartbeats 800000 in
theorem step_acquire (hA : AX w ρ u j c ab x n f s m) (hD : DX w ρ c ab g nd xs kr) (hP : Pv s m) (hG : Gx kd t x c.rs f s m) (ha : x.alive = true) (hk : x.nx = some 135) (hfr : m.free = true) (hbg : m.begun = true) (hlog : (m.log.length + 1) * 56 ≤ 140737488355328) (hrs : c.rs.length ≤ 1000000) (hn : n ≤ 1000000) (hroom : s.locs.length < 16384) (h : Lk x c.rs f s .wr) (hen9 : x.enemy = -1 ∨ En_ x s) (hl : ∃ l : Nat, x.loc = (l : Int) ∧ l < s.locs.length) (hb : ∃ b : Nat, x.base = (b : Int) ∧ b < s.locs.length ∧ m.val (s.att (s.lo b).owner).status = 2) :
    Calls Tryz.prog 77 #[.pointer (some ⟨ab, 0, none⟩)] w fun e w' => SO w ρ u j c ab g nd xs kd t x n f s m e w' := by
  obtain ⟨l, hl, hli⟩ := hl
  obtain ⟨b, hb, hbi, hbc⟩ := hb
  obtain ⟨hph, ⟨o, ho, hoi⟩, hfo, hmd⟩ := h.pu
  have hi := h.pu.i64 hP.inv
  have hC : s.isC m (s.lo b).owner = true := isC_iff.2 hbc
  have hnc : s.isC m x.no = false := isC_not.2 (hG.lv ha)
  have h64 : In64 (s.locs.length : Int) := by unfold In64; omega
  obtain ⟨p1, p2⟩ := hP.acq (l := l) hG.gc.no hbi hC hroom hoi h64 x.no (fun q => (13 : Int) = 14 ∧ x.prio = (q : Int))
  have hlv : m.val (s.att x.no).status ≠ 2 → (m.swap (s.ob o) (l : Int) (s.locs.length : Int)).val (s.att x.no).status ≠ 2 := fun e => by
    rw [m.val_swap, if_neg (fun q => ((hP.inv.kinj hG.gc.no hG.gc.no).2.2 o hoi).1 q.1)]; exact e
  by_cases hw : m.val (s.ob o) = (l : Int)
  · rw [show decide (m.val (s.ob o) = (l : Int)) = true from decide_eq_true hw] at p1 p2
    have hdn : (m.swap (s.ob o) (l : Int) (s.locs.length : Int)).took.done = true := by rw [took_swap m hbg]; exact decide_eq_true hw
    have hlo := lay_lo s x.no b (s.vl b)
    have hu : ((s.lay x.no b (s.vl b)).use s.locs.length true).lo s.locs.length = { (s.lay x.no b (s.vl b)).lo s.locs.length with used := true } := by
      have := lo_use (s := s.lay x.no b (s.vl b)) (y := s.locs.length) (i := s.locs.length) (b := true)
      rw [if_pos ⟨rfl, by simp [Ws.lay]⟩] at this
      exact this
    have hll : ((s.lay x.no b (s.vl b)).use s.locs.length true).locs.length = s.locs.length + 1 := by simp [Ws.use, Ws.lay]
    have hfo' : ∀ o' l', upd f x.object (some s.locs.length) o' = some l' → l' < ((s.lay x.no b (s.vl b)).use s.locs.length true).locs.length ∧ (((s.lay x.no b (s.vl b)).use s.locs.length true).lo l').owner = x.no := fun o' l' e => by
      unfold upd at e
      split at e
      · cases e
        rw [hll, hu, hlo]
        exact ⟨by omega, rfl⟩
      · exact (hG.gc.grw p2).fo o' l' e
    have hsr : ∀ x1 : Tx, Sm x x1 → SR kd x f s m (({ x.blank with kind := 13, object := x.object } : Ro).acc (m.swap (s.ob o) (l : Int) (s.locs.length : Int)).took) x1 (upd f x.object (some s.locs.length)) (m.swap (s.ob o) (l : Int) (s.locs.length : Int)) := fun x1 hS =>
      ⟨⟨hS.no, hS.th, hS.st, hS.pr⟩, ⟨rfl, rfl⟩, (show (13 : Int) ≠ 1 ∧ (13 : Int) ≠ 2 by decide), .inr ⟨(show (13 : Int) ≠ 14 by decide), hS.rk⟩, .inl ⟨rfl, hS.al.trans ha⟩, .inl ⟨rfl, hdn, o, s.locs.length, ho, hoi, rfl⟩⟩
    have hln := acq_ln (s := s) (m := m) (a := x.no) (b := b) (o := o) (l := l) (bb := true)
    by_cases hh : hld c.rs x.object
    · obtain ⟨q, y, hq, hy, hyo⟩ := hh
      have hgc : Gc x.no x.thread x.stamp x.prio x.rank (c.rs.set q (y.to 3)) (upd f x.object (some s.locs.length)) ((s.lay x.no b (s.vl b)).use s.locs.length true) :=
        ⟨hG.gc.no1, hG.gc.no, hG.gc.at_, hG.gc.rk, rd_set hq (hG.gc.grw p2).rd id, hfo', fun o' e hh' => by
          obtain ⟨h1, h2⟩ := hld_set hA.tt.gd hq hy (by decide) hh'
          unfold upd at e
          split at e
          · rename_i e1; exact h2 (e1.trans hyo.symm)
          · exact hG.gc.sp o' e h1⟩
      have hMi : Mi ({ x with made := (s.locs.length : Int), entry := (q : Int) } : Tx) (c.rs.set q (y.to 3)) (upd f x.object (some s.locs.length)) ((s.lay x.no b (s.vl b)).use s.locs.length true) := ⟨⟨o, ho, hoi⟩, ⟨b, hb, by rw [hll]; omega⟩, .inr hph⟩
      obtain ⟨r1, r2⟩ := ck_nx (kd := kd) (m := m.swap (s.ob o) (l : Int) (s.locs.length : Int)) hgc hMi (hen9.imp id (fun e => e.grw p2)) 0
      exact fin_k hA hD ha hk (fun _ _ => rfl) (acq_up hP.inv ho hoi hl hli hb hbi hC hG.gc.no1 hG.gc.no hmd hroom hnc hw hfr hlog hi hfo (by omega) hq hy hyo (by omega) w) ⟨p1, (Gx.next (x := { x with made := (s.locs.length : Int), entry := (q : Int) }) (t := t) hgc hG.nm (fun h => hlv (hG.lv h)) r1 r2).later (by omega), p2, hsr _ ⟨r2.no, r2.th, r2.st, r2.pr, r2.rk, r2.al, r2.tr, r2.wa⟩, hln.1, by simp, by omega, hln.2.1, hln.2.2.1, hln.2.2.2⟩
    · have hgc : Gc x.no x.thread x.stamp x.prio x.rank c.rs (upd f x.object (some s.locs.length)) ((s.lay x.no b (s.vl b)).use s.locs.length true) :=
        ⟨hG.gc.no1, hG.gc.no, hG.gc.at_, hG.gc.rk, (hG.gc.grw p2).rd, hfo', fun o' e hh' => by
          unfold upd at e
          split at e
          · rename_i e1; exact hh (e1 ▸ hh')
          · exact hG.gc.sp o' e hh'⟩
      have hMi : Mi ({ x with made := (s.locs.length : Int) } : Tx) c.rs (upd f x.object (some s.locs.length)) ((s.lay x.no b (s.vl b)).use s.locs.length true) := ⟨⟨o, ho, hoi⟩, ⟨b, hb, by rw [hll]; omega⟩, .inr hph⟩
      obtain ⟨r1, r2⟩ := ck_nx (kd := kd) (m := m.swap (s.ob o) (l : Int) (s.locs.length : Int)) hgc hMi (hen9.imp id (fun e => e.grw p2)) 0
      exact fin_k hA hD ha hk (fun _ _ => rfl) (acq_no hP.inv ho hoi hl hli hb hbi hC hG.gc.no1 hG.gc.no hmd hroom hnc hw hfr hlog hi hfo (by omega) hh w) ⟨p1, (Gx.next (x := { x with made := (s.locs.length : Int) }) (t := t) hgc hG.nm (fun h => hlv (hG.lv h)) r1 r2).later (by omega), p2, hsr _ ⟨r2.no, r2.th, r2.st, r2.pr, r2.rk, r2.al, r2.tr, r2.wa⟩, hln.1, by omega, by omega, hln.2.1, hln.2.2.1, hln.2.2.2⟩
  · rw [show decide (m.val (s.ob o) = (l : Int)) = false from decide_eq_false hw] at p1 p2
    have hdn : ¬ ((13 : Int) = 13 ∧ (m.swap (s.ob o) (l : Int) (s.locs.length : Int)).took.done = true) := fun e => by rw [took_swap m hbg] at e; exact hw (of_decide_eq_true e.2)
    have hln := acq_ln (s := s) (m := m) (a := x.no) (b := b) (o := o) (l := l) (bb := false)
    have hLk : Lk (({ x with made := 0 } : Tx).opn 111) c.rs f s .wr := ⟨rfl, ⟨o, ho, hoi⟩, ⟨0, rfl, by omega⟩, ⟨hph, ⟨o, ho, hoi⟩, hfo, rfl⟩⟩
    have hN : Nx_ kd (({ x with made := 0 } : Tx).opn 111) c.rs f s m := ⟨_, rfl, .point .wr hLk hen9⟩
    have hG1 := Gx.next (x' := ({ x with made := 0 } : Tx).opn 111) hG.gc hG.nm hG.lv hN ⟨rfl, rfl, rfl, rfl, rfl, rfl, .inl rfl, .inl rfl⟩
    exact fin_k hA hD ha hk (fun _ _ => rfl) ((acq_lost hP.inv ho hoi hl hli hb hbi hC hG.gc.no1 hG.gc.no hmd hroom hnc hw hfr hlog).k w) ⟨p1, ⟨hG1.gc.grw p2, fun h => hlv (hG.lv h), by have := hG1.nm; omega, fun k h hk' => (hG1.bz k h hk').grw hP.inv p2⟩, p2, ⟨⟨rfl, rfl, rfl, rfl⟩, ⟨rfl, rfl⟩, (show (13 : Int) ≠ 1 ∧ (13 : Int) ≠ 2 by decide), .inr ⟨(show (13 : Int) ≠ 14 by decide), rfl⟩, .inl ⟨rfl, ha⟩, .inr ⟨hdn, rfl⟩⟩, hln.1, by omega, by omega, hln.2.1, hln.2.2.1, hln.2.2.2⟩
end
end Go.Proofs.YtgjndhbfjofkeaaGreatDoor

