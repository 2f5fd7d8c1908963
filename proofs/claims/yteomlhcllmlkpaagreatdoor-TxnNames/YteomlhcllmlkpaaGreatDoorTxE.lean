import Derived.Test.YteomlhcllmlkpaaGreatDoorTxD
import Derived.Test.YteomlhcllmlkpaaGreatDoorTxCur
namespace Go.Proofs.YteomlhcllmlkpaaGreatDoor
open Go.RowKit
attribute [local go_sem] Oper.semAt_some run_store_nf run_store_f
section
variable {w w' : World} {ρ ρ' ρ'' : Nat → Nat} {u j : Nat} {c : Sc} {ab rb n n' : Nat} {x x' : Tx} {f f' : Int → Option Nat} {s s' : Ws} {m m' : Mm} {r r' : Ro}
theorem had_load (m : Mm) (k : Nat) : (m.load k).had := fun _ _ => by simp [Mm.load, Mm.take]
theorem had_swap (m : Mm) (k : Nat) (a b : Int) : (m.swap k a b).had := fun _ _ => by simp [Mm.swap, Mm.take]
theorem log_load (m : Mm) (k : Nat) : (m.load k).log.length = m.log.length + 1 := by simp [Mm.load, Mm.take]
theorem log_swap (m : Mm) (k : Nat) (a b : Int) : (m.swap k a b).log.length = m.log.length + 1 := by simp [Mm.swap, Mm.take]
theorem Fr.tr {A : Nat → Prop} {w'' : World} (h : Fr A u j w w' ρ ρ') (k : Fr A u j w' w'' ρ' ρ'') : Fr A u j w w'' ρ ρ'' := h.trans k (fun _ _ e => e) (fun _ _ e => e)
/-- A step that looks at the object's cell. -/
def Tx.pointed (x : Tx) (l : Int) : Tx := { x with nx := some 78, loc := l }
set_option maxHeartbeats 400000 in
set_option maxRecDepth 1000000 in
theorem point_goes (hf : Wf s m) {o : Nat} (ho : x.aob = (o : Int)) (hi : o < s.objs.length) (hfr : m.free = true) (hlog : (m.log.length + 1) * 56 ≤ 140737488355328) :
    Goes 51 u j c ab ρ x (x.pointed (ca m.cells (s.ob o)).2) n n f f s s m (m.load (s.ob o)) ((({ x.blank with kind := 5 } : Ro).at_ x).acc (m.load (s.ob o)).took) := by
  intro W rb hA hR
  have hmf : ∀ (fn : Fn) (first cap : Array Value) (w : World), (Instr.makeFunc fn first cap).run Tryz.prog w = .ok (.func fn first cap) w := fun _ _ _ _ => rfl
  have hc := hR.cl
  have r5 := hc.c 5 _ rfl
  have zr5 := hc.z 5 (by show 5 < 26; decide)
  have k1 : Keeps (fun k => k = rb) W (W.setCell ⟨rb, 5, none⟩ (.int .i64 5)) := (Keeps.refl _ W).setA _ _
  have hR1 : RX (W.setCell ⟨rb, 5, none⟩ (.int .i64 5)) ρ c ab rb { x.blank with kind := 5 } := hR.self (hc.set (o := 5) (by show 5 < 26; decide) _)
  have hA1 := hA.far k1 hR.rr hR.n1 hR.n2
  clear hc
  go_enter Tryz.func51, Tryz.ntmps51
  go_wp2_with fail
  generalize W.setCell ⟨rb, 5, none⟩ (.int .i64 5) = W1 at *
  refine (at_any hA1.cl hR1.cl hR.n1).mono ?_
  rintro e W2 ⟨rfl, hc2, k2⟩
  have hA2 := (hA1.far k2 hR.rr hR.n1 hR.n2).new (Keeps.refl _ W2).drew
  have hR2 := (hR1.self hc2).new (Keeps.refl _ W2).drew
  have k12 := k1.trans k2
  clear hA1 hR1 hc2 k1 k2 r5 zr5
  have hc := hA2.cl
  have f1 := hc.c 1 _ rfl
  have zf1 := hc.z 1 (by show 1 < 36; decide)
  have f22 := hc.c 22 _ rfl
  have zf22 := hc.z 22 (by show 22 < 36; decide)
  have f26 := hc.c 26 _ rfl
  have zf26 := hc.z 26 (by show 26 < 36; decide)
  have hL := Load_ok hA2.st hf hi hfr hlog
  rw [← ho] at hL
  clear hc ho
  go_wp2_with fail
  go_region_held3 (fun w' => w'.cell? ⟨ab, 1, none⟩ = some (.pointer (some ⟨c.wb, 0, none⟩)) ∧ w'.cell? ⟨ab, 22, none⟩ = some (.int .i64 x.aob)) (first | go_keep | exact KZ _) (first | (go_at_call 76; refine hL.mono ?_; clear hL; rintro e W3 ⟨rfl, ρ3, s3, x3⟩; have hA3 := hA2.run s3 x3; have hR3 := hR2.run (Sr.not0 hA2.st) x3; have hc3 := hA3.cl; have g1 := hc3.c 1 _ rfl; have g22 := hc3.c 22 _ rfl; have g26 := hc3.c 26 _ rfl; have zg26 := hc3.z 26 (by show 26 < 36; decide); have KZ := fun (v : Value) => And.intro ((hc3.set (o := 26) (by show 26 < 36; decide) v).c 1 _ rfl) ((hc3.set (o := 26) (by show 26 < 36; decide) v).c 22 _ rfl)) | (go_at_call 75; refine (must_int _ _).mono ?_; rintro e W4 ⟨rfl, rfl⟩))
  have hA4 : AX (W4.setCell ⟨ab, 26, none⟩ (.int .i64 (ca m.cells (s.ob o)).2)) ρ3 u j c ab { x with loc := (ca m.cells (s.ob o)).2 } n f s (m.load (s.ob o)) := hA3.self ((Keeps.refl _ W4).setA _ _) (hc3.set (o := 26) (by show 26 < 36; decide) _)
  have hR4 := hR3.far ((Keeps.refl (fun k => k = ab) W4).setA 26 (.int .i64 (ca m.cells (s.ob o)).2)) hR.n1.symm
  have fr4 : Fr (OwnR c ab rb) u j W (W4.setCell ⟨ab, 26, none⟩ (.int .i64 (ca m.cells (s.ob o)).2)) ρ ρ3 := ((Fr.of_keeps k12.drew (fun _ _ e => .inr (.inr e))).tr (Fr.of_ext x3)).tr (Fr.of_keeps ((Keeps.refl (fun k => k = ab) W4).setA 26 _) (fun _ _ e => .inl e))
  clear KZ g1 g22 g26 zg26 hc3 hA3 hR3 s3 x3 hA2 hR2 k12 f1 f22 f26 zf1 zf22 zf26
  generalize W4.setCell ⟨ab, 26, none⟩ (.int .i64 (ca m.cells (s.ob o)).2) = W5 at *
  have hT := atook hA4 hR4 (had_load m (s.ob o)) (by rw [log_load]; omega)
  go_wp2_with fail
  refine hT.mono ?_
  rintro e W6 ⟨rfl, hA6, hR6, k6⟩
  have hc6 := hA6.cl
  have g15 := hc6.c 15 _ rfl
  have zg15 := hc6.z 15 (by show 15 < 36; decide)
  clear hT
  go_wp2_with fail
  go_end0
  exact ⟨rfl, ρ3, hA6.self ((Keeps.refl _ W6).setA _ _) (hc6.set (o := 15) (by show 15 < 36; decide) _), hR6.far ((Keeps.refl (fun k => k = ab) W6).setA 15 _) hR.n1.symm, (fr4.tr (Fr.of_keeps k6 (fun _ _ e => .inr (.inr e)))).tr (Fr.of_keeps ((Keeps.refl (fun k => k = ab) W6).setA 15 _) (fun _ _ e => .inl e))⟩
end
end Go.Proofs.YteomlhcllmlkpaaGreatDoor
