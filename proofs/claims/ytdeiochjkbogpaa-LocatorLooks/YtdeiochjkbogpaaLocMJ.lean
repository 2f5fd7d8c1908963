import Derived.Test.YtdeiochjkbogpaaLocMB
namespace Go.Proofs.Ytdeiochjkbogpaa
open Go.RowKit
set_option maxHeartbeats 1600000 in
set_option maxRecDepth 1000000 in
/-- A client that found an Active owner lets it be. -/
theorem steps2a {W : World} {ρ : Nat → Nat} {fb rb k : Nat} {fv : Nat → Value} {c : Nat → Cl} {want : List Vl} {was : List (List Vl)} {ws : List Value} {mk : Int} (hk : k < 4) (F : FL W ρ fb rb fv c want was ws mk) (hat : (c k).at_ = 2) {cl ob act : Int} (ha : (act.tmod 3 == 0) = true) :
    Calls Try.prog 8 #[.pointer (some ⟨fb, 0, none⟩), .int .i64 (k : Int), .agg #[.int .i64 cl, .int .i64 act, .int .i64 ob]] W fun e w' => e = .returned (.bool true) ∧ FL w' ρ fb rb (fset fv (1 + k * 9) (.int .i64 ((0 : Nat) : Int))) (upd c k { c k with at_ := 0 }) want was ws mk ∧ Keeps (fun i => i = fb) W w' := by
  have k1 : decide ((k : Int) < 4) = true := by simp; omega
  have k2 : decide (k < 4) = true := by simp [hk]
  have k3 : (0 : Int) ≤ (k : Int) := by omega
  have k4 : (k : Int) < 4 := by omega
  have F0 := fun ob => F.new ((Keeps.refl (fun _ => False) W).alloc ob)
  have c0 : ∀ ob, (W.alloc ob).cell? ⟨fb, 1 + k * 9, none⟩ = some (.int .i64 2) := fun ob => by
    have h := (F0 ob).ff.cs (1 + k * 9) (by omega)
    rw [F.a0 k hk, hat] at h
    exact h
  have z0 := fun ob => (F0 ob).ff.fz (1 + k * 9)
  have lF := F.ff.lt
  have nf : ¬ fb = W.heap.size := by omega
  have nf' : ¬ W.heap.size = fb := by omega
  have HF : Hid (FL W ρ fb rb fv c want was ws mk) := F
  clear F F0 hat
  go_enter Try.func8, Try.ntmps8
  go_wp2_with fail
  go_ret
  exact ⟨rfl, (HF.out.set_at_ hk 0).new ((Keeps.refl _ _).alloc _), (Keeps.setCell (S := fun i => i = fb) (Keeps.refl _ W) (p := ⟨fb, 1 + k * 9, none⟩) (fun _ => rfl) _).alloc _⟩
set_option maxHeartbeats 1600000 in
set_option maxRecDepth 1000000 in
/-- A client lets an object go by. -/
theorem steps3a {W : World} {ρ : Nat → Nat} {fb rb k : Nat} {fv : Nat → Value} {c : Nat → Cl} {want : List Vl} {was : List (List Vl)} {ws : List Value} {mk : Int} (hk : k < 4) (F : FL W ρ fb rb fv c want was ws mk) (hat : (c k).at_ = 3) {cl ob act : Int} (ha : (act.tmod 4 == 0) = true) :
    Calls Try.prog 8 #[.pointer (some ⟨fb, 0, none⟩), .int .i64 (k : Int), .agg #[.int .i64 cl, .int .i64 act, .int .i64 ob]] W fun e w' => e = .returned (.bool true) ∧ FL w' ρ fb rb (fset fv (1 + k * 9) (.int .i64 ((0 : Nat) : Int))) (upd c k { c k with at_ := 0 }) want was ws mk ∧ Keeps (fun i => i = fb) W w' := by
  have k1 : decide ((k : Int) < 4) = true := by simp; omega
  have k2 : decide (k < 4) = true := by simp [hk]
  have k3 : (0 : Int) ≤ (k : Int) := by omega
  have k4 : (k : Int) < 4 := by omega
  have F0 := fun ob => F.new ((Keeps.refl (fun _ => False) W).alloc ob)
  have c0 : ∀ ob, (W.alloc ob).cell? ⟨fb, 1 + k * 9, none⟩ = some (.int .i64 3) := fun ob => by
    have h := (F0 ob).ff.cs (1 + k * 9) (by omega)
    rw [F.a0 k hk, hat] at h
    exact h
  have z0 := fun ob => (F0 ob).ff.fz (1 + k * 9)
  have lF := F.ff.lt
  have nf : ¬ fb = W.heap.size := by omega
  have nf' : ¬ W.heap.size = fb := by omega
  have HF : Hid (FL W ρ fb rb fv c want was ws mk) := F
  clear F F0 hat
  go_enter Try.func8, Try.ntmps8
  go_wp2_with fail
  go_ret
  exact ⟨rfl, (HF.out.set_at_ hk 0).new ((Keeps.refl _ _).alloc _), (Keeps.setCell (S := fun i => i = fb) (Keeps.refl _ W) (p := ⟨fb, 1 + k * 9, none⟩) (fun _ => rfl) _).alloc _⟩
set_option maxHeartbeats 1600000 in
set_option maxRecDepth 1000000 in
/-- A client goes on. -/
theorem steps4a {W : World} {ρ : Nat → Nat} {fb rb k : Nat} {fv : Nat → Value} {c : Nat → Cl} {want : List Vl} {was : List (List Vl)} {ws : List Value} {mk : Int} (hk : k < 4) (F : FL W ρ fb rb fv c want was ws mk) (hat : (c k).at_ = 4) {cl ob act : Int} (ha : (act.tmod 4 == 1) = false) (hb : (act.tmod 4 == 2) = true) :
    Calls Try.prog 8 #[.pointer (some ⟨fb, 0, none⟩), .int .i64 (k : Int), .agg #[.int .i64 cl, .int .i64 act, .int .i64 ob]] W fun e w' => e = .returned (.bool true) ∧ FL w' ρ fb rb (fset fv (1 + k * 9) (.int .i64 ((0 : Nat) : Int))) (upd c k { c k with at_ := 0 }) want was ws mk ∧ Keeps (fun i => i = fb) W w' := by
  have k1 : decide ((k : Int) < 4) = true := by simp; omega
  have k2 : decide (k < 4) = true := by simp [hk]
  have k3 : (0 : Int) ≤ (k : Int) := by omega
  have k4 : (k : Int) < 4 := by omega
  have F0 := fun ob => F.new ((Keeps.refl (fun _ => False) W).alloc ob)
  have c0 : ∀ ob, (W.alloc ob).cell? ⟨fb, 1 + k * 9, none⟩ = some (.int .i64 4) := fun ob => by
    have h := (F0 ob).ff.cs (1 + k * 9) (by omega)
    rw [F.a0 k hk, hat] at h
    exact h
  have z0 := fun ob => (F0 ob).ff.fz (1 + k * 9)
  have lF := F.ff.lt
  have nf : ¬ fb = W.heap.size := by omega
  have nf' : ¬ W.heap.size = fb := by omega
  have HF : Hid (FL W ρ fb rb fv c want was ws mk) := F
  clear F F0 hat
  go_enter Try.func8, Try.ntmps8
  go_wp2_with fail
  go_ret
  exact ⟨rfl, (HF.out.set_at_ hk 0).new ((Keeps.refl _ _).alloc _), (Keeps.setCell (S := fun i => i = fb) (Keeps.refl _ W) (p := ⟨fb, 1 + k * 9, none⟩) (fun _ => rfl) _).alloc _⟩
end Go.Proofs.Ytdeiochjkbogpaa
namespace Go.Proofs.Ytdeiochjkbogpaa
open Go.RowKit
theorem sf_not {r : Nat} (h8 : 8 ≤ r) : ¬ Sq 1 2 7 r := fun e => by rcases e with (e | e) | e <;> omega
/-- A cell of the floor's block is written, beside the raw. -/
theorem floor_set {W : World} {ρ : Nat → Nat} {fb rb wb mb n o : Nat} {s : Ws} {m : Mm} {fv : Nat → Value} (R : Rs W ρ 1 2 7 rb wb mb s m n) (F : FF W ρ fb fv) (v : Value) : Rs (W.setCell ⟨fb, o, none⟩ v) ρ 1 2 7 rb wb mb s m n ∧ Ext (fun i => 8 ≤ i) W (W.setCell ⟨fb, o, none⟩ v) ρ ρ := by
  have K : Keeps (fun k => k = fb) W (W.setCell ⟨fb, o, none⟩ v) := Keeps.setCell (S := fun k => k = fb) (Keeps.refl _ W) (p := ⟨fb, o, none⟩) (fun _ => rfl) v
  have x : Ext (fun i => 8 ≤ i) W (W.setCell ⟨fb, o, none⟩ v) ρ ρ := ⟨K.mono (fun i _ e => by rw [e, F.rf]; exact Nat.le_refl _), fun _ _ => rfl, fun i hi => .inr (R.st.bnd i hi)⟩
  exact ⟨R.beside x (fun i hi => R.st.bnd i (Nat.le_trans K.size hi)), x⟩
/-- A new block beside the raw and the floor gets a role of its own. -/
theorem Rs.lay {W : World} {ρ : Nat → Nat} {rb wb mb n : Nat} {s : Ws} {m : Mm} (R : Rs W ρ 1 2 7 rb wb mb s m n) (ob : Obj) : ∃ ρ', Rs (W.alloc ob) ρ' 1 2 7 rb wb mb s m n ∧ Ext (fun r => r = 20) W (W.alloc ob) ρ ρ' ∧ ρ' W.heap.size = 20 := by
  have K : Keeps (fun _ => False) W (W.alloc ob) := (Keeps.refl _ W).alloc _
  have x : Ext (fun r => r = 20) W (W.alloc ob) ρ (fun i => if i = W.heap.size then 20 else ρ i) := by
    refine ⟨K.mono (fun _ _ e => e.elim), fun i hi => if_neg (by omega), fun i hi => ?_⟩
    by_cases e : i = W.heap.size
    · exact .inl (if_pos e)
    · exact .inr ((if_neg e).trans (R.st.bnd i hi))
  refine ⟨_, R.beside (x.mono (fun _ e => by omega)) (fun i hi => ?_), x, if_pos rfl⟩
  simp at hi
  show (if i = W.heap.size then 20 else ρ i) = 0
  rw [if_neg (by omega)]
  exact R.st.bnd i (by omega)
/-- An answer in a block. -/
def AB (w : World) (b : Nat) (er : Int) (d : Bool) (n : Int) : Prop := w.cell? ⟨b, 0, none⟩ = some (.int .i64 er) ∧ w.cell? ⟨b, 1, none⟩ = some (.bool d) ∧ w.cell? ⟨b, 2, none⟩ = some (.int .i64 n)
theorem AB.mk (w : World) (er : Int) (d : Bool) (n : Int) : AB (w.alloc (.cells #[.int .i64 er, .bool d, .int .i64 n] 67)) w.heap.size er d n := by
  refine ⟨?_, ?_, ?_⟩ <;> simp
/-- An access of the floor: what it answered, and where world and floor stand behind it. -/
structure Acs (W : World) (ρ : Nat → Nat) (fb rb wb mb : Nat) (fv : Nat → Value) (c : Nat → Cl) (want : List Vl) (was : List (List Vl)) (ws : List Value) (mk : Int) (s : Ws) (m : Mm) (n : Nat) (o : Oq) (e : Ending) (w' : World) : Prop where
  ex : ∃ er d nn ρ' s' m1 m' n', e = .returned (.bool (er == 0)) ∧ Opn m n o m1 n' ∧ Do s m1 o s' m' er d nn ∧ Rs w' ρ' 1 2 7 rb wb mb s' m' n' ∧ FL w' ρ' fb rb fv c want was ws mk ∧ Ext Sf W w' ρ ρ'
set_option maxHeartbeats 1600000 in
set_option maxRecDepth 1000000 in
/-- A client kills the owner that it found. -/
theorem steps2b {W : World} {ρ : Nat → Nat} {fb rb wb mb n k : Nat} {s : Ws} {m : Mm} {fv : Nat → Value} {c : Nat → Cl} {want : List Vl} {was : List (List Vl)} {ws : List Value} {mk : Int} (hk : k < 4) (R : Rs W ρ 1 2 7 rb wb mb s m n) (F : FL W ρ fb rb fv c want was ws mk) (hn : n ≤ 2499999999999) (hat : (c k).at_ = 2) {cl ob act : Int} (ha : (act.tmod 3 == 0) = false) :
    Calls Try.prog 8 #[.pointer (some ⟨fb, 0, none⟩), .int .i64 (k : Int), .agg #[.int .i64 cl, .int .i64 act, .int .i64 ob]] W fun e w' => Acs W ρ fb rb wb mb (fset fv (1 + k * 9) (.int .i64 ((0 : Nat) : Int))) (upd c k { c k with at_ := 0 }) want was ws mk s m n ⟨11, ((c k).own : Int), 0, 0, ⟨0, 0, false⟩, false⟩ e w' := by
  have k1 : decide ((k : Int) < 4) = true := by simp; omega
  have k2 : decide (k < 4) = true := by simp [hk]
  have k3 : (0 : Int) ≤ (k : Int) := by omega
  have k4 : (k : Int) < 4 := by omega
  have F0 := fun ob => F.new ((Keeps.refl (fun _ => False) W).alloc ob)
  have c0 : ∀ ob, (W.alloc ob).cell? ⟨fb, 1 + k * 9, none⟩ = some (.int .i64 2) := fun ob => by
    have h := (F0 ob).ff.cs (1 + k * 9) (by omega)
    rw [F.a0 k hk, hat] at h
    exact h
  have z0 := fun ob => (F0 ob).ff.fz (1 + k * 9)
  have lF := F.ff.lt
  have nf : ¬ fb = W.heap.size := by omega
  have nf' : ¬ W.heap.size = fb := by omega
  obtain ⟨R1, x1⟩ := floor_set (o := 1 + k * 9) R F.ff (.int .i64 0)
  have F1 := F.set_at_ hk 0
  obtain ⟨W1, hW1⟩ : ∃ W1, W1 = (W.setCell ⟨fb, 1 + k * 9, none⟩ (.int .i64 0)).alloc (.cells #[.int .i64 cl, .int .i64 act, .int .i64 ob] 43) := ⟨_, rfl⟩
  have K1 : Keeps (fun _ => False) (W.setCell ⟨fb, 1 + k * 9, none⟩ (.int .i64 0)) W1 := by rw [hW1]; exact (Keeps.refl _ _).alloc _
  have R2 := (R1.new K1).1
  have F2 := FL.new F1 K1
  have X2 : Ext Sf W W1 ρ ρ := (x1.mono (fun _ e => .inr e)).trans ((Ext.alloc R1.st.bnd K1).1)
  have y0 := F2.ff.cs 0 (by omega)
  rw [F2.f0] at y0
  have y4 := F2.ff.cs (1 + k * 9 + 4) (by omega)
  rw [F2.a4 k hk, upd_self] at y4
  have lF2 := F2.ff.lt
  have hdo := fun W' (K : Keeps (fun _ => False) W1 W') => does_any (R2.new K).1 hn ⟨11, ((c k).own : Int), 0, 0, ⟨0, 0, false⟩, false⟩
  obtain ⟨ρB, RB, xB, rB⟩ := R2.lay (.cells #[.int .i64 0, .bool false, .int .i64 0] 67)
  have hdoB := does_any (RB.new ((Keeps.refl _ _).drew)).1 hn ⟨11, ((c k).own : Int), 0, 0, ⟨0, 0, false⟩, false⟩
  simp only [opv] at hdo hdoB
  have HXB : Hid (Ext (fun r => r = 20) W1 (W1.alloc (.cells #[.int .i64 0, .bool false, .int .i64 0] 67)) ρ ρB ∧ ρB W1.heap.size = 20 ∧ Bnd (W1.alloc (.cells #[.int .i64 0, .bool false, .int .i64 0] 67)) ρB) := ⟨xB, rB, RB.st.bnd⟩
  have HX : Hid (Ext Sf W W1 ρ ρ) := X2
  have HF : Hid (FL W1 ρ fb rb (fset fv (1 + k * 9) (.int .i64 ((0 : Nat) : Int))) (upd c k { c k with at_ := 0 }) want was ws mk) := F2
  have HB : Hid (Bnd W1 ρ) := R2.st.bnd
  obtain ⟨ow, how⟩ : ∃ ow : Int, ((c k).own : Int) = ow := ⟨_, rfl⟩
  rw [how] at y4 hdo hdoB ⊢
  have HOW : Hid (((c k).own : Int) = ow) := how
  clear how
  clear F F0 F1 F2 R R1 R2 x1 X2 hat RB xB rB
  go_enter Try.func8, Try.ntmps8
  go_wp2_with fail
  rw [← hW1]
  clear hW1 c0 z0
  have n0 := World.new_ne W1 _ y0
  have n4 := World.new_ne W1 _ y4
  go_region_held3 (fun w' => w'.cell? ⟨fb, 0, none⟩ = some (.pointer (some ⟨rb, 0, none⟩)) ∧ w'.cell? ⟨fb, 1 + k * 9 + 4, none⟩ = some (.int .i64 ow)) (go_keep) (first | (go_at_call 21; (with_reducible refine (hdo _ ((Keeps.refl _ W1).drew)).mono ?_); rintro e W4 ⟨er, d, nn, rfl, ρ4, s4, m1, m4, n4, hop, hd4, R4, x4⟩; have F4 := (FL.new HF.out ((Keeps.refl _ W1).drew)).ext x4 (fun r a _ => sf_not a); have q0 := F4.ff.cs 0 (by omega); rw [F4.f0] at q0; have q4 := F4.ff.cs (1 + k * 9 + 4) (by omega); rw [F4.a4 k hk, upd_self] at q4; replace q4 := q4.trans (by rw [HOW.out]); have lay := True.intro) | (go_at_call 21; (with_reducible refine (hdoB).mono ?_); rintro e W4 ⟨er, d, nn, rfl, ρ4, s4, m1, m4, n4, hop, hd4, R4, x4⟩; have F4 := (FL.new (FL.ext HF.out HXB.out.1 (fun r _ a => by omega)) ((Keeps.refl _ _).drew)).ext x4 (fun r a _ => sf_not a); have q0 := F4.ff.cs 0 (by omega); rw [F4.f0] at q0; have q4 := F4.ff.cs (1 + k * 9 + 4) (by omega); rw [F4.a4 k hk, upd_self] at q4; replace q4 := q4.trans (by rw [HOW.out]); have a4 : ρ4 W1.heap.size = 20 := (x4.old _ (by simp)).trans HXB.out.2.1; have g0 := x4.cell (p := ⟨W1.heap.size, 0, none⟩) (v := .int .i64 0) (by simp) (by show ¬ Sq 1 2 7 (ρB W1.heap.size); rw [HXB.out.2.1]; exact sf_not (by omega)); have g1 := x4.cell (p := ⟨W1.heap.size, 1, none⟩) (v := .bool false) (by simp) (by show ¬ Sq 1 2 7 (ρB W1.heap.size); rw [HXB.out.2.1]; exact sf_not (by omega)); have g2 := x4.cell (p := ⟨W1.heap.size, 2, none⟩) (v := .int .i64 0) (by simp) (by show ¬ Sq 1 2 7 (ρB W1.heap.size); rw [HXB.out.2.1]; exact sf_not (by omega)); have zz : ∀ o, W4.frozen? ⟨W1.heap.size, o, none⟩ = false := (fun o => (x4.keeps.frozen (p := ⟨W1.heap.size, o, none⟩) (by simp) (by show ¬ Sq 1 2 7 (ρB W1.heap.size); rw [HXB.out.2.1]; exact sf_not (by omega))).trans (by simp)); have z0 := zz 0; have z1 := zz 1; have z2 := zz 2))
  all_goals first
    | (obtain ⟨W8, hW8⟩ : ∃ W8, W8 = W4.alloc (.cells #[.int .i64 er, .bool d, .int .i64 nn] 67) := ⟨_, rfl⟩
       rw [← hW8]
       have A8 : AB W8 W4.heap.size er d nn := by rw [hW8]; exact AB.mk W4 er d nn
       have KA : Keeps (fun _ => False) W4 W8 := by rw [hW8]; exact (Keeps.refl _ W4).alloc _
       have R8 := (R4.new KA).1
       have F8 := FL.new F4 KA
       have X8 : Ext Sf W W8 ρ ρ4 := ((HX.out.trans (Ext.alloc HB.out ((Keeps.refl _ W1).drew)).1).trans (x4.mono (fun _ e => .inl e))).trans (Ext.alloc R4.st.bnd KA).1
       obtain ⟨ab, hab⟩ : ∃ ab, ab = W4.heap.size := ⟨_, rfl⟩
       rw [← hab] at A8 ⊢
       clear hab hW8 KA lay)
    | (obtain ⟨W8, hW8⟩ : ∃ W8, W8 = ((W4.setCell ⟨W1.heap.size, 0, none⟩ (.int .i64 er)).setCell ⟨W1.heap.size, 1, none⟩ (.bool d)).setCell ⟨W1.heap.size, 2, none⟩ (.int .i64 nn) := ⟨_, rfl⟩
       rw [← hW8]
       have A8 : AB W8 W1.heap.size er d nn := by
         rw [hW8]
         refine ⟨?_, ?_, ?_⟩ <;> go_simp
       have KA : Keeps (fun i => i = W1.heap.size) W4 W8 := by
         rw [hW8]
         exact ((Keeps.setCell (S := fun i => i = W1.heap.size) (Keeps.refl _ W4) (p := ⟨W1.heap.size, 0, none⟩) (fun _ => rfl) _).setCell (p := ⟨W1.heap.size, 1, none⟩) (fun _ => rfl) _).setCell (p := ⟨W1.heap.size, 2, none⟩) (fun _ => rfl) _
       have xs : Ext (fun r => r = 20) W4 W8 ρ4 ρ4 := ⟨KA.mono (fun i _ e => by rw [e]; exact a4), fun _ _ => rfl, fun i hi => .inr (R4.st.bnd i hi)⟩
       have R8 := R4.beside (xs.mono (fun _ e => by omega)) (fun i hi => R4.st.bnd i (Nat.le_trans KA.size hi))
       have F8 := FL.ext F4 xs (fun r _ a => by omega)
       have X8 : Ext Sf W W8 ρ ρ4 := (((HX.out.trans (HXB.out.1.mono (fun _ e => .inr (by omega)))).trans (Ext.alloc HXB.out.2.2 ((Keeps.refl _ _).drew)).1).trans (x4.mono (fun _ e => .inl e))).trans (xs.mono (fun _ e => .inr (by omega)))
       obtain ⟨ab, hab⟩ : ∃ ab, ab = W1.heap.size := ⟨_, rfl⟩
       rw [← hab] at A8 ⊢
       clear hab hW8 KA xs)
  all_goals
    obtain ⟨v0, v1, v2⟩ := A8
    have HR8 : Hid (Rs W8 ρ4 1 2 7 rb wb mb s4 m4 n4) := R8
    have HF8 : Hid (FL W8 ρ4 fb rb (fset fv (1 + k * 9) (.int .i64 ((0 : Nat) : Int))) (upd c k { c k with at_ := 0 }) want was ws mk) := F8
    have HX8 : Hid (Ext Sf W W8 ρ ρ4) := X8
    have HD : Hid (Do s m1 ⟨11, ow, 0, 0, ⟨0, 0, false⟩, false⟩ s4 m4 er d nn) := hd4
    have HO : Hid (Opn m n ⟨11, ow, 0, 0, ⟨0, 0, false⟩, false⟩ m1 n4) := hop
    clear R8 F8 X8 hd4 hop F4 R4 x4 q0 q4 y0 y4
    go_wp2_with fail
    go_ret
    exact ⟨⟨er, d, nn, ρ4, s4, m1, m4, n4, rfl, HO.out, HD.out, HR8.out, HF8.out, HX8.out⟩⟩
end Go.Proofs.Ytdeiochjkbogpaa
namespace Go.Proofs.Ytdeiochjkbogpaa
open Go.RowKit
theorem own_cellq {W : World} {base e z n g : Nat} {v : Value} {xs : List Value} (h : W.ownsRow base e z v n xs) (hg : v.ownBlock = some g) (j : Nat) (u : Value) (hu : xs[j]? = some u) : W.cell? ⟨g, j, none⟩ = some u := by
  have h1 := h.cells hg j u hu
  by_cases hj : j = 0
  · subst hj; simpa [Addr.add] using h1
  · simpa [Addr.add, hj] using h1
theorem owns_slice {w : World} {base e size : Nat} {v : Value} {n : Nat} {xs : List Value} (h : w.ownsRow base e size v n xs) : ∃ a cap, v = .slice a n cap ∧ (0 < n → ∃ g, a = some ⟨g, 0, none⟩ ∧ v.ownBlock = some g) := by
  rcases h.2 with ⟨rfl, rfl⟩ | ⟨g, cap, cur, rfl, _⟩
  · exact ⟨none, 0, rfl, fun h => by omega⟩
  · exact ⟨_, _, rfl, fun _ => ⟨g, rfl, rfl⟩⟩
section
variable {W W' : World} {ρ ρ' : Nat → Nat} {fb rb wb mb n k : Nat} {s : Ws} {m : Mm} {fv : Nat → Value} {c : Nat → Cl} {want : List Vl} {was : List (List Vl)} {ws : List Value} {mk : Int}
/-- What a client holds, in memory. -/
theorem FL.held (F : FL W ρ fb rb fv c want was ws mk) (hk : k < 4) : ∃ a cap, fv (1 + k * 9 + 7) = .slice a (c k).held.length cap ∧ ∀ i, i < (c k).held.length → ∃ g, a = some ⟨g, 0, none⟩ ∧ W.cell? ⟨g, i, none⟩ = some (.int .i64 ((c k).held.getD i 0 : Nat)) := by
  obtain ⟨a, cap, e, hg⟩ := owns_slice (F.hh k hk)
  refine ⟨a, cap, e, fun i hi => ?_⟩
  obtain ⟨g, ea, eb⟩ := hg (by omega)
  exact ⟨g, ea, own_cellq (F.hh k hk) eb i _ (by simp [nis, List.getD_eq_getElem?_getD, List.getElem?_eq_getElem hi])⟩
theorem FL.lens (F : FL W ρ fb rb fv c want was ws mk) : (∃ a cap, fv 37 = .slice a want.length cap) ∧ ∃ a cap, fv 38 = .slice a was.length cap := by
  obtain ⟨a, cap, e, _⟩ := owns_slice F.wo
  obtain ⟨a', cap', e', _⟩ := owns_slice F.so
  exact ⟨⟨a, cap, e⟩, ⟨a', cap', e'⟩⟩
set_option maxHeartbeats 1600000 in
set_option maxRecDepth 1000000 in
/-- A client that looks at no object, or at one of its own. -/
theorem steps0a (hk : k < 4) (F : FL W ρ fb rb fv c want was ws mk) (hat : (c k).at_ = 0) (hn : (c k).held.length ≤ 1000000) {cl ob act : Int} (ho : ob < 0 ∨ (¬ ob < 0 ∧ (want.length : Int) ≤ ob) ∨ (¬ ob < 0 ∧ ¬ (want.length : Int) ≤ ob ∧ ∃ x, x ∈ (c k).held ∧ (x : Int) = ob)) :
    Calls Try.prog 8 #[.pointer (some ⟨fb, 0, none⟩), .int .i64 (k : Int), .agg #[.int .i64 cl, .int .i64 act, .int .i64 ob]] W fun e w' => e = .returned (.bool true) ∧ Keeps (fun _ => False) W w' := by
  have k1 : decide ((k : Int) < 4) = true := by simp; omega
  have k2 : decide (k < 4) = true := by simp [hk]
  have k3 : (0 : Int) ≤ (k : Int) := by omega
  have k4 : (k : Int) < 4 := by omega
  obtain ⟨w0, hw0⟩ : ∃ w0, w0 = W.alloc (.cells #[.int .i64 cl, .int .i64 act, .int .i64 ob] 43) := ⟨_, rfl⟩
  have K0 : Keeps (fun _ => False) W w0 := by rw [hw0]; exact (Keeps.refl _ W).alloc _
  have F0 := F.new K0
  have cz : ∀ ob, (W.alloc ob).cell? ⟨fb, 1 + k * 9, none⟩ = some (.int .i64 0) := fun ob => by
    have h := (F.new ((Keeps.refl (fun _ => False) W).alloc ob)).ff.cs (1 + k * 9) (by omega)
    rw [F.a0 k hk, hat] at h
    exact h
  obtain ⟨⟨aw, cw, ew⟩, _⟩ := F.lens
  have c37 : w0.cell? ⟨fb, 37, none⟩ = some (.slice aw want.length cw) := by
    have h := F0.ff.cs 37 (by omega)
    rwa [ew] at h
  have d2 : w0.cell? ⟨W.heap.size, 2, none⟩ = some (.int .i64 ob) := by rw [hw0]; simp
  obtain ⟨ah, ch, eh, _⟩ := F.held hk
  have hmi : ∀ U : KS w0, _ := fun U => mine_ok (w := U.val) (fb := fb) hk ob (a := ah) (cap := ch) (hl := (c k).held) (by have h := (FL.new F0 U.property).ff.cs (1 + k * 9 + 7) (by omega); rwa [eh] at h) (by
    obtain ⟨a', c', e', h'⟩ := (FL.new F0 U.property).held hk
    rw [eh] at e'
    cases e'
    exact h') hn
  have X37 := ks_cell c37
  have X2 := ks_cell d2
  have hNE : Nonempty (KS w0) := ⟨⟨w0, Keeps.refl _ w0⟩⟩
  have lF := F.ff.lt
  have nf : ¬ fb = W.heap.size := by omega
  have nf' : ¬ W.heap.size = fb := by omega
  have HM : Hid (∀ bm : Bool, ¬ ob < 0 → ¬ (want.length : Int) ≤ ob → (bm = true ↔ ∃ x, x ∈ (c k).held ∧ (x : Int) = ob) → bm = true) := fun bm q1 q2 hbm => by
    rcases ho with ho | ⟨_, ho2⟩ | ⟨_, _, ho3⟩
    · exact absurd ho q1
    · exact absurd ho2 q2
    · exact hbm.2 ho3
  have hcase : (decide (ob < 0) = true) ∨ (decide (ob < 0) = false ∧ decide ((want.length : Int) ≤ ob) = true) ∨ (decide (ob < 0) = false ∧ decide ((want.length : Int) ≤ ob) = false) := by
    rcases ho with ho | ⟨ho, ho2⟩ | ⟨ho, ho2, _⟩
    · exact .inl (by simpa using ho)
    · exact .inr (.inl ⟨by simpa using ho, by simpa using ho2⟩)
    · exact .inr (.inr ⟨by simpa using ho, by simpa using ho2⟩)
  clear F F0 hat ho
  rcases hcase with h1 | ⟨h1, h2⟩ | ⟨h1, h2⟩
  all_goals
    go_enter Try.func8, Try.ntmps8
    go_wp2_with fail
    rw [← hw0]
    clear hw0
    refine wp_region_ks (by kernel_rfl) (by kernel_rfl) ?_
    repeat (go_big_quiet_step ((go_at_call 22; (with_reducible refine (hmi _).mono ?_); rintro e w2 ⟨⟨bm, rfl, hbm⟩, rfl⟩; obtain rfl : bm = true := HM.out bm (by simpa using h1) (by simpa using h2) hbm; exact ⟨rfl, ⟨_, KS.property _⟩, rfl⟩)))
    refine wpQuiet_nil ?_
    rintro _ ⟨U, rfl⟩
    have KU := K0.trans U.property
    clear X37 X2 hmi hNE HM
    generalize U.val = wu at *
    go_wp2_with fail
    go_ret
    exact ⟨rfl, KU⟩
end
end Go.Proofs.Ytdeiochjkbogpaa
