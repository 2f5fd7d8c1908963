import Derived.Test.YtdeiochjkbogpaaLocMJ
namespace Go.Proofs.Ytdeiochjkbogpaa
open Go.RowKit
theorem sq_zero : ¬ Sq 1 2 7 0 := fun e => by rcases e with (e | e) | e <;> omega
theorem upd_upd {c : Nat → Cl} {k : Nat} {x y : Cl} : upd (upd c k x) k y = upd c k y := by
  funext j
  unfold upd
  by_cases h : j = k
  · rw [if_pos h, if_pos h]
  · rw [if_neg h, if_neg h, if_neg h]
section
variable {W W' : World} {ρ ρ' : Nat → Nat} {fb rb wb mb n k : Nat} {s : Ws} {m : Mm} {fv : Nat → Value} {c : Nat → Cl} {want : List Vl} {was : List (List Vl)} {ws : List Value} {mk : Int}
set_option maxHeartbeats 3200000 in
set_option maxRecDepth 1000000 in
/-- A client's first look. -/
theorem steps0b (hk : k < 4) (R : Rs W ρ 1 2 7 rb wb mb s m n) (F : FL W ρ fb rb fv c want was ws mk) (hn : n ≤ 2499999999999) (hat : (c k).at_ = 0) (hhn : (c k).held.length ≤ 1000000) (hws : 1 ≤ was.length ∧ was.length ≤ 1000000) {x lc : Nat} {cl act : Int} (hx : x < want.length) (hxm : x ∉ (c k).held)
    (hlc : ∀ {m1 n' s' m' er d nn}, Opn m n ⟨8, (x : Int), 0, 0, ⟨0, 0, false⟩, false⟩ m1 n' → Do s m1 ⟨8, (x : Int), 0, 0, ⟨0, 0, false⟩, false⟩ s' m' er d nn → nn = (lc : Int)) :
    Calls Try.prog 8 #[.pointer (some ⟨fb, 0, none⟩), .int .i64 (k : Int), .agg #[.int .i64 cl, .int .i64 act, .int .i64 (x : Int)]] W fun e w' => Acs W ρ fb rb wb mb (fset (fset (fset (fset fv (1 + k * 9 + 2) (.int .i64 (x : Int))) (1 + k * 9 + 3) (.int .i64 (lc : Int))) (1 + k * 9 + 6) (.int .i64 ((was.length - 1 : Nat) : Int))) (1 + k * 9) (.int .i64 ((1 : Nat) : Int))) (upd c k { c k with at_ := 1, obj := x, loc := lc, since := was.length - 1 }) want was ws mk s m n ⟨8, (x : Int), 0, 0, ⟨0, 0, false⟩, false⟩ e w' := by
  have k1 : decide ((k : Int) < 4) = true := by simp; omega
  have k2 : decide (k < 4) = true := by simp [hk]
  have k3 : (0 : Int) ≤ (k : Int) := by omega
  have k4 : (k : Int) < 4 := by omega
  obtain ⟨w0, hw0⟩ : ∃ w0, w0 = W.alloc (.cells #[.int .i64 cl, .int .i64 act, .int .i64 (x : Int)] 43) := ⟨_, rfl⟩
  have K0 : Keeps (fun _ => False) W w0 := by rw [hw0]; exact (Keeps.refl _ W).alloc _
  have F0 := F.new K0
  have cz : ∀ ob, (W.alloc ob).cell? ⟨fb, 1 + k * 9, none⟩ = some (.int .i64 0) := fun ob => by
    have h := (F.new ((Keeps.refl (fun _ => False) W).alloc ob)).ff.cs (1 + k * 9) (by omega)
    rw [F.a0 k hk, hat] at h
    exact h
  obtain ⟨⟨aw, cw, ew⟩, ⟨a8, c8, e8⟩⟩ := F.lens
  have c37 : w0.cell? ⟨fb, 37, none⟩ = some (.slice aw want.length cw) := by
    have h := F0.ff.cs 37 (by omega)
    rwa [ew] at h
  have d2 : w0.cell? ⟨W.heap.size, 2, none⟩ = some (.int .i64 (x : Int)) := by rw [hw0]; simp
  obtain ⟨ah, ch, eh, _⟩ := F.held hk
  have hmi : ∀ U : KS w0, _ := fun U => mine_ok (w := U.val) (fb := fb) hk (x : Int) (a := ah) (cap := ch) (hl := (c k).held) (by have h := (FL.new F0 U.property).ff.cs (1 + k * 9 + 7) (by omega); rwa [eh] at h) (by
    obtain ⟨a', c', e', h'⟩ := (FL.new F0 U.property).held hk
    rw [eh] at e'
    cases e'
    exact h') hhn
  have X37 := ks_cell c37
  have X2 := ks_cell d2
  have hNE : Nonempty (KS w0) := ⟨⟨w0, Keeps.refl _ w0⟩⟩
  have lF := F.ff.lt
  have nf : ¬ fb = W.heap.size := by omega
  have nf' : ¬ W.heap.size = fb := by omega
  have HM : Hid (∀ bm : Bool, (bm = true ↔ ∃ y, y ∈ (c k).held ∧ ((y : Nat) : Int) = (x : Int)) → bm = false) := fun bm hbm => by
    cases bm with
    | false => rfl
    | true =>
      obtain ⟨y, hy, e⟩ := hbm.1 rfl
      obtain rfl : y = x := by omega
      exact absurd hy hxm
  have h1 : decide ((x : Int) < 0) = false := by simp
  have h2 : decide ((want.length : Int) ≤ (x : Int)) = false := by simp; omega
  have h2' : decide (want.length ≤ x) = false := by simp; omega
  have HR : Hid (Rs W ρ 1 2 7 rb wb mb s m n) := R
  have HF : Hid (FL W ρ fb rb fv c want was ws mk) := F
  clear F F0 hat R
  go_enter Try.func8, Try.ntmps8
  go_wp2_with fail
  rw [← hw0]
  clear hw0
  refine wp_region_ks (by kernel_rfl) (by kernel_rfl) ?_
  repeat (go_big_quiet_step ((go_at_call 22; (with_reducible refine (hmi _).mono ?_); rintro e w2 ⟨⟨bm, rfl, hbm⟩, rfl⟩; obtain rfl : bm = false := HM.out bm hbm; exact ⟨rfl, ⟨_, KS.property _⟩, rfl⟩)))
  refine wpQuiet_nil ?_
  rintro _ ⟨U, rfl⟩
  have KU := K0.trans U.property
  have D2 := U.property.cell d2 id
  clear X37 X2 hmi hNE HM c37 d2 K0 cz h1 h2 h2'
  generalize U.val = W1 at *
  have R2 := (HR.out.new KU).1
  have F2 := FL.new HF.out KU
  have HX : Hid (Ext Sf W W1 ρ ρ) := (Ext.alloc HR.out.st.bnd KU).1
  have y0 := F2.ff.cs 0 (by omega)
  rw [F2.f0] at y0
  have lF2 := F2.ff.lt
  have hdo := fun W' (K : Keeps (fun _ => False) W1 W') => does_any (R2.new K).1 hn ⟨8, (x : Int), 0, 0, ⟨0, 0, false⟩, false⟩
  obtain ⟨ρB, RB, xB, rB⟩ := R2.lay (.cells #[.int .i64 0, .bool false, .int .i64 0] 67)
  have hdoB := does_any (RB.new ((Keeps.refl _ _).drew)).1 hn ⟨8, (x : Int), 0, 0, ⟨0, 0, false⟩, false⟩
  simp only [opv] at hdo hdoB
  have HXB : Hid (Ext (fun r => r = 20) W1 (W1.alloc (.cells #[.int .i64 0, .bool false, .int .i64 0] 67)) ρ ρB ∧ ρB W1.heap.size = 20 ∧ Bnd (W1.alloc (.cells #[.int .i64 0, .bool false, .int .i64 0] 67)) ρB) := ⟨xB, rB, RB.st.bnd⟩
  have HB : Hid (Bnd W1 ρ) := R2.st.bnd
  have HF2 : Hid (FL W1 ρ fb rb fv c want was ws mk) := F2
  have role0 : ρ W.heap.size = 0 := HR.out.st.bnd _ (Nat.le_refl _)
  have lL : W.heap.size < W1.heap.size := World.block_lt_of_cell? _ _ D2
  generalize W.heap.size = lb at *
  clear R2 F2 RB xB rB
  go_wp2_with fail
  have n0 := World.new_ne W1 _ y0
  have n2 := World.new_ne W1 _ D2
  go_region_held3 (fun w' => w'.cell? ⟨fb, 0, none⟩ = some (.pointer (some ⟨rb, 0, none⟩)) ∧ w'.cell? ⟨lb, 2, none⟩ = some (.int .i64 (x : Int))) (go_keep) (first | (go_at_call 21; (with_reducible refine (hdo _ ((Keeps.refl _ W1).drew)).mono ?_); rintro e W4 ⟨er, d, nn, rfl, ρ4, s4, m1, m4, n4, hop, hd4, R4, x4⟩; have F4 := (FL.new HF2.out ((Keeps.refl _ W1).drew)).ext x4 (fun r a _ => sf_not a); have q0 := F4.ff.cs 0 (by omega); rw [F4.f0] at q0; have q2 := x4.cell (p := ⟨lb, 2, none⟩) (v := .int .i64 (x : Int)) (by simpa using D2) (by show ¬ Sq 1 2 7 (ρ lb); rw [role0]; exact sq_zero); have lay := True.intro) | (go_at_call 21; (with_reducible refine (hdoB).mono ?_); rintro e W4 ⟨er, d, nn, rfl, ρ4, s4, m1, m4, n4, hop, hd4, R4, x4⟩; have F4 := (FL.new (FL.ext HF2.out HXB.out.1 (fun r _ a => by omega)) ((Keeps.refl _ _).drew)).ext x4 (fun r a _ => sf_not a); have q0 := F4.ff.cs 0 (by omega); rw [F4.f0] at q0; have q2 := x4.cell (p := ⟨lb, 2, none⟩) (v := .int .i64 (x : Int)) (by go_simp) (by show ¬ Sq 1 2 7 (ρB lb); rw [HXB.out.1.old _ lL, role0]; exact sq_zero); have a4 : ρ4 W1.heap.size = 20 := (x4.old _ (by simp)).trans HXB.out.2.1; have g0 := x4.cell (p := ⟨W1.heap.size, 0, none⟩) (v := .int .i64 0) (by simp) (by show ¬ Sq 1 2 7 (ρB W1.heap.size); rw [HXB.out.2.1]; exact sf_not (by omega)); have g1 := x4.cell (p := ⟨W1.heap.size, 1, none⟩) (v := .bool false) (by simp) (by show ¬ Sq 1 2 7 (ρB W1.heap.size); rw [HXB.out.2.1]; exact sf_not (by omega)); have g2 := x4.cell (p := ⟨W1.heap.size, 2, none⟩) (v := .int .i64 0) (by simp) (by show ¬ Sq 1 2 7 (ρB W1.heap.size); rw [HXB.out.2.1]; exact sf_not (by omega)); have zz : ∀ o, W4.frozen? ⟨W1.heap.size, o, none⟩ = false := (fun o => (x4.keeps.frozen (p := ⟨W1.heap.size, o, none⟩) (by simp) (by show ¬ Sq 1 2 7 (ρB W1.heap.size); rw [HXB.out.2.1]; exact sf_not (by omega))).trans (by simp)); have z0 := zz 0; have z1 := zz 1; have z2 := zz 2))
  all_goals obtain rfl := hlc hop hd4
  all_goals first
    | (obtain ⟨W8, hW8⟩ : ∃ W8, W8 = W4.alloc (.cells #[.int .i64 er, .bool d, .int .i64 (lc : Int)] 67) := ⟨_, rfl⟩
       rw [← hW8]
       have A8 : AB W8 W4.heap.size er d (lc : Int) := by rw [hW8]; exact AB.mk W4 er d lc
       have KA : Keeps (fun _ => False) W4 W8 := by rw [hW8]; exact (Keeps.refl _ W4).alloc _
       have R8 := (R4.new KA).1
       have F8 := FL.new F4 KA
       have X8 : Ext Sf W W8 ρ ρ4 := ((HX.out.trans (Ext.alloc HB.out ((Keeps.refl _ W1).drew)).1).trans (x4.mono (fun _ e => .inl e))).trans (Ext.alloc R4.st.bnd KA).1
       have L8 := KA.cell q2 id
       have na : ¬ W4.heap.size = fb := fun e => absurd F4.ff.lt (by omega)
       have nl : ¬ W4.heap.size = lb := fun e => absurd (World.block_lt_of_cell? _ _ q2) (by simp only; omega)
       obtain ⟨ab, hab⟩ : ∃ ab, ab = W4.heap.size := ⟨_, rfl⟩
       rw [← hab] at A8 na nl ⊢
       clear hab hW8 KA lay)
    | (obtain ⟨W8, hW8⟩ : ∃ W8, W8 = ((W4.setCell ⟨W1.heap.size, 0, none⟩ (.int .i64 er)).setCell ⟨W1.heap.size, 1, none⟩ (.bool d)).setCell ⟨W1.heap.size, 2, none⟩ (.int .i64 (lc : Int)) := ⟨_, rfl⟩
       rw [← hW8]
       have A8 : AB W8 W1.heap.size er d (lc : Int) := by
         rw [hW8]
         refine ⟨?_, ?_, ?_⟩ <;> go_simp
       have KA : Keeps (fun i => i = W1.heap.size) W4 W8 := by
         rw [hW8]
         exact ((Keeps.setCell (S := fun i => i = W1.heap.size) (Keeps.refl _ W4) (p := ⟨W1.heap.size, 0, none⟩) (fun _ => rfl) _).setCell (p := ⟨W1.heap.size, 1, none⟩) (fun _ => rfl) _).setCell (p := ⟨W1.heap.size, 2, none⟩) (fun _ => rfl) _
       have xs : Ext (fun r => r = 20) W4 W8 ρ4 ρ4 := ⟨KA.mono (fun i _ e => by rw [e]; exact a4), fun _ _ => rfl, fun i hi => .inr (R4.st.bnd i hi)⟩
       have R8 := R4.beside (xs.mono (fun _ e => by omega)) (fun i hi => R4.st.bnd i (Nat.le_trans KA.size hi))
       have F8 := FL.ext F4 xs (fun r _ a => by omega)
       have X8 : Ext Sf W W8 ρ ρ4 := (((HX.out.trans (HXB.out.1.mono (fun _ e => .inr (by omega)))).trans (Ext.alloc HXB.out.2.2 ((Keeps.refl _ _).drew)).1).trans (x4.mono (fun _ e => .inl e))).trans (xs.mono (fun _ e => .inr (by omega)))
       have L8 := KA.cell q2 (by show ¬ lb = W1.heap.size; omega)
       have na : ¬ W1.heap.size = fb := by omega
       have nl : ¬ W1.heap.size = lb := by omega
       obtain ⟨ab, hab⟩ : ∃ ab, ab = W1.heap.size := ⟨_, rfl⟩
       rw [← hab] at A8 na nl ⊢
       clear hab hW8 KA xs)
  all_goals
    obtain ⟨v0, v1, v2⟩ := A8
    have na' : ¬ fb = ab := fun e => na e.symm
    have nl' : ¬ lb = ab := fun e => nl e.symm
    have t0 := F8.ff.cs (1 + k * 9) (by omega)
    have t2 := F8.ff.cs (1 + k * 9 + 2) (by omega)
    have t3 := F8.ff.cs (1 + k * 9 + 3) (by omega)
    have t6 := F8.ff.cs (1 + k * 9 + 6) (by omega)
    have t38 := F8.ff.cs 38 (by omega)
    rw [e8] at t38
    have u0 := F8.ff.fz (1 + k * 9)
    have u2 := F8.ff.fz (1 + k * 9 + 2)
    have u3 := F8.ff.fz (1 + k * 9 + 3)
    have u6 := F8.ff.fz (1 + k * 9 + 6)
    have i2 : ¬ 1 + k * 9 + 2 = 38 := by omega
    have i3 : ¬ 1 + k * 9 + 3 = 38 := by omega
    have i2' : ¬ 38 = 1 + k * 9 + 2 := by omega
    have i3' : ¬ 38 = 1 + k * 9 + 3 := by omega
    have i6 : ¬ 1 + k * 9 + 6 = 38 := by omega
    have i6' : ¬ 38 = 1 + k * 9 + 6 := by omega
    have hw1 : (was.length : Int) - 1 = ((was.length - 1 : Nat) : Int) := by omega
    have HR8 : Hid (Rs W8 ρ4 1 2 7 rb wb mb s4 m4 n4) := R8
    have HF8 : Hid (FL W8 ρ4 fb rb fv c want was ws mk) := F8
    have HX8 : Hid (Ext Sf W W8 ρ ρ4) := X8
    have HD : Hid (Do s m1 ⟨8, (x : Int), 0, 0, ⟨0, 0, false⟩, false⟩ s4 m4 er d lc) := hd4
    have HO : Hid (Opn m n ⟨8, (x : Int), 0, 0, ⟨0, 0, false⟩, false⟩ m1 n4) := hop
    clear R8 F8 X8 hd4 hop F4 R4 x4 q0 q2 y0 hdo hdoB HXB
    go_wp2_with fail
    go_region_held3 (fun w' => w'.cell? ⟨lb, 2, none⟩ = some (.int .i64 (x : Int))) (go_keep) (fail)
    go_wp2_with fail
    go_region_held3 (fun w' => w'.cell? ⟨ab, 2, none⟩ = some (.int .i64 (lc : Int))) (go_keep) (fail)
    go_wp2_with fail
    obtain ⟨W9, hW9⟩ : ∃ W9, W9 = ((W8.setCell ⟨fb, 1 + k * 9 + 2, none⟩ (.int .i64 (x : Int))).setCell ⟨fb, 1 + k * 9 + 3, none⟩ (.int .i64 (lc : Int))).drew.drew := ⟨_, rfl⟩
    rw [← hW9]
    have V0 : W9.cell? ⟨ab, 0, none⟩ = some (.int .i64 er) := by rw [hW9]; go_simp
    obtain ⟨R9a, x9a⟩ := floor_set (o := 1 + k * 9 + 2) HR8.out HF8.out.ff (.int .i64 (x : Int))
    have F9a := HF8.out.set_obj hk x
    obtain ⟨R9b, x9b⟩ := floor_set (o := 1 + k * 9 + 3) R9a F9a.ff (.int .i64 (lc : Int))
    have F9b := F9a.set_loc hk lc
    rw [upd_self, upd_upd] at F9b
    have K9 : Keeps (fun _ => False) ((W8.setCell ⟨fb, 1 + k * 9 + 2, none⟩ (.int .i64 (x : Int))).setCell ⟨fb, 1 + k * 9 + 3, none⟩ (.int .i64 (lc : Int))) W9 := by rw [hW9]; exact ((Keeps.refl _ _).drew).drew
    have F9 := F9b.new K9
    have HR9 : Hid (Rs W9 ρ4 1 2 7 rb wb mb s4 m4 n4) := (R9b.new K9).1
    have HX9 : Hid (Ext Sf W W9 ρ ρ4) := ((HX8.out.trans (x9a.mono (fun _ e => .inr e))).trans (x9b.mono (fun _ e => .inr e))).trans (Ext.alloc R9b.st.bnd K9).1
    clear R9a x9a F9a R9b x9b F9b K9 hW9 HR8 HX8 HF8 t0 t6 u0 u6 t38
    have t0 := F9.ff.cs (1 + k * 9) (by omega)
    have t6 := F9.ff.cs (1 + k * 9 + 6) (by omega)
    have t38 := F9.ff.cs 38 (by omega)
    rw [fset_other (by omega), fset_other (by omega), e8] at t38
    have u0 := F9.ff.fz (1 + k * 9)
    have u6 := F9.ff.fz (1 + k * 9 + 6)
    have KZ : ∀ v, (W9.setCell ⟨fb, 1 + k * 9 + 6, none⟩ v).drew.cell? ⟨fb, 38, none⟩ = some (.slice a8 was.length c8) := fun v => by
      have h := (F9.ff.set (o := 1 + k * 9 + 6) (by omega) v).cs 38 (by omega)
      rw [fset_other (by omega), fset_other (by omega), fset_other (by omega), e8] at h
      exact ((Keeps.refl (fun _ => False) _).drew).cell h id
    have hw2 : IntKind.i64.wrap ((was.length - 1 : Nat) : Int) = ((was.length - 1 : Nat) : Int) := by rw [IntKind.wrap_i64]; omega
    obtain ⟨R9a, x9a⟩ := floor_set (o := 1 + k * 9 + 6) HR9.out F9.ff (.int .i64 ((was.length - 1 : Nat) : Int))
    have F9a := F9.set_since hk (was.length - 1)
    rw [upd_self, upd_upd] at F9a
    obtain ⟨R9b, x9b⟩ := floor_set (o := 1 + k * 9) R9a F9a.ff (.int .i64 ((1 : Nat) : Int))
    have F9b := F9a.set_at_ hk 1
    rw [upd_self, upd_upd] at F9b
    have HZ : Hid (∀ w', Keeps (fun _ => False) ((W9.setCell ⟨fb, 1 + k * 9 + 6, none⟩ (.int .i64 ((was.length - 1 : Nat) : Int))).setCell ⟨fb, 1 + k * 9, none⟩ (.int .i64 ((1 : Nat) : Int))) w' → Acs W ρ fb rb wb mb (fset (fset (fset (fset fv (1 + k * 9 + 2) (.int .i64 (x : Int))) (1 + k * 9 + 3) (.int .i64 (lc : Int))) (1 + k * 9 + 6) (.int .i64 ((was.length - 1 : Nat) : Int))) (1 + k * 9) (.int .i64 ((1 : Nat) : Int))) (upd c k { c k with at_ := 1, obj := x, loc := lc, since := was.length - 1 }) want was ws mk s m n ⟨8, (x : Int), 0, 0, ⟨0, 0, false⟩, false⟩ (.returned (.bool (er == 0))) w') := fun w' K => ⟨⟨er, d, lc, ρ4, s4, m1, m4, n4, rfl, HO.out, HD.out, (R9b.new K).1, F9b.new K, ((HX9.out.trans (x9a.mono (fun _ e => .inr e))).trans (x9b.mono (fun _ e => .inr e))).trans (Ext.alloc R9b.st.bnd K).1⟩⟩
    clear R9a x9a F9a R9b x9b F9b F9 HR9 HX9 HO HD
    go_region_held3 (fun w' => w'.cell? ⟨fb, 38, none⟩ = some (.slice a8 was.length c8)) (first | go_keep | exact KZ _) (fail)
    go_wp2_with fail
    go_ret
    exact HZ.out _ ((Keeps.refl _ _).drew)
end
end Go.Proofs.Ytdeiochjkbogpaa
