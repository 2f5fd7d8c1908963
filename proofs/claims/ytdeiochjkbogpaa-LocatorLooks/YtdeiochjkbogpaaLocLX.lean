import Derived.Test.YtdeiochjkbogpaaLocLY
namespace Go.Proofs.Ytdeiochjkbogpaa
open Go.RowKit
/-- Where a client stands behind its second look. -/
def nxt (own att : Nat) (nn : Int) : Nat := if own = att then 4 else if nn = 1 then 2 else 3
/-- What status leaves. -/
structure Sts (Wb : World) (fb rb wb mb k ow : Nat) (c : Nat → Cl) (want : List Vl) (was : List (List Vl)) (mk : Int) (s : Ws) (m : Mm) (n : Nat) (e : Ending) (w' : World) : Prop where
  ex : e = .returned (.bool true) ∧ ∃ d nn m1 m' n', Opn m n ⟨10, (ow : Int), 0, 0, ⟨0, 0, false⟩, false⟩ m1 n' ∧ Do s m1 ⟨10, (ow : Int), 0, 0, ⟨0, 0, false⟩, false⟩ s m' 0 d nn ∧ GX Wb (fun _ => False) fb rb wb mb s m' n' (upd c k { c k with at_ := nxt ow (c k).att nn, own := ow, cur := s.curV m' (c k).loc }) want was mk w'
section
variable {Wb W W' A B : World} {Q Q' : Nat → Prop} {fb rb wb mb n k : Nat} {s : Ws} {m : Mm} {c : Nat → Cl} {want : List Vl} {was : List (List Vl)} {mk : Int}
theorem looked_g (h : GX Wb Q fb rb wb mb s m n c want was mk W) (hk : k < 4) (hl : (c k).loc < s.locs.length) (hs : s.stat m (s.lo (c k).loc).owner = 1 ∨ s.stat m (s.lo (c k).loc).owner = 2 ∨ s.stat m (s.lo (c k).loc).owner = 3) (hv : s.curV m (c k).loc < s.vals.length) (hx : (c k).obj < s.objs.length) (hxw : (c k).obj < want.length) (hws : was.length ≤ 1000000) (hwl : ∀ i, i < was.length → (was.getD i []).length = want.length)
    (hseen : ∃ i, (c k).since ≤ i ∧ i < was.length ∧ (was.getD i []).getD (c k).obj vl0 = s.vl (s.curV m (c k).loc))
    (hcur : (s.stat m (s.lo (c k).loc).owner = 1 ∨ s.stat m (s.lo (c k).loc).owner = 2 ∧ m.val (s.ob (c k).obj) = ((c k).loc : Int)) → want.getD (c k).obj vl0 = s.vl (s.curV m (c k).loc)) :
    Calls Try.prog 52 #[.pointer (some ⟨fb, 0, none⟩), .int .i64 (k : Int), .int .i64 (s.stat m (s.lo (c k).loc).owner)] W fun e w' => e = .returned (.bool true) ∧ GX Wb Q fb rb wb mb s m n (upd c k { c k with cur := s.curV m (c k).loc }) want was mk w' ∧ Keeps (fun i => i = fb) W w' := by
  have hw := h.cells.2.2.2.2.1
  obtain ⟨ρ, fv, ws, R, F, q, kk, z⟩ := h
  refine (looked_ok hk R F hl hs hv hx hxw hws hwl hseen hcur).mono ?_
  rintro e w' ⟨rfl, F', K⟩
  have x : Ext (fun i => 8 ≤ i) W w' ρ ρ := ⟨K.mono (fun i _ e => by rw [e, F.ff.rf]; exact Nat.le_refl _), fun _ _ => rfl, fun i hi => .inr (R.st.bnd i hi)⟩
  exact ⟨rfl, ⟨ρ, _, ws, R.beside x (fun i hi => R.st.bnd i (Nat.le_trans K.size hi)), F', fun i hi => ⟨Nat.lt_of_lt_of_le (q i hi).1 K.size, (q i hi).2⟩, kk.trans' K (fun _ _ e => e) (fun i hi e => by omega), z⟩, K⟩
theorem GX.locator (h : GX Wb Q fb rb wb mb s m n c want was mk W) {i : Nat} (hi : i < s.locs.length) : Calls Try.prog 51 #[.pointer (some ⟨wb, 0, none⟩), .int .i64 (i : Int)] W fun e w' => e = .returned (.tuple #[.agg #[.int .i64 ((s.lo i).owner : Int), .int .i64 ((s.lo i).old : Int), .int .i64 ((s.lo i).new : Int)], .int .i64 0]) ∧ Keeps (fun _ => False) W w' := by
  obtain ⟨ρ, fv, ws, R, F, q, kk, z⟩ := h
  exact Locator_ok R.st hi
set_option maxHeartbeats 6400000 in
set_option maxRecDepth 1000000 in
/-- A client's second look. -/
theorem status_g (hG : GX Wb (fun _ => False) fb rb wb mb s m n c want was mk W) (hk : k < 4) (hn : n ≤ 2499999999999) {ow : Nat} (how : (s.lo (c k).loc).owner = ow) (hl : (c k).loc < s.locs.length) (hx : (c k).obj < s.objs.length) (hxw : (c k).obj < want.length) (hws : was.length ≤ 1000000) (hwl : ∀ i, i < was.length → (was.getD i []).length = want.length)
    (hst : ∀ {m1 n' s' m' er d nn}, Opn m n ⟨10, (ow : Int), 0, 0, ⟨0, 0, false⟩, false⟩ m1 n' → Do s m1 ⟨10, (ow : Int), 0, 0, ⟨0, 0, false⟩, false⟩ s' m' er d nn → er = 0 ∧ s' = s ∧ nn = s.stat m' ow ∧ (nn = 1 ∨ nn = 2 ∨ nn = 3) ∧ s.curV m' (c k).loc < s.vals.length ∧ (∃ i, (c k).since ≤ i ∧ i < was.length ∧ (was.getD i []).getD (c k).obj vl0 = s.vl (s.curV m' (c k).loc)) ∧ ((nn = 1 ∨ nn = 2 ∧ m'.val (s.ob (c k).obj) = ((c k).loc : Int)) → want.getD (c k).obj vl0 = s.vl (s.curV m' (c k).loc))) :
    Calls Try.prog 23 #[.pointer (some ⟨fb, 0, none⟩), .int .i64 (k : Int)] W fun e w' => Sts Wb fb rb wb mb k ow c want was mk s m n e w' := by
  have k1 : decide ((k : Int) < 4) = true := by simp; omega
  have k2 : decide (k < 4) = true := by simp [hk]
  have k3 : (0 : Int) ≤ (k : Int) := by omega
  have k4 : (k : Int) < 4 := by omega
  have kW : Keeps (fun _ => False) W W.drew := (Keeps.refl _ W).drew
  have hlo := fun W' (K : Keeps (fun _ => False) W W') => (hG.new K).locator hl
  rw [how] at hlo
  obtain ⟨l1, hl1⟩ : ∃ l1 : Int, l1 = ((s.lo (c k).loc).old : Int) := ⟨_, rfl⟩
  obtain ⟨l2, hl2⟩ : ∃ l2 : Int, l2 = ((s.lo (c k).loc).new : Int) := ⟨_, rfl⟩
  rw [← hl1, ← hl2] at hlo
  clear hl1 hl2
  obtain ⟨y0, _, lF, _, _, y1, _, _⟩ := hG.cells
  have y3 := (hG.cc hk).c3
  have n0 := World.new_ne W _ y0
  have n1 := World.new_ne W _ y1
  have HG : Hid (GX Wb (fun _ => False) fb rb wb mb s m n c want was mk W) := hG
  obtain ⟨lc, hlc⟩ : ∃ lc, Hid (lc = (c k).loc) := ⟨_, rfl⟩
  rw [← hlc.out] at y3 hlo
  clear hG
  go_enter Try.func23, Try.ntmps23
  go_wp2_with fail
  go_region_held3 (fun w' => w'.cell? ⟨fb, 0, none⟩ = some (.pointer (some ⟨rb, 0, none⟩)) ∧ w'.cell? ⟨rb, 1, none⟩ = some (.pointer (some ⟨wb, 0, none⟩)) ∧ w'.cell? ⟨fb, 1 + k * 9 + 3, none⟩ = some (.int .i64 (lc : Int))) (go_keep) (first | (go_at_call 51; (with_reducible refine (hlo _ kW).mono ?_); rintro e W4 ⟨rfl, K4⟩; have Kx := kW.trans K4; have q0 := Kx.cell y0 (fun e => e); have q1 := Kx.cell y1 (fun e => e); have q3 := Kx.cell y3 (fun e => e); have lay := True.intro) | (go_at_call 51; (with_reducible refine (hlo _ (((Keeps.refl (fun _ => False) W).alloc _).drew)).mono ?_); rintro e W4 ⟨rfl, K4⟩; have Kx := (((Keeps.refl (fun _ => False) W).alloc (.cells #[.int .i64 0, .int .i64 0, .int .i64 0] 94)).drew).trans K4; have q0 := Kx.cell y0 (fun e => e); have q1 := Kx.cell y1 (fun e => e); have q3 := Kx.cell y3 (fun e => e); have g0 := K4.cell (p := ⟨W.heap.size, 0, none⟩) (v := .int .i64 0) (by simp) (fun e => e); have g1 := K4.cell (p := ⟨W.heap.size, 1, none⟩) (v := .int .i64 0) (by simp) (fun e => e); have g2 := K4.cell (p := ⟨W.heap.size, 2, none⟩) (v := .int .i64 0) (by simp) (fun e => e); have zz : ∀ o, W4.frozen? ⟨W.heap.size, o, none⟩ = false := (fun o => (K4.frozen (p := ⟨W.heap.size, o, none⟩) (by simp) (fun e => e)).trans (by simp)); have z0 := zz 0; have z1 := zz 1; have z2 := zz 2))
  all_goals first
    | (obtain ⟨W1, hW1⟩ : ∃ W1, W1 = W4.alloc (.cells #[.int .i64 (ow : Int), .int .i64 l1, .int .i64 l2] 94) := ⟨_, rfl⟩
       rw [← hW1]
       have G1 := (HG.out.new Kx).lay (.cells #[.int .i64 (ow : Int), .int .i64 l1, .int .i64 l2] 94)
       rw [← hW1] at G1
       have D0 : W1.cell? ⟨W4.heap.size, 0, none⟩ = some (.int .i64 (ow : Int)) := by rw [hW1]; simp
       obtain ⟨lb, hlb⟩ : ∃ lb, lb = W4.heap.size := ⟨_, rfl⟩
       rw [← hlb] at D0 G1 ⊢
       clear hW1 hlb lay)
    | (obtain ⟨W1, hW1⟩ : ∃ W1, W1 = ((W4.setCell ⟨W.heap.size, 0, none⟩ (.int .i64 (ow : Int))).setCell ⟨W.heap.size, 1, none⟩ (.int .i64 l1)).setCell ⟨W.heap.size, 2, none⟩ (.int .i64 l2) := ⟨_, rfl⟩
       rw [← hW1]
       have KA : Keeps (fun i => i = W.heap.size) W4 W1 := by
         rw [hW1]
         exact ((Keeps.setCell (S := fun i => i = W.heap.size) (Keeps.refl _ W4) (p := ⟨W.heap.size, 0, none⟩) (fun _ => rfl) _).setCell (p := ⟨W.heap.size, 1, none⟩) (fun _ => rfl) _).setCell (p := ⟨W.heap.size, 2, none⟩) (fun _ => rfl) _
       have G1 := ((HG.out.lay (.cells #[.int .i64 0, .int .i64 0, .int .i64 0] 94)).new (((Keeps.refl _ _).drew).trans K4)).wr (.inr rfl) KA
       have D0 : W1.cell? ⟨W.heap.size, 0, none⟩ = some (.int .i64 (ow : Int)) := by rw [hW1]; go_simp
       obtain ⟨lb, hlb⟩ : ∃ lb, lb = W.heap.size := ⟨_, rfl⟩
       rw [← hlb] at D0 G1 ⊢
       clear hW1 hlb KA)
  all_goals
    have HG1 : Hid (GX Wb (fun k => False ∨ k = lb) fb rb wb mb s m n c want was mk W1) := G1
    obtain ⟨y0, _, lF2, nq, _, _, _, _⟩ := G1.cells
    have nlf : ¬ lb = fb := fun e => nq (.inr e.symm)
    have nlf' : ¬ fb = lb := fun e => nq (.inr e)
    have lL : lb < W1.heap.size := World.block_lt_of_cell? _ _ D0
    have n0 := World.new_ne W1 _ y0
    have n2 := World.new_ne W1 _ D0
    have hnu := fun W' => num_of W' 0
    clear G1 hlo q0 q1 q3 y3 y1
    go_wp2_with ((go_at_call 12; refine (hnu _).mono ?_; rintro e w' ⟨rfl, rfl⟩))
    have hdoA5 := (HG1.out.new ((Keeps.refl _ W1).drew)).does hn ⟨10, (ow : Int), 0, 0, ⟨0, 0, false⟩, false⟩
    have hdoB5 := ((HG1.out.lay (.cells #[.int .i64 0, .bool false, .int .i64 0] 67)).new ((Keeps.refl _ _).drew)).does hn ⟨10, (ow : Int), 0, 0, ⟨0, 0, false⟩, false⟩
    simp only [opv] at hdoA5 hdoB5
    go_region_held3 (fun w' => w'.cell? ⟨fb, 0, none⟩ = some (.pointer (some ⟨rb, 0, none⟩)) ∧ w'.cell? ⟨lb, 0, none⟩ = some (.int .i64 (ow : Int))) (go_keep) (first | (go_at_call 21; (with_reducible refine hdoA5.mono ?_); rintro e W45 ⟨er5, d5, nn5, s45, m15, m45, n45, rfl, hop5, hd5, G45, K45⟩; have q0 := G45.cells.1; have q2 := K45.cell (p := ⟨lb, 0, none⟩) (v := .int .i64 (ow : Int)) (by simpa using D0) (.inr rfl); have lay := True.intro) | (go_at_call 21; (with_reducible refine hdoB5.mono ?_); rintro e W45 ⟨er5, d5, nn5, s45, m15, m45, n45, rfl, hop5, hd5, G45, K45⟩; have q0 := G45.cells.1; have q2 := K45.cell (p := ⟨lb, 0, none⟩) (v := .int .i64 (ow : Int)) (by go_simp) (.inl (.inr rfl)); have g0 := K45.cell (p := ⟨W1.heap.size, 0, none⟩) (v := .int .i64 0) (by simp) (.inr rfl); have g1 := K45.cell (p := ⟨W1.heap.size, 1, none⟩) (v := .bool false) (by simp) (.inr rfl); have g2 := K45.cell (p := ⟨W1.heap.size, 2, none⟩) (v := .int .i64 0) (by simp) (.inr rfl); have zz : ∀ o, W45.frozen? ⟨W1.heap.size, o, none⟩ = false := (fun o => (Keeps.frozen K45 (p := ⟨W1.heap.size, o, none⟩) (by simp) (fun e => e.2.1 (.inr rfl))).trans (by simp)); have z0 := zz 0; have z1 := zz 1; have z2 := zz 2))
    all_goals first
      | (obtain ⟨W85, hW8⟩ : ∃ W8, W8 = W45.alloc (.cells #[.int .i64 er5, .bool d5, .int .i64 nn5] 67) := ⟨_, rfl⟩
         rw [← hW8]
         obtain ⟨G85, A85⟩ := G45.ans er5 d5 nn5
         rw [← hW8] at G85 A85
         have K85 : KQ Wb fb (fun k => False ∨ k = lb) W1 W85 := by
           rw [hW8]
           exact (KQ.new ((Keeps.refl _ W1).drew)).trans (K45.trans (KQ.new ((Keeps.refl _ _).alloc _)))
         obtain ⟨ab5, hab⟩ : ∃ ab, ab = W45.heap.size := ⟨_, rfl⟩
         rw [← hab] at G85 A85 ⊢
         clear hab hW8 lay)
      | (obtain ⟨W85, hW8⟩ : ∃ W8, W8 = ((W45.setCell ⟨W1.heap.size, 0, none⟩ (.int .i64 er5)).setCell ⟨W1.heap.size, 1, none⟩ (.bool d5)).setCell ⟨W1.heap.size, 2, none⟩ (.int .i64 nn5) := ⟨_, rfl⟩
         rw [← hW8]
         have A85 : AB W85 W1.heap.size er5 d5 nn5 := by
           rw [hW8]
           refine ⟨?_, ?_, ?_⟩ <;> go_simp
         have KA : Keeps (fun i => i = W1.heap.size) W45 W85 := by
           rw [hW8]
           exact ((Keeps.setCell (S := fun i => i = W1.heap.size) (Keeps.refl _ W45) (p := ⟨W1.heap.size, 0, none⟩) (fun _ => rfl) _).setCell (p := ⟨W1.heap.size, 1, none⟩) (fun _ => rfl) _).setCell (p := ⟨W1.heap.size, 2, none⟩) (fun _ => rfl) _
         have G85 := G45.wr (.inr rfl) KA
         have K85 : KQ Wb fb (fun k => False ∨ k = lb) W1 W85 := by
           have a1 : KQ Wb fb (fun k => False ∨ k = lb) W1 (W1.alloc (.cells #[.int .i64 0, .bool false, .int .i64 0] 67)).drew := KQ.new (((Keeps.refl _ W1).alloc _).drew)
           have a2 : KQ Wb fb (fun k => False ∨ k = lb) (W1.alloc (.cells #[.int .i64 0, .bool false, .int .i64 0] 67)).drew W45 := KQ.weak K45 (fun _ e => .inl e)
           exact (a1.trans a2).own KA (fun h => by omega)
         obtain ⟨ab5, hab⟩ : ∃ ab, ab = W1.heap.size := ⟨_, rfl⟩
         rw [← hab] at G85 A85 ⊢
         clear hab hW8 KA)
  all_goals
    obtain ⟨rfl, rfl, hnn, hs3, hcv, hseen, hcur⟩ := hst hop5 hd5
    obtain ⟨v0, v1, v2⟩ := A85
    have L8 := K85.cell D0 (.inr rfl)
    obtain ⟨_, _, _, nq8, _, _, _, _⟩ := G85.cells
    have na : ¬ ab5 = fb := fun e => nq8 (.inr e.symm)
    have na' : ¬ fb = ab5 := fun e => nq8 (.inr e)
    have hlk := looked_g G85 hk hl (by rw [how, ← hnn]; exact hs3) hcv hx hxw hws hwl hseen (by rw [how, ← hnn]; exact hcur)
    rw [how, ← hnn] at hlk
    have HO := (show Hid _ from hop5)
    have HD := (show Hid _ from hd5)
    clear G85 K85 hd5 hop5 hst hnn hs3 hcv hseen hcur hwl hdoA5 hdoB5 G45 K45 q0 q2
    go_wp2_with ((go_at_call 52; (with_reducible refine hlk.mono ?_); rintro e W9 ⟨rfl, G9, K9⟩; clear hlk; have D9 := K9.cell L8 nlf; have V9 := K9.cell v2 na))
    have T9 := (G9.cc hk).c4
    have z9 := G9.cells.2.1 (1 + k * 9 + 4)
    go_region_held3 (fun w' => w'.cell? ⟨lb, 0, none⟩ = some (.int .i64 (ow : Int))) (go_keep) (fail)
    obtain ⟨W10, hW10⟩ : ∃ W10, W10 = (W9.setCell ⟨fb, 1 + k * 9 + 4, none⟩ (.int .i64 (ow : Int))).drew := ⟨_, rfl⟩
    rw [← hW10]
    have G10 := (G9.set_own hk ow).new ((Keeps.refl (fun _ => False) _).drew)
    rw [upd_self, upd_upd, ← hW10] at G10
    have D10 : W10.cell? ⟨lb, 0, none⟩ = some (.int .i64 (ow : Int)) := by rw [hW10]; go_simp
    have V10 : W10.cell? ⟨ab5, 2, none⟩ = some (.int .i64 nn5) := by rw [hW10]; go_simp
    clear hW10 T9 z9 G9 K9 D9 V9 v0 v1 v2 L8
    have C0 := (G10.cc hk).c0
    have C1 := (G10.cc hk).c1
    rw [upd_self] at C0 C1
    have z0 := G10.cells.2.1 (1 + k * 9)
    have HG10 := (show Hid _ from G10)
    have HNX := (show Hid (nxt ow (c k).att nn5 = if ow = (c k).att then 4 else if nn5 = 1 then 2 else 3) from rfl)
    obtain ⟨at9, hat9⟩ : ∃ at9, Hid (at9 = (c k).att) := ⟨_, rfl⟩
    rw [← hat9.out] at C1
    clear G10
    have hE : ((nn5 == 1) = true ∧ nn5 = 1) ∨ ((nn5 == 1) = false ∧ nn5 ≠ 1) := by
      by_cases e : nn5 = 1
      · exact .inl ⟨by simp [e], e⟩
      · exact .inr ⟨by simp [e], e⟩
    rcases hE with ⟨E1, e1⟩ | ⟨E1, e1⟩
    · have HE1 := (show Hid _ from e1)
      clear e1
      go_wp2_with fail
      obtain ⟨W11, hW11⟩ : ∃ W11, W11 = (W10.setCell ⟨fb, 1 + k * 9, none⟩ (.int .i64 3)).setCell ⟨fb, 1 + k * 9, none⟩ (.int .i64 2) := ⟨_, rfl⟩
      have G11 := HG10.out.set_at_ hk 3
      rw [upd_self, upd_upd] at G11
      have G11 := G11.set_at_ hk 2
      rw [upd_self, upd_upd] at G11
      have D11 : W11.cell? ⟨lb, 0, none⟩ = some (.int .i64 (ow : Int)) := by rw [hW11]; go_simp
      have C11 : W11.cell? ⟨fb, 1 + k * 9 + 1, none⟩ = some (.int .i64 (at9 : Int)) := by rw [hW11]; go_simp
      have G12 := G11.eqW hW11
      rw [← hW11]
      clear hW11 G11 D10 V10 C0 C1 z0
      have C0 := (G12.cc hk).c0
      have z0 := G12.cells.2.1 (1 + k * 9)
      have HG12 := (show Hid _ from G12)
      clear G12
      have hE : (((ow : Int) == (at9 : Int)) = true ∧ (ow == at9) = true ∧ ow = at9) ∨ (((ow : Int) == (at9 : Int)) = false ∧ (ow == at9) = false ∧ ow ≠ at9) := by
        by_cases e : ow = at9
        · exact .inl ⟨by simp [e], by simp [e], e⟩
        · exact .inr ⟨by simp; omega, by simp [e], e⟩
      rcases hE with ⟨E2, E3, e1⟩ | ⟨E2, E3, e1⟩
      · have HE2 := (show Hid _ from e1)
        clear e1
        go_region_held3 (fun w' => w'.cell? ⟨lb, 0, none⟩ = some (.int .i64 (ow : Int)) ∧ w'.cell? ⟨fb, 1 + k * 9 + 1, none⟩ = some (.int .i64 (at9 : Int))) (go_keep) (fail)
        go_wp2_with fail
        go_ret
        refine ⟨rfl, d5, nn5, m15, m45, n45, HO.out, HD.out, ?_⟩
        have G13 := (HG12.out.new ((Keeps.refl (fun _ => False) _).drew)).set_at_ hk 4
        rw [upd_self, upd_upd] at G13
        rw [HNX.out, if_pos (HE2.out.trans hat9.out)]
        exact G13.weak (fun _ e => e.elim)
      · have HE2 := (show Hid _ from e1)
        clear e1
        go_region_held3 (fun w' => w'.cell? ⟨lb, 0, none⟩ = some (.int .i64 (ow : Int)) ∧ w'.cell? ⟨fb, 1 + k * 9 + 1, none⟩ = some (.int .i64 (at9 : Int))) (go_keep) (fail)
        go_wp2_with fail
        go_ret
        refine ⟨rfl, d5, nn5, m15, m45, n45, HO.out, HD.out, ?_⟩
        rw [HNX.out, if_neg (fun e => HE2.out (e.trans hat9.out.symm)), if_pos HE1.out]
        exact (HG12.out.new ((Keeps.refl (fun _ => False) _).drew)).weak (fun _ e => e.elim)
    · have HE1 := (show Hid _ from e1)
      clear e1
      go_wp2_with fail
      obtain ⟨W11, hW11⟩ : ∃ W11, W11 = W10.setCell ⟨fb, 1 + k * 9, none⟩ (.int .i64 3) := ⟨_, rfl⟩
      have G11 := HG10.out.set_at_ hk 3
      rw [upd_self, upd_upd] at G11
      have D11 : W11.cell? ⟨lb, 0, none⟩ = some (.int .i64 (ow : Int)) := by rw [hW11]; go_simp
      have C11 : W11.cell? ⟨fb, 1 + k * 9 + 1, none⟩ = some (.int .i64 (at9 : Int)) := by rw [hW11]; go_simp
      have G12 := G11.eqW hW11
      rw [← hW11]
      clear hW11 G11 D10 V10 C0 C1 z0
      have C0 := (G12.cc hk).c0
      have z0 := G12.cells.2.1 (1 + k * 9)
      have HG12 := (show Hid _ from G12)
      clear G12
      have hE : (((ow : Int) == (at9 : Int)) = true ∧ (ow == at9) = true ∧ ow = at9) ∨ (((ow : Int) == (at9 : Int)) = false ∧ (ow == at9) = false ∧ ow ≠ at9) := by
        by_cases e : ow = at9
        · exact .inl ⟨by simp [e], by simp [e], e⟩
        · exact .inr ⟨by simp; omega, by simp [e], e⟩
      rcases hE with ⟨E2, E3, e1⟩ | ⟨E2, E3, e1⟩
      · have HE2 := (show Hid _ from e1)
        clear e1
        go_region_held3 (fun w' => w'.cell? ⟨lb, 0, none⟩ = some (.int .i64 (ow : Int)) ∧ w'.cell? ⟨fb, 1 + k * 9 + 1, none⟩ = some (.int .i64 (at9 : Int))) (go_keep) (fail)
        go_wp2_with fail
        go_ret
        refine ⟨rfl, d5, nn5, m15, m45, n45, HO.out, HD.out, ?_⟩
        have G13 := (HG12.out.new ((Keeps.refl (fun _ => False) _).drew)).set_at_ hk 4
        rw [upd_self, upd_upd] at G13
        rw [HNX.out, if_pos (HE2.out.trans hat9.out)]
        exact G13.weak (fun _ e => e.elim)
      · have HE2 := (show Hid _ from e1)
        clear e1
        go_region_held3 (fun w' => w'.cell? ⟨lb, 0, none⟩ = some (.int .i64 (ow : Int)) ∧ w'.cell? ⟨fb, 1 + k * 9 + 1, none⟩ = some (.int .i64 (at9 : Int))) (go_keep) (fail)
        go_wp2_with fail
        go_ret
        refine ⟨rfl, d5, nn5, m15, m45, n45, HO.out, HD.out, ?_⟩
        rw [HNX.out, if_neg (fun e => HE2.out (e.trans hat9.out.symm)), if_neg HE1.out]
        exact (HG12.out.new ((Keeps.refl (fun _ => False) _).drew)).weak (fun _ e => e.elim)
end
end Go.Proofs.Ytdeiochjkbogpaa
