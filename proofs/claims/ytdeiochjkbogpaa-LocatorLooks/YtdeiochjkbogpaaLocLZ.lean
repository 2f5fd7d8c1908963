import Derived.Test.YtdeiochjkbogpaaLocGA
namespace Go.Proofs.Ytdeiochjkbogpaa
open Go.RowKit
/-- What acquire leaves. -/
structure Acq (Wb : World) (fb rb wb mb k L : Nat) (c : Nat → Cl) (want : List Vl) (was : List (List Vl)) (mk : Int) (s : Ws) (m : Mm) (n : Nat) (e : Ending) (w' : World) : Prop where
  ex : e = .returned (.bool true) ∧ ∃ s1 m1 n1 dA s2 m2 n2 d nB, StA s m n ⟨3, ((c k).att : Int), ((c k).cur : Int), 0, ⟨0, 0, false⟩, false⟩ s1 m1 n1 0 dA (L : Int) ∧ StA s1 m1 n1 ⟨9, ((c k).obj : Int), ((c k).loc : Int), (L : Int), ⟨0, 0, false⟩, false⟩ s2 m2 n2 0 d nB ∧ ((d = false ∧ GX Wb (fun _ => False) fb rb wb mb s2 m2 n2 (upd c k { c k with at_ := 0 }) want was mk w') ∨ (d = true ∧ ∃ s3 m3 n3 dC nC, StA s2 m2 n2 ⟨6, (L : Int), 0, 0, ⟨1000 + (mk + 1), 0, false⟩, false⟩ s3 m3 n3 0 dC nC ∧ GX Wb (fun _ => False) fb rb wb mb s3 m3 n3 (upd c k { c k with at_ := 4, held := (c k).held ++ [(c k).obj], put := (c k).put ++ [1000 + (mk + 1)] }) want was (mk + 1) w'))
section
variable {Wb W W' : World} {fb rb wb mb n k L : Nat} {s : Ws} {m : Mm} {c : Nat → Cl} {want : List Vl} {was : List (List Vl)} {mk : Int}
set_option maxHeartbeats 6400000 in
set_option maxRecDepth 1000000 in
/-- A client lays a locator over what it found. -/
theorem acquire_g (hG : GX Wb (fun _ => False) fb rb wb mb s m n c want was mk W) (hk : k < 4) (hn3 : n + 3 ≤ 2499999999999) (hmk : 0 ≤ mk) (hmk' : mk ≤ 1000000) (hl7 : (c k).held.length ≤ 1000000) (hl8 : (c k).put.length ≤ 1000000)
    (hA : ∀ {s' m' n' er d nn}, StA s m n ⟨3, ((c k).att : Int), ((c k).cur : Int), 0, ⟨0, 0, false⟩, false⟩ s' m' n' er d nn → er = 0 ∧ nn = (L : Int))
    (hB : ∀ {s1 m1 n1 dA s' m' n' er d nn}, StA s m n ⟨3, ((c k).att : Int), ((c k).cur : Int), 0, ⟨0, 0, false⟩, false⟩ s1 m1 n1 0 dA (L : Int) → StA s1 m1 n1 ⟨9, ((c k).obj : Int), ((c k).loc : Int), (L : Int), ⟨0, 0, false⟩, false⟩ s' m' n' er d nn → er = 0)
    (hC : ∀ {s1 m1 n1 dA s2 m2 n2 nB s' m' n' er d nn}, StA s m n ⟨3, ((c k).att : Int), ((c k).cur : Int), 0, ⟨0, 0, false⟩, false⟩ s1 m1 n1 0 dA (L : Int) → StA s1 m1 n1 ⟨9, ((c k).obj : Int), ((c k).loc : Int), (L : Int), ⟨0, 0, false⟩, false⟩ s2 m2 n2 0 true nB → StA s2 m2 n2 ⟨6, (L : Int), 0, 0, ⟨1000 + (mk + 1), 0, false⟩, false⟩ s' m' n' er d nn → er = 0) :
    Calls Try.prog 24 #[.pointer (some ⟨fb, 0, none⟩), .int .i64 (k : Int)] W fun e w' => Acq Wb fb rb wb mb k L c want was mk s m n e w' := by
  have k1 : decide ((k : Int) < 4) = true := by simp; omega
  have k2 : decide (k < 4) = true := by simp [hk]
  have k3 : (0 : Int) ≤ (k : Int) := by omega
  have k4 : (k : Int) < 4 := by omega
  have hn : n ≤ 2499999999999 := by omega
  have T := hG.cc hk
  have t0 := T.c0
  have t1 := T.c1
  have t2 := T.c2
  have t3 := T.c3
  have t4 := T.c4
  have t5 := T.c5
  have t6 := T.c6
  obtain ⟨ah, ch, t7, _⟩ := T.c7
  obtain ⟨ap, cp, t8, _⟩ := T.c8
  clear T
  obtain ⟨x0, h0⟩ : ∃ x, Hid (x = ((c k).at_ : Int)) := ⟨_, rfl⟩
  obtain ⟨xa, ha⟩ : ∃ x, Hid (x = (c k).att) := ⟨_, rfl⟩
  obtain ⟨xo, ho⟩ : ∃ x, Hid (x = (c k).obj) := ⟨_, rfl⟩
  obtain ⟨xl, hl⟩ : ∃ x, Hid (x = (c k).loc) := ⟨_, rfl⟩
  obtain ⟨xw, hw⟩ : ∃ x, Hid (x = ((c k).own : Int)) := ⟨_, rfl⟩
  obtain ⟨xc, hc⟩ : ∃ x, Hid (x = (c k).cur) := ⟨_, rfl⟩
  obtain ⟨xs, hs⟩ : ∃ x, Hid (x = ((c k).since : Int)) := ⟨_, rfl⟩
  obtain ⟨n7, e7⟩ : ∃ x, Hid (x = (c k).held.length) := ⟨_, rfl⟩
  obtain ⟨n8, e8⟩ : ∃ x, Hid (x = (c k).put.length) := ⟨_, rfl⟩
  rw [← h0.out] at t0
  rw [← ha.out] at t1 hA hB hC
  rw [← ho.out] at t2 hB hC
  rw [← hl.out] at t3 hB hC
  rw [← hw.out] at t4
  rw [← hc.out] at t5 hA hB hC
  rw [← hs.out] at t6
  rw [← e7.out] at t7
  rw [← e8.out] at t8
  obtain ⟨W1, hW1⟩ : ∃ W1, W1 = W.alloc (.cells #[.int .i64 x0, .int .i64 (xa : Int), .int .i64 (xo : Int), .int .i64 (xl : Int), .int .i64 xw, .int .i64 (xc : Int), .int .i64 xs, .slice ah n7 ch, .slice ap n8 cp] 36) := ⟨_, rfl⟩
  have G1 := hG.lay (.cells #[.int .i64 x0, .int .i64 (xa : Int), .int .i64 (xo : Int), .int .i64 (xl : Int), .int .i64 xw, .int .i64 (xc : Int), .int .i64 xs, .slice ah n7 ch, .slice ap n8 cp] 36)
  rw [← hW1] at G1
  have B1 : W1.cell? ⟨W.heap.size, 1, none⟩ = some (.int .i64 (xa : Int)) := by rw [hW1]; simp
  have B2 : W1.cell? ⟨W.heap.size, 2, none⟩ = some (.int .i64 (xo : Int)) := by rw [hW1]; simp
  have B3 : W1.cell? ⟨W.heap.size, 3, none⟩ = some (.int .i64 (xl : Int)) := by rw [hW1]; simp
  have B5 : W1.cell? ⟨W.heap.size, 5, none⟩ = some (.int .i64 (xc : Int)) := by rw [hW1]; simp
  clear hG
  go_enter Try.func24, Try.ntmps24
  go_wp2_with fail
  rw [← hW1]
  clear hW1 t0 t1 t2 t3 t4 t5 t6 t7 t8
  generalize W.heap.size = cb at *
  have HG1 : Hid (GX Wb (fun k => False ∨ k = cb) fb rb wb mb s m n c want was mk W1) := G1
  obtain ⟨y0, _, lF, nq, _, _, _, _⟩ := G1.cells
  have ncf : ¬ cb = fb := fun e => nq (.inr e.symm)
  have ncf' : ¬ fb = cb := fun e => nq (.inr e)
  have lC : cb < W1.heap.size := World.block_lt_of_cell? _ _ B1
  have n0 := World.new_ne W1 _ y0
  have n2 := World.new_ne W1 _ B1
  clear G1
  apply wp_cut (R := fun F e a w => DN Wb (fun k => False ∨ k = cb) fb rb wb mb (c) want was mk s m n ⟨3, (xa : Int), (xc : Int), 0, ⟨0, 0, false⟩, false⟩ W1 F e a w)
  case h =>
    have hdoA2 := (HG1.out.new ((Keeps.refl _ W1).drew)).does hn ⟨3, (xa : Int), (xc : Int), 0, ⟨0, 0, false⟩, false⟩
    have hdoB2 := ((HG1.out.lay (.cells #[.int .i64 0, .bool false, .int .i64 0] 67)).new ((Keeps.refl _ _).drew)).does hn ⟨3, (xa : Int), (xc : Int), 0, ⟨0, 0, false⟩, false⟩
    simp only [opv] at hdoA2 hdoB2
    go_region_held3 (fun w' => w'.cell? ⟨fb, 0, none⟩ = some (.pointer (some ⟨rb, 0, none⟩)) ∧ w'.cell? ⟨cb, 1, none⟩ = some (.int .i64 (xa : Int)) ∧ w'.cell? ⟨cb, 5, none⟩ = some (.int .i64 (xc : Int))) (go_keep) (first | (go_at_call 21; (with_reducible refine hdoA2.mono ?_); rintro e W42 ⟨er2, d2, nn2, s42, m12, m42, n42, rfl, hop2, hd2, G42, K42⟩; have q0 := G42.cells.1; have p0 := K42.cell (p := ⟨cb, 1, none⟩) (v := .int .i64 (xa : Int)) (by simpa using B1) (.inr rfl); have p1 := K42.cell (p := ⟨cb, 5, none⟩) (v := .int .i64 (xc : Int)) (by simpa using B5) (.inr rfl); have lay := True.intro) | (go_at_call 21; (with_reducible refine hdoB2.mono ?_); rintro e W42 ⟨er2, d2, nn2, s42, m12, m42, n42, rfl, hop2, hd2, G42, K42⟩; have q0 := G42.cells.1; have p0 := K42.cell (p := ⟨cb, 1, none⟩) (v := .int .i64 (xa : Int)) (by go_simp) (.inl (.inr rfl)); have p1 := K42.cell (p := ⟨cb, 5, none⟩) (v := .int .i64 (xc : Int)) (by go_simp) (.inl (.inr rfl)); have g0 := K42.cell (p := ⟨W1.heap.size, 0, none⟩) (v := .int .i64 0) (by simp) (.inr rfl); have g1 := K42.cell (p := ⟨W1.heap.size, 1, none⟩) (v := .bool false) (by simp) (.inr rfl); have g2 := K42.cell (p := ⟨W1.heap.size, 2, none⟩) (v := .int .i64 0) (by simp) (.inr rfl); have zz : ∀ o, W42.frozen? ⟨W1.heap.size, o, none⟩ = false := (fun o => (Keeps.frozen K42 (p := ⟨W1.heap.size, o, none⟩) (by simp) (fun e => e.2.1 (.inr rfl))).trans (by simp)); have z0 := zz 0; have z1 := zz 1; have z2 := zz 2))
    all_goals first
      | (obtain ⟨W82, hW8⟩ : ∃ W8, W8 = W42.alloc (.cells #[.int .i64 er2, .bool d2, .int .i64 nn2] 67) := ⟨_, rfl⟩
         rw [← hW8]
         obtain ⟨G82, A82⟩ := G42.ans er2 d2 nn2
         rw [← hW8] at G82 A82
         have K82 : KQ Wb fb (fun k => False ∨ k = cb) W1 W82 := by
           rw [hW8]
           exact (KQ.new ((Keeps.refl _ W1).drew)).trans (K42.trans (KQ.new ((Keeps.refl _ _).alloc _)))
         obtain ⟨ab2, hab⟩ : ∃ ab, ab = W42.heap.size := ⟨_, rfl⟩
         rw [← hab] at G82 A82 ⊢
         clear hab hW8 lay)
      | (obtain ⟨W82, hW8⟩ : ∃ W8, W8 = ((W42.setCell ⟨W1.heap.size, 0, none⟩ (.int .i64 er2)).setCell ⟨W1.heap.size, 1, none⟩ (.bool d2)).setCell ⟨W1.heap.size, 2, none⟩ (.int .i64 nn2) := ⟨_, rfl⟩
         rw [← hW8]
         have A82 : AB W82 W1.heap.size er2 d2 nn2 := by
           rw [hW8]
           refine ⟨?_, ?_, ?_⟩ <;> go_simp
         have KA : Keeps (fun i => i = W1.heap.size) W42 W82 := by
           rw [hW8]
           exact ((Keeps.setCell (S := fun i => i = W1.heap.size) (Keeps.refl _ W42) (p := ⟨W1.heap.size, 0, none⟩) (fun _ => rfl) _).setCell (p := ⟨W1.heap.size, 1, none⟩) (fun _ => rfl) _).setCell (p := ⟨W1.heap.size, 2, none⟩) (fun _ => rfl) _
         have G82 := G42.wr (.inr rfl) KA
         have K82 : KQ Wb fb (fun k => False ∨ k = cb) W1 W82 := by
           have a1 : KQ Wb fb (fun k => False ∨ k = cb) W1 (W1.alloc (.cells #[.int .i64 0, .bool false, .int .i64 0] 67)).drew := KQ.new (((Keeps.refl _ W1).alloc _).drew)
           have a2 : KQ Wb fb (fun k => False ∨ k = cb) (W1.alloc (.cells #[.int .i64 0, .bool false, .int .i64 0] 67)).drew W42 := KQ.weak K42 (fun _ e => .inl e)
           exact (a1.trans a2).own KA (fun h => by omega)
         obtain ⟨ab2, hab⟩ : ∃ ab, ab = W1.heap.size := ⟨_, rfl⟩
         rw [← hab] at G82 A82 ⊢
         clear hab hW8 KA)
    all_goals exact ⟨rfl, ab2, er2, d2, nn2, s42, m12, m42, n42, rfl, G82, A82, K82, hop2, hd2⟩
  case hq =>
    rintro _ _ W82 ⟨rfl, ab2, er2, d2, nn2, s42, m12, m42, n42, rfl, G82, A82, K82, hop2, hd2⟩
    obtain ⟨rfl, rfl⟩ := hA ⟨_, hop2, hd2⟩
    have HA2 : Hid (StA s m n ⟨3, (xa : Int), (xc : Int), 0, ⟨0, 0, false⟩, false⟩ s42 m42 n42 0 d2 (L : Int)) := ⟨_, hop2, hd2⟩
    have hn5 : n42 ≤ 2499999999999 := by have := opn_le hop2; omega
    have HN5 : Hid (n42 ≤ n + 1) := opn_le hop2
    obtain ⟨v0, v1, v2⟩ := A82
    have L2 := K82.cell B2 (.inr rfl)
    have L3 := K82.cell B3 (.inr rfl)
    have HG5 : Hid (GX Wb (fun k => (False ∨ k = cb) ∨ k = ab2) fb rb wb mb s42 m42 n42 c want was mk W82) := G82
    obtain ⟨y0, _, lF2, nq2, _, _, _, _⟩ := G82.cells
    have naf : ¬ ab2 = fb := fun e => nq2 (.inr e.symm)
    have naf' : ¬ fb = ab2 := fun e => nq2 (.inr e)
    have lC2 : cb < W82.heap.size := World.block_lt_of_cell? _ _ L2
    have lA2 : ab2 < W82.heap.size := World.block_lt_of_cell? _ _ v0
    have n0 := World.new_ne W82 _ y0
    have n2 := World.new_ne W82 _ L2
    have n3 := World.new_ne W82 _ v0
    clear hop2 hd2 G82 K82 B1 B2 B3 B5
    (try simp only [Exit.then])
    go_wp2_with fail
    apply wp_cut (R := fun F e a w => DN Wb (fun k => (False ∨ k = cb) ∨ k = ab2) fb rb wb mb (c) want was mk s42 m42 n42 ⟨9, (xo : Int), (xl : Int), (L : Int), ⟨0, 0, false⟩, false⟩ W82 F e a w)
    case h =>
      have hdoA5 := (HG5.out.new ((Keeps.refl _ W82).drew)).does hn5 ⟨9, (xo : Int), (xl : Int), (L : Int), ⟨0, 0, false⟩, false⟩
      have hdoB5 := ((HG5.out.lay (.cells #[.int .i64 0, .bool false, .int .i64 0] 67)).new ((Keeps.refl _ _).drew)).does hn5 ⟨9, (xo : Int), (xl : Int), (L : Int), ⟨0, 0, false⟩, false⟩
      simp only [opv] at hdoA5 hdoB5
      go_region_held3 (fun w' => w'.cell? ⟨fb, 0, none⟩ = some (.pointer (some ⟨rb, 0, none⟩)) ∧ w'.cell? ⟨cb, 2, none⟩ = some (.int .i64 (xo : Int)) ∧ w'.cell? ⟨cb, 3, none⟩ = some (.int .i64 (xl : Int)) ∧ w'.cell? ⟨ab2, 2, none⟩ = some (.int .i64 (L : Int))) (go_keep) (first | (go_at_call 21; (with_reducible refine hdoA5.mono ?_); rintro e W45 ⟨er5, d5, nn5, s45, m15, m45, n45, rfl, hop5, hd5, G45, K45⟩; have q0 := G45.cells.1; have p0 := K45.cell (p := ⟨cb, 2, none⟩) (v := .int .i64 (xo : Int)) (by simpa using L2) (.inl (.inr rfl)); have p1 := K45.cell (p := ⟨cb, 3, none⟩) (v := .int .i64 (xl : Int)) (by simpa using L3) (.inl (.inr rfl)); have p2 := K45.cell (p := ⟨ab2, 2, none⟩) (v := .int .i64 (L : Int)) (by simpa using v2) (.inr rfl); have lay := True.intro) | (go_at_call 21; (with_reducible refine hdoB5.mono ?_); rintro e W45 ⟨er5, d5, nn5, s45, m15, m45, n45, rfl, hop5, hd5, G45, K45⟩; have q0 := G45.cells.1; have p0 := K45.cell (p := ⟨cb, 2, none⟩) (v := .int .i64 (xo : Int)) (by go_simp) (.inl (.inl (.inr rfl))); have p1 := K45.cell (p := ⟨cb, 3, none⟩) (v := .int .i64 (xl : Int)) (by go_simp) (.inl (.inl (.inr rfl))); have p2 := K45.cell (p := ⟨ab2, 2, none⟩) (v := .int .i64 (L : Int)) (by go_simp) (.inl (.inr rfl)); have g0 := K45.cell (p := ⟨W82.heap.size, 0, none⟩) (v := .int .i64 0) (by simp) (.inr rfl); have g1 := K45.cell (p := ⟨W82.heap.size, 1, none⟩) (v := .bool false) (by simp) (.inr rfl); have g2 := K45.cell (p := ⟨W82.heap.size, 2, none⟩) (v := .int .i64 0) (by simp) (.inr rfl); have zz : ∀ o, W45.frozen? ⟨W82.heap.size, o, none⟩ = false := (fun o => (Keeps.frozen K45 (p := ⟨W82.heap.size, o, none⟩) (by simp) (fun e => e.2.1 (.inr rfl))).trans (by simp)); have z0 := zz 0; have z1 := zz 1; have z2 := zz 2))
      all_goals first
        | (obtain ⟨W85, hW8⟩ : ∃ W8, W8 = W45.alloc (.cells #[.int .i64 er5, .bool d5, .int .i64 nn5] 67) := ⟨_, rfl⟩
           rw [← hW8]
           obtain ⟨G85, A85⟩ := G45.ans er5 d5 nn5
           rw [← hW8] at G85 A85
           have K85 : KQ Wb fb (fun k => (False ∨ k = cb) ∨ k = ab2) W82 W85 := by
             rw [hW8]
             exact (KQ.new ((Keeps.refl _ W82).drew)).trans (K45.trans (KQ.new ((Keeps.refl _ _).alloc _)))
           obtain ⟨ab5, hab⟩ : ∃ ab, ab = W45.heap.size := ⟨_, rfl⟩
           rw [← hab] at G85 A85 ⊢
           clear hab hW8 lay)
        | (obtain ⟨W85, hW8⟩ : ∃ W8, W8 = ((W45.setCell ⟨W82.heap.size, 0, none⟩ (.int .i64 er5)).setCell ⟨W82.heap.size, 1, none⟩ (.bool d5)).setCell ⟨W82.heap.size, 2, none⟩ (.int .i64 nn5) := ⟨_, rfl⟩
           rw [← hW8]
           have A85 : AB W85 W82.heap.size er5 d5 nn5 := by
             rw [hW8]
             refine ⟨?_, ?_, ?_⟩ <;> go_simp
           have KA : Keeps (fun i => i = W82.heap.size) W45 W85 := by
             rw [hW8]
             exact ((Keeps.setCell (S := fun i => i = W82.heap.size) (Keeps.refl _ W45) (p := ⟨W82.heap.size, 0, none⟩) (fun _ => rfl) _).setCell (p := ⟨W82.heap.size, 1, none⟩) (fun _ => rfl) _).setCell (p := ⟨W82.heap.size, 2, none⟩) (fun _ => rfl) _
           have G85 := G45.wr (.inr rfl) KA
           have K85 : KQ Wb fb (fun k => (False ∨ k = cb) ∨ k = ab2) W82 W85 := by
             have a1 : KQ Wb fb (fun k => (False ∨ k = cb) ∨ k = ab2) W82 (W82.alloc (.cells #[.int .i64 0, .bool false, .int .i64 0] 67)).drew := KQ.new (((Keeps.refl _ W82).alloc _).drew)
             have a2 : KQ Wb fb (fun k => (False ∨ k = cb) ∨ k = ab2) (W82.alloc (.cells #[.int .i64 0, .bool false, .int .i64 0] 67)).drew W45 := KQ.weak K45 (fun _ e => .inl e)
             exact (a1.trans a2).own KA (fun h => by omega)
           obtain ⟨ab5, hab⟩ : ∃ ab, ab = W82.heap.size := ⟨_, rfl⟩
           rw [← hab] at G85 A85 ⊢
           clear hab hW8 KA)
      all_goals exact ⟨rfl, ab5, er5, d5, nn5, s45, m15, m45, n45, rfl, G85, A85, K85, hop5, hd5⟩
    case hq =>
      rintro _ _ W85 ⟨rfl, ab5, er5, d5, nn5, s45, m15, m45, n45, rfl, G85, A85, K85, hop5, hd5⟩
      obtain rfl := hB HA2.out ⟨_, hop5, hd5⟩
      have HA5 : Hid (StA s42 m42 n42 ⟨9, (xo : Int), (xl : Int), (L : Int), ⟨0, 0, false⟩, false⟩ s45 m45 n45 0 d5 nn5) := ⟨_, hop5, hd5⟩
      have hn11 : n45 ≤ 2499999999999 := by have := opn_le hop5; have := HN5.out; omega
      obtain ⟨u0, u1, u2⟩ := A85
      have M2 := K85.cell L2 (.inl (.inr rfl))
      have N2 := K85.cell v2 (.inr rfl)
      obtain ⟨_, zf, _, nq5, _, _, c39, _⟩ := G85.cells
      have nbf : ¬ ab5 = fb := fun e => nq5 (.inr e.symm)
      have nbf' : ¬ fb = ab5 := fun e => nq5 (.inr e)
      have t0 := (G85.cc hk).c0
      have z0 := zf (1 + k * 9)
      have z39 := zf 39
      have i39 : ¬ 1 + k * 9 = 39 := by omega
      have i39' : ¬ 39 = 1 + k * 9 := by omega
      have W1m : IntKind.i64.wrap (mk + 1) = mk + 1 := by rw [IntKind.wrap_i64]; omega
      have W1n : IntKind.i64.wrap (1000 + (mk + 1)) = 1000 + (mk + 1) := by rw [IntKind.wrap_i64]; omega
      have HG8 := (show Hid _ from G85)
      clear hop5 hd5 G85 K85 L2 L3 v0 v1 v2 y0 zf
      (try simp only [Exit.then])
      cases d5 with
      | false =>
        go_wp2_with fail
        go_ret
        refine ⟨rfl, s42, m42, n42, d2, s45, m45, n45, false, nn5, by rw [← ha.out, ← hc.out]; exact HA2.out, by rw [← ho.out, ← hl.out]; exact HA5.out, .inl ⟨rfl, ?_⟩⟩
        exact (HG8.out.set_at_ hk 0).weak (fun _ e => e.elim)
      | true =>
        go_wp2_with fail
        have G10a := (HG8.out.set_at_ hk 0).set_mk (mk + 1)
        obtain ⟨W10, hW10⟩ : ∃ W10, W10 = (W85.setCell ⟨fb, 1 + k * 9, none⟩ (.int .i64 0)).setCell ⟨fb, 39, none⟩ (.int .i64 (mk + 1)) := ⟨_, rfl⟩
        have G10 := G10a.eqW hW10
        have M10 : W10.cell? ⟨cb, 2, none⟩ = some (.int .i64 (xo : Int)) := by rw [hW10]; go_simp
        have N10 : W10.cell? ⟨ab2, 2, none⟩ = some (.int .i64 (L : Int)) := by rw [hW10]; go_simp
        rw [← hW10]
        clear hW10 HG8 t0 z0 z39 c39 M2 N2 u0 u1 u2 G10a W1m
        have HG10 := (show Hid (GX Wb (fun k => ((False ∨ k = cb) ∨ k = ab2) ∨ k = ab5) fb rb wb mb s45 m45 n45 (upd c k { c k with at_ := 0 }) want was (mk + 1) W10) from G10)
        obtain ⟨y0, _, lF3, nq3, _, _, y39, _⟩ := G10.cells
        have lC3 : cb < W10.heap.size := World.block_lt_of_cell? _ _ M10
        have lA3 : ab2 < W10.heap.size := World.block_lt_of_cell? _ _ N10
        have n0 := World.new_ne W10 _ y0
        have n2 := World.new_ne W10 _ M10
        have n3 := World.new_ne W10 _ N10
        clear G10
        apply wp_cut (R := fun F e a w => DN Wb (fun k => ((False ∨ k = cb) ∨ k = ab2) ∨ k = ab5) fb rb wb mb (upd c k { c k with at_ := 0 }) want was (mk + 1) s45 m45 n45 ⟨6, (L : Int), 0, 0, ⟨1000 + (mk + 1), 0, false⟩, false⟩ W10 F e a w)
        case h =>
          have hdoA11 := (HG10.out.new ((Keeps.refl _ W10).drew)).does hn11 ⟨6, (L : Int), 0, 0, ⟨1000 + (mk + 1), 0, false⟩, false⟩
          have hdoB11 := ((HG10.out.lay (.cells #[.int .i64 0, .bool false, .int .i64 0] 67)).new ((Keeps.refl _ _).drew)).does hn11 ⟨6, (L : Int), 0, 0, ⟨1000 + (mk + 1), 0, false⟩, false⟩
          simp only [opv] at hdoA11 hdoB11
          go_region_held3 (fun w' => w'.cell? ⟨fb, 0, none⟩ = some (.pointer (some ⟨rb, 0, none⟩)) ∧ w'.cell? ⟨ab2, 2, none⟩ = some (.int .i64 (L : Int)) ∧ w'.cell? ⟨fb, 39, none⟩ = some (.int .i64 (mk + 1))) (go_keep) (first | (go_at_call 21; (with_reducible refine hdoA11.mono ?_); rintro e W411 ⟨er11, d11, nn11, s411, m111, m411, n411, rfl, hop11, hd11, G411, K411⟩; have q0 := G411.cells.1; have p0 := K411.cell (p := ⟨ab2, 2, none⟩) (v := .int .i64 (L : Int)) (by simpa using N10) (.inl (.inr rfl)); have q39 := G411.cells.2.2.2.2.2.2.1; have lay := True.intro) | (go_at_call 21; (with_reducible refine hdoB11.mono ?_); rintro e W411 ⟨er11, d11, nn11, s411, m111, m411, n411, rfl, hop11, hd11, G411, K411⟩; have q0 := G411.cells.1; have p0 := K411.cell (p := ⟨ab2, 2, none⟩) (v := .int .i64 (L : Int)) (by go_simp) (.inl (.inl (.inr rfl))); have q39 := G411.cells.2.2.2.2.2.2.1; have g0 := K411.cell (p := ⟨W10.heap.size, 0, none⟩) (v := .int .i64 0) (by simp) (.inr rfl); have g1 := K411.cell (p := ⟨W10.heap.size, 1, none⟩) (v := .bool false) (by simp) (.inr rfl); have g2 := K411.cell (p := ⟨W10.heap.size, 2, none⟩) (v := .int .i64 0) (by simp) (.inr rfl); have zz : ∀ o, W411.frozen? ⟨W10.heap.size, o, none⟩ = false := (fun o => (Keeps.frozen K411 (p := ⟨W10.heap.size, o, none⟩) (by simp) (fun e => e.2.1 (.inr rfl))).trans (by simp)); have z0 := zz 0; have z1 := zz 1; have z2 := zz 2))
          all_goals first
            | (obtain ⟨W811, hW8⟩ : ∃ W8, W8 = W411.alloc (.cells #[.int .i64 er11, .bool d11, .int .i64 nn11] 67) := ⟨_, rfl⟩
               rw [← hW8]
               obtain ⟨G811, A811⟩ := G411.ans er11 d11 nn11
               rw [← hW8] at G811 A811
               have K811 : KQ Wb fb (fun k => ((False ∨ k = cb) ∨ k = ab2) ∨ k = ab5) W10 W811 := by
                 rw [hW8]
                 exact (KQ.new ((Keeps.refl _ W10).drew)).trans (K411.trans (KQ.new ((Keeps.refl _ _).alloc _)))
               obtain ⟨ab11, hab⟩ : ∃ ab, ab = W411.heap.size := ⟨_, rfl⟩
               rw [← hab] at G811 A811 ⊢
               clear hab hW8 lay)
            | (obtain ⟨W811, hW8⟩ : ∃ W8, W8 = ((W411.setCell ⟨W10.heap.size, 0, none⟩ (.int .i64 er11)).setCell ⟨W10.heap.size, 1, none⟩ (.bool d11)).setCell ⟨W10.heap.size, 2, none⟩ (.int .i64 nn11) := ⟨_, rfl⟩
               rw [← hW8]
               have A811 : AB W811 W10.heap.size er11 d11 nn11 := by
                 rw [hW8]
                 refine ⟨?_, ?_, ?_⟩ <;> go_simp
               have KA : Keeps (fun i => i = W10.heap.size) W411 W811 := by
                 rw [hW8]
                 exact ((Keeps.setCell (S := fun i => i = W10.heap.size) (Keeps.refl _ W411) (p := ⟨W10.heap.size, 0, none⟩) (fun _ => rfl) _).setCell (p := ⟨W10.heap.size, 1, none⟩) (fun _ => rfl) _).setCell (p := ⟨W10.heap.size, 2, none⟩) (fun _ => rfl) _
               have G811 := G411.wr (.inr rfl) KA
               have K811 : KQ Wb fb (fun k => ((False ∨ k = cb) ∨ k = ab2) ∨ k = ab5) W10 W811 := by
                 have a1 : KQ Wb fb (fun k => ((False ∨ k = cb) ∨ k = ab2) ∨ k = ab5) W10 (W10.alloc (.cells #[.int .i64 0, .bool false, .int .i64 0] 67)).drew := KQ.new (((Keeps.refl _ W10).alloc _).drew)
                 have a2 : KQ Wb fb (fun k => ((False ∨ k = cb) ∨ k = ab2) ∨ k = ab5) (W10.alloc (.cells #[.int .i64 0, .bool false, .int .i64 0] 67)).drew W411 := KQ.weak K411 (fun _ e => .inl e)
                 exact (a1.trans a2).own KA (fun h => by omega)
               obtain ⟨ab11, hab⟩ : ∃ ab, ab = W10.heap.size := ⟨_, rfl⟩
               rw [← hab] at G811 A811 ⊢
               clear hab hW8 KA)
          all_goals exact ⟨rfl, ab11, er11, d11, nn11, s411, m111, m411, n411, rfl, G811, A811, K811, hop11, hd11⟩
        case hq =>
          rintro _ _ W811 ⟨rfl, ab11, er11, d11, nn11, s411, m111, m411, n411, rfl, G811, A811, K811, hop11, hd11⟩
          obtain rfl := hC HA2.out HA5.out ⟨_, hop11, hd11⟩
          have HA11 : Hid (StA s45 m45 n45 ⟨6, (L : Int), 0, 0, ⟨1000 + (mk + 1), 0, false⟩, false⟩ s411 m411 n411 0 d11 nn11) := ⟨_, hop11, hd11⟩
          obtain ⟨u0, u1, u2⟩ := A811
          have M11 := K811.cell M10 (.inl (.inl (.inr rfl)))
          have HG11 := (show Hid (GX Wb (fun k => (((False ∨ k = cb) ∨ k = ab2) ∨ k = ab5) ∨ k = ab11) fb rb wb mb s411 m411 n411 (upd c k { c k with at_ := 0 }) want was (mk + 1) W811) from G811)
          obtain ⟨a7, p7, T7, O7, Q7⟩ := G811.own7 hk
          simp only [upd_self] at T7 O7 Q7
          rw [← e7.out] at T7 O7 Q7
          have z7 := G811.cells.2.1 (1 + k * 9 + 7)
          have lF4 := G811.cells.2.2.1
          have HO7 : Hid (W811.ownsRow 0 3 1 (.slice a7 n7 p7) n7 (nis (c k).held)) := O7
          have HT7 : Hid (W811.cell? ⟨fb, 1 + k * 9 + 7, none⟩ = some (.slice a7 n7 p7)) := T7
          have nw7 : ¬ some fb = (Value.slice a7 n7 p7).ownBlock := fun e => (Q7 fb e.symm).1 rfl
          have lC4 : cb < W811.heap.size := World.block_lt_of_cell? _ _ M11
          have n0 := World.new_ne W811 _ T7
          have n2 := World.new_ne W811 _ M11
          obtain ⟨i0, hi0, hz0, hz1, hz2⟩ := info_parts infoO
          have h63 : n7 + 1 ≤ maxLen := by unfold maxLen; have := e7.out; omega
          have hby : (n7 + 1) * 8 ≤ 140737488355328 := by have := e7.out; omega
          have q1 : ∀ ob, (W811.alloc ob).cell? ⟨fb, 1 + k * 9 + 7, none⟩ = some (.slice a7 n7 p7) := fun ob => ((Keeps.refl (fun _ => False) W811).alloc ob).cell T7 (fun e => e)
          have ka : ∀ (ob : Obj), (W811.alloc ob).drew.cell? ⟨fb, 1 + k * 9 + 7, none⟩ = some (.slice a7 n7 p7) ∧ (W811.alloc ob).drew.frozen? ⟨fb, 1 + k * 9 + 7, none⟩ = false := fun ob =>
            ⟨(((Keeps.refl (fun _ => False) W811).alloc ob).drew).cell T7 (fun e => e), ((((Keeps.refl (fun _ => False) W811).alloc ob).drew).frozen (p := ⟨fb, 1 + k * 9 + 7, none⟩) lF4 (fun e => e)).trans z7⟩
          clear hop11 hd11 G811 K811 M10 N10 y0 y39 O7 Q7
          (try simp only [Exit.then])
          go_wp2_with fail
          apply wp_cut5 (S := fun w => GX Wb (fun k => (((False ∨ k = cb) ∨ k = ab2) ∨ k = ab5) ∨ k = ab11) fb rb wb mb s411 m411 n411 (upd c k { c k with at_ := 0, held := (c k).held ++ [xo] }) want was (mk + 1) w) (G := fun a gg cap => ((((((((((((((((a.put (some 75) (.pointer (some ⟨fb, 0, none⟩))).put (some 76) (.int .i64 (k : Int))).put (some 77) (.pointer (some ⟨fb, 0, none⟩))).put (some 78) (.int .i64 (k : Int))).put (some 79) (.pointer (some ⟨fb, 0, none⟩))).put (some 80) (.pointer (some ⟨fb, 1, none⟩))).put (some 81) (.pointer (some ⟨fb, 1 + k * 9, none⟩))).put (some 82) (.pointer (some ⟨fb, 1 + k * 9 + 7, none⟩))).put (some 83) (.slice a7 n7 p7)).put (some 84) (.pointer (some ⟨cb, 2, none⟩))).put (some 85) (.int .i64 (xo : Int))).put (some 86) (.slice (some ⟨W811.heap.size, 0, none⟩) 1 1)).put (some 87) (.slice (some ⟨gg, 0, none⟩) (n7 + 1) cap)).put (some 88) (.pointer (some ⟨fb, 0, none⟩))).put (some 89) (.pointer (some ⟨fb, 1, none⟩))).put (some 90) (.pointer (some ⟨fb, 1 + k * 9, none⟩))).put (some 91) (.pointer (some ⟨fb, 1 + k * 9 + 7, none⟩)))
          case h =>
            intro F14 Q14 hF14 hQ14
            go_region_law ((refine step_append_lies _ (by rfl) _ _ _ (by rfl) 0 3 i0 _ 1 8 underO hi0 hz0 hz1 hz2 rfl (by omega) (.slice a7 n7 p7) n7 (nis (c k).held) (by rfl) ((HO7.out.alloc _).drew) ⟨W811.heap.size, 0, none⟩ 1 1 [.int .i64 (xo : Int)] (by rfl) (by rfl) (World.news_of_block (cs := #[.int .i64 (xo : Int)]) (t := 3) (fr := (0, 0)) (heap_alloc_new W811 _)) (by simp [Value.oneCell']) (by omega) h63 hby (Nat.zero_le _) (W811.heap.size + 1) (by simp) ?_; intro gg cap1 w4 hown1 hgrow hat hlt1; have r1 := (hgrow.cell_far ⟨fb, 1 + k * 9 + 7, none⟩ (by simp; omega) nw7).trans (ka _).1; have r2 := (hgrow.frozen_far ⟨fb, 1 + k * 9 + 7, none⟩ (by simp; omega) nw7).trans (ka _).2))
            all_goals
              have hl1 : ((c k).held ++ [xo]).length = n7 + 1 := by rw [List.length_append, List.length_singleton, ← e7.out]
              have hn1 : nis ((c k).held ++ [xo]) = nis (c k).held ++ [.int .i64 (xo : Int)] := by simp [nis]
              have G12 := HG11.out.app7 hk (xs := (c k).held ++ [xo]) (((Keeps.refl (fun _ => False) W811).alloc _).drew) HT7.out hgrow (by rw [hl1, hn1]; exact hown1) (hat.imp id (fun e => by rw [e]; simp))
              rw [hl1, upd_upd] at G12
              simp only [upd_self] at G12
              have G7 := hQ14.out gg cap1 _ G12
              rw [hF14.out] at G7
              change Q14 _ _
              refine cast ?_ G7
              go_simp
          case hq =>
            intro gg cap1 W12 G12
            have HG12 := (show Hid _ from G12)
            obtain ⟨a8, p8, T8, O8, Q8⟩ := G12.own8 hk
            simp only [upd_self] at T8 O8 Q8
            rw [← e8.out] at T8 O8 Q8
            obtain ⟨_, zf, lF5, _, _, _, y39, _⟩ := G12.cells
            have z8 := zf (1 + k * 9 + 8)
            have HO8 : Hid (W12.ownsRow 0 2 1 (.slice a8 n8 p8) n8 (iis (c k).put)) := O8
            have HT8 : Hid (W12.cell? ⟨fb, 1 + k * 9 + 8, none⟩ = some (.slice a8 n8 p8)) := T8
            have nw8 : ¬ some fb = (Value.slice a8 n8 p8).ownBlock := fun e => (Q8 fb e.symm).1 rfl
            have n5 := World.new_ne W12 _ T8
            obtain ⟨i1, hi1, hy0, hy1, hy2⟩ := info_parts infoI64
            have h64 : n8 + 1 ≤ maxLen := by unfold maxLen; have := e8.out; omega
            have hbz : (n8 + 1) * 8 ≤ 140737488355328 := by have := e8.out; omega
            have q2 : ∀ ob, (W12.alloc ob).cell? ⟨fb, 1 + k * 9 + 8, none⟩ = some (.slice a8 n8 p8) := fun ob => ((Keeps.refl (fun _ => False) W12).alloc ob).cell T8 (fun e => e)
            have q3 : ∀ ob, (W12.alloc ob).cell? ⟨fb, 39, none⟩ = some (.int .i64 (mk + 1)) := fun ob => ((Keeps.refl (fun _ => False) W12).alloc ob).cell y39 (fun e => e)
            have kb : ∀ (ob : Obj), (W12.alloc ob).drew.cell? ⟨fb, 1 + k * 9 + 8, none⟩ = some (.slice a8 n8 p8) ∧ (W12.alloc ob).drew.frozen? ⟨fb, 1 + k * 9 + 8, none⟩ = false := fun ob =>
              ⟨(((Keeps.refl (fun _ => False) W12).alloc ob).drew).cell T8 (fun e => e), ((((Keeps.refl (fun _ => False) W12).alloc ob).drew).frozen (p := ⟨fb, 1 + k * 9 + 8, none⟩) lF5 (fun e => e)).trans z8⟩
            clear G12 T7 HT7 HO7 ka q1 HG11 O8 Q8 zf
            (try simp only [Exit.then])
            go_wp2_with fail
            apply wp_cut5 (S := fun w => GX Wb (fun k => (((False ∨ k = cb) ∨ k = ab2) ∨ k = ab5) ∨ k = ab11) fb rb wb mb s411 m411 n411 (upd c k { c k with at_ := 0, held := (c k).held ++ [xo], put := (c k).put ++ [1000 + (mk + 1)] }) want was (mk + 1) w) (G := fun a gg cap => (((((((((((((((((((a.put (some 92) (.pointer (some ⟨fb, 0, none⟩))).put (some 93) (.int .i64 (k : Int))).put (some 94) (.pointer (some ⟨fb, 0, none⟩))).put (some 95) (.int .i64 (k : Int))).put (some 96) (.pointer (some ⟨fb, 0, none⟩))).put (some 97) (.pointer (some ⟨fb, 1, none⟩))).put (some 98) (.pointer (some ⟨fb, 1 + k * 9, none⟩))).put (some 99) (.pointer (some ⟨fb, 1 + k * 9 + 8, none⟩))).put (some 100) (.slice a8 n8 p8)).put (some 101) (.pointer (some ⟨fb, 0, none⟩))).put (some 102) (.pointer (some ⟨fb, 0, none⟩))).put (some 103) (.pointer (some ⟨fb, 39, none⟩))).put (some 104) (.int .i64 (mk + 1))).put (some 105) (.int .i64 (1000 + (mk + 1)))).put (some 106) (.slice (some ⟨W12.heap.size, 0, none⟩) 1 1)).put (some 107) (.slice (some ⟨gg, 0, none⟩) (n8 + 1) cap)).put (some 108) (.pointer (some ⟨fb, 0, none⟩))).put (some 109) (.pointer (some ⟨fb, 1, none⟩))).put (some 110) (.pointer (some ⟨fb, 1 + k * 9, none⟩))).put (some 111) (.pointer (some ⟨fb, 1 + k * 9 + 8, none⟩)))
            case h =>
              intro F15 Q15 hF15 hQ15
              go_region_law ((refine step_append_lies _ (by rfl) _ _ _ (by rfl) 0 2 i1 _ 1 8 underI64 hi1 hy0 hy1 hy2 rfl (by omega) (.slice a8 n8 p8) n8 (iis (c k).put) (by rfl) ((HO8.out.alloc _).drew) ⟨W12.heap.size, 0, none⟩ 1 1 [.int .i64 (1000 + (mk + 1))] (by rfl) (by rfl) (World.news_of_block (cs := #[.int .i64 (1000 + (mk + 1))]) (t := 2) (fr := (0, 0)) (heap_alloc_new W12 _)) (by simp [Value.oneCell']) (by omega) h64 hbz (Nat.zero_le _) (W12.heap.size + 1) (by simp) ?_; intro gh cap2 w4 hown1 hgrow hat hlt1; have r1 := (hgrow.cell_far ⟨fb, 1 + k * 9 + 8, none⟩ (by simp; omega) nw8).trans (kb _).1; have r2 := (hgrow.frozen_far ⟨fb, 1 + k * 9 + 8, none⟩ (by simp; omega) nw8).trans (kb _).2))
              all_goals
                have hl1 : ((c k).put ++ [1000 + (mk + 1)]).length = n8 + 1 := by rw [List.length_append, List.length_singleton, ← e8.out]
                have hn1 : iis ((c k).put ++ [1000 + (mk + 1)]) = iis (c k).put ++ [.int .i64 (1000 + (mk + 1))] := by simp [iis]
                have G13 := HG12.out.app8 hk (xs := (c k).put ++ [1000 + (mk + 1)]) (((Keeps.refl (fun _ => False) W12).alloc _).drew) HT8.out hgrow (by rw [hl1, hn1]; exact hown1) (hat.imp id (fun e => by rw [e]; simp))
                rw [hl1, upd_upd] at G13
                simp only [upd_self] at G13
                have G7 := hQ15.out gh cap2 _ G13
                rw [hF15.out] at G7
                change Q15 _ _
                refine cast ?_ G7
                go_simp
            case hq =>
              intro gh cap2 W13 G13
              have HG13 := (show Hid _ from G13)
              have t0 := (G13.cc hk).c0
              have z0 := G13.cells.2.1 (1 + k * 9)
              clear G13
              (try simp only [Exit.then])
              go_wp2_with fail
              go_ret
              refine ⟨rfl, s42, m42, n42, d2, s45, m45, n45, true, nn5, by rw [← ha.out, ← hc.out]; exact HA2.out, by rw [← ho.out, ← hl.out]; exact HA5.out, .inr ⟨rfl, s411, m411, n411, d11, nn11, HA11.out, ?_⟩⟩
              have G14 := HG13.out.set_at_ hk 4
              rw [upd_upd] at G14
              simp only [upd_self] at G14
              rw [← ho.out]
              exact G14.weak (fun _ e => e.elim)
end
end Go.Proofs.Ytdeiochjkbogpaa
