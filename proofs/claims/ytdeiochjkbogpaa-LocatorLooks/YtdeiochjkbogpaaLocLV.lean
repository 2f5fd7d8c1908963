import Derived.Test.YtdeiochjkbogpaaLocLU
namespace Go.Proofs.Ytdeiochjkbogpaa
open Go.RowKit
section
variable {W W' : World} {ρ ρ' : Nat → Nat} {fb rb wb mb n k : Nat} {s : Ws} {m : Mm} {fv : Nat → Value} {c : Nat → Cl} {want : List Vl} {was : List (List Vl)} {ws : List Value} {mk : Int}
set_option maxHeartbeats 3200000 in
set_option maxRecDepth 1000000 in
/-- The claim of the two looks is asked. -/
theorem looked_ok (hk : k < 4) (R : Rs W ρ 1 2 7 rb wb mb s m n) (F : FL W ρ fb rb fv c want was ws mk) (hl : (c k).loc < s.locs.length) (hs : s.stat m (s.lo (c k).loc).owner = 1 ∨ s.stat m (s.lo (c k).loc).owner = 2 ∨ s.stat m (s.lo (c k).loc).owner = 3) (hv : s.curV m (c k).loc < s.vals.length) (hx : (c k).obj < s.objs.length) (hxw : (c k).obj < want.length) (hws : was.length ≤ 1000000) (hwl : ∀ i, i < was.length → (was.getD i []).length = want.length)
    (hseen : ∃ i, (c k).since ≤ i ∧ i < was.length ∧ (was.getD i []).getD (c k).obj vl0 = s.vl (s.curV m (c k).loc))
    (hcur : (s.stat m (s.lo (c k).loc).owner = 1 ∨ s.stat m (s.lo (c k).loc).owner = 2 ∧ m.val (s.ob (c k).obj) = ((c k).loc : Int)) → want.getD (c k).obj vl0 = s.vl (s.curV m (c k).loc)) :
    Calls Try.prog 52 #[.pointer (some ⟨fb, 0, none⟩), .int .i64 (k : Int), .int .i64 (s.stat m (s.lo (c k).loc).owner)] W fun e w' => e = .returned (.bool true) ∧ FL w' ρ fb rb (fset fv (1 + k * 9 + 5) (.int .i64 ((s.curV m (c k).loc : Nat) : Int))) (upd c k { c k with cur := s.curV m (c k).loc }) want was ws mk ∧ Keeps (fun i => i = fb) W w' := by
  have k1 : decide ((k : Int) < 4) = true := by simp; omega
  have k2 : decide (k < 4) = true := by simp [hk]
  have k3 : (0 : Int) ≤ (k : Int) := by omega
  have k4 : (k : Int) < 4 := by omega
  have lF := F.ff.lt
  have nf : ¬ fb = W.heap.size := by omega
  have nf' : ¬ W.heap.size = fb := by omega
  have t0 := F.ff.cs (1 + k * 9) (by omega)
  have t1 := F.ff.cs (1 + k * 9 + 1) (by omega)
  have t2 := F.ff.cs (1 + k * 9 + 2) (by omega)
  have t3 := F.ff.cs (1 + k * 9 + 3) (by omega)
  have t4 := F.ff.cs (1 + k * 9 + 4) (by omega)
  have t5 := F.ff.cs (1 + k * 9 + 5) (by omega)
  have t6 := F.ff.cs (1 + k * 9 + 6) (by omega)
  have t7 := F.ff.cs (1 + k * 9 + 7) (by omega)
  have t8 := F.ff.cs (1 + k * 9 + 8) (by omega)
  obtain ⟨ah, ch, eh, _⟩ := F.held hk
  obtain ⟨ap, cp, ep, _⟩ := F.puts hk
  rw [F.a0 k hk] at t0
  rw [F.a1 k hk] at t1
  rw [F.a2 k hk] at t2
  rw [F.a3 k hk] at t3
  rw [F.a4 k hk] at t4
  rw [F.a5 k hk] at t5
  rw [F.a6 k hk] at t6
  rw [eh] at t7
  rw [ep] at t8
  have HR : Hid (Rs W ρ 1 2 7 rb wb mb s m n) := R
  have HF : Hid (FL W ρ fb rb fv c want was ws mk) := F
  clear F R
  go_enter Try.func52, Try.ntmps52
  go_wp2_with fail
  obtain ⟨W1, hW1⟩ : ∃ W1, W1 = W.alloc (.cells #[.int .i64 ((c k).at_ : Int), .int .i64 ((c k).att : Int), .int .i64 ((c k).obj : Int), .int .i64 ((c k).loc : Int), .int .i64 ((c k).own : Int), .int .i64 ((c k).cur : Int), .int .i64 ((c k).since : Int), .slice ah (c k).held.length ch, .slice ap (c k).put.length cp] 36) := ⟨_, rfl⟩
  rw [← hW1]
  have K1 : Keeps (fun _ => False) W W1 := by rw [hW1]; exact (Keeps.refl _ W).alloc _
  have d2 : W1.cell? ⟨W.heap.size, 2, none⟩ = some (.int .i64 ((c k).obj : Int)) := by rw [hW1]; simp
  have d3 : W1.cell? ⟨W.heap.size, 3, none⟩ = some (.int .i64 ((c k).loc : Int)) := by rw [hW1]; simp
  have d6 : W1.cell? ⟨W.heap.size, 6, none⟩ = some (.int .i64 ((c k).since : Int)) := by rw [hW1]; simp
  have R1 := (HR.out.new K1).1
  have F1 := FL.new HF.out K1
  have y0 := F1.ff.cs 0 (by omega)
  rw [F1.f0] at y0
  have y1 := R1.c1
  have hcu := fun W' (K : Keeps (fun _ => False) W1 W') => Current_ok (R1.new K).1.st hl hs
  have hho := fun W' (K : Keeps (fun _ => False) W1 W') => holds_ok (R1.new K).1 hv
  have hce := fun W' (K : Keeps (fun _ => False) W1 W') => cellOf_ok (R1.new K).1 hx
  have HR1 : Hid (Rs W1 ρ 1 2 7 rb wb mb s m n) := R1
  have HF1 : Hid (FL W1 ρ fb rb fv c want was ws mk) := F1
  clear hW1 t0 t1 t2 t3 t4 t5 t6 t7 t8 R1 F1
  generalize W.heap.size = lb at *
  go_region_held3 (fun w' => w'.cell? ⟨fb, 0, none⟩ = some (.pointer (some ⟨rb, 0, none⟩)) ∧ w'.cell? ⟨rb, 1, none⟩ = some (.pointer (some ⟨wb, 0, none⟩)) ∧ w'.cell? ⟨lb, 3, none⟩ = some (.int .i64 ((c k).loc : Int))) (go_keep) ((go_at_call 65; (with_reducible refine (hcu _ ((Keeps.refl _ W1).drew)).mono ?_); rintro e w' ⟨rfl, rfl⟩))
  go_wp2_with (first | (go_at_call 12; refine (num_of _ _).mono ?_; rintro e w' ⟨rfl, rfl⟩) | (go_at_call 66; (with_reducible refine (hho _ ((Keeps.refl _ W1).drew)).mono ?_); rintro e W2 ⟨rfl, K2⟩; have g6 := K2.cell (((Keeps.refl (fun _ => False) W1).drew).cell d6 id) id; have n6 := (fun ob => ((Keeps.refl (fun _ => False) W2).alloc ob).cell g6 id); simp only [vv]))
  obtain ⟨W3, hW3⟩ : ∃ W3, W3 = W2.alloc (.cells #[.int .i64 (s.vl (s.curV m (c k).loc)).num, .int .i64 (s.vl (s.curV m (c k).loc)).next, .bool (s.vl (s.curV m (c k).loc)).dead] 52) := ⟨_, rfl⟩
  rw [← hW3]
  have K3 : Keeps (fun _ => False) W1 W3 := by rw [hW3]; exact (((Keeps.refl _ W1).drew).trans K2).alloc _
  have v0 : W3.cell? ⟨W2.heap.size, 0, none⟩ = some (.int .i64 (s.vl (s.curV m (c k).loc)).num) := by rw [hW3]; simp
  have v1 : W3.cell? ⟨W2.heap.size, 1, none⟩ = some (.int .i64 (s.vl (s.curV m (c k).loc)).next) := by rw [hW3]; simp
  have v2 : W3.cell? ⟨W2.heap.size, 2, none⟩ = some (.bool (s.vl (s.curV m (c k).loc)).dead) := by rw [hW3]; simp
  replace d2 := K3.cell d2 id
  replace d3 := K3.cell d3 id
  clear d6 g6 n6 hcu hho hW3 K2 y0 y1
  generalize W2.heap.size = vb at *
  generalize s.vl (s.curV m (c k).loc) = v at *
  go_loopw [12, 13] (fun sv iv wr => ∃ (i : Nat) (b : Bool), (c k).since ≤ i ∧ i ≤ was.length ∧ sv = .bool b ∧ iv = .int .i64 (i : Int) ∧ Keeps (fun _ => False) W3 wr ∧ Hid (b = true ↔ ∃ j, (c k).since ≤ j ∧ j < i ∧ (was.getD j []).getD (c k).obj vl0 = v)) (fun _ iv _ => was.length - (intOf iv).toNat)
  case atStart => 
    refine ⟨(c k).since, false, Nat.le_refl _, ?_, rfl, rfl, Keeps.refl _ _, ?_⟩
    · obtain ⟨i, a, b, _⟩ := hseen
      omega
    · exact ⟨fun e => (by cases e), fun ⟨j, a, b, _⟩ => by omega⟩
  case round =>
    obtain ⟨i, b, hi0, hi, rfl, rfl, hk3, hb⟩ := hrel
    have F4 := FL.new HF1.out (K3.trans hk3)
    by_cases hlt : i < was.length
    · have hltI : (i : Int) < (was.length : Int) := by omega
      obtain ⟨g, cap, a', c', e38, _, z0, zv, _⟩ := F4.lists_at hlt
      have z38 := F4.ff.cs 38 (by omega)
      rw [e38] at z38
      obtain ⟨b1, o1, rfl, x0, x1, x2⟩ := zv.at (i := (c k).obj) (by rw [hwl i hlt]; exact hxw)
      have hil : ((c k).obj : Int) < ((was.getD i []).length : Int) := by rw [hwl i hlt]; omega
      have hb' := hk3.cell d2 id
      obtain ⟨u, hu⟩ : ∃ u, u = (was.getD i []).getD (c k).obj vl0 := ⟨_, rfl⟩
      rw [← hu] at x0 x1 x2
      have HU : Hid (u = (was.getD i []).getD (c k).obj vl0) := hu
      clear hu
      have HB : Hid (b = true ↔ ∃ j, (c k).since ≤ j ∧ j < i ∧ (was.getD j []).getD (c k).obj vl0 = v) := hb.out
      clear hb
      obtain ⟨L, hL⟩ : ∃ L, L = (was.getD i []).length := ⟨_, rfl⟩
      rw [← hL] at z0 hil
      clear hL
      have x0' := ks_cell x0
      have x1' := ks_cell x1
      have x2' := ks_cell x2
      have z0' := ks_cell z0
      have z38' := ks_cell z38
      have d2' := ks_cell hb'
      have v0' := ks_cell (hk3.cell v0 id)
      have v1' := ks_cell (hk3.cell v1 id)
      have v2' := ks_cell (hk3.cell v2 id)
      have hNE : Nonempty (KS wr) := ⟨⟨wr, Keeps.refl _ wr⟩⟩
      clear x0 x1 x2 z0 hb' F4 zv d2 v0 v1 v2
      have hcase : u = v ∨ (u ≠ v ∧ ¬ u.num = v.num) ∨ (u ≠ v ∧ u.num = v.num ∧ ¬ u.next = v.next) ∨ (u ≠ v ∧ u.num = v.num ∧ u.next = v.next ∧ ¬ u.dead = v.dead) := by
        obtain ⟨a1, a2, a3⟩ := u
        obtain ⟨b1, b2, b3⟩ := v
        by_cases p1 : a1 = b1 <;> by_cases p2 : a2 = b2 <;> by_cases p3 : a3 = b3 <;> simp_all
      rcases hcase with rfl | ⟨ne, p1⟩ | ⟨ne, p1, p2⟩ | ⟨ne, p1, p2, p3⟩
      · go_wp2_with fail
        refine wp_region_ks (by kernel_rfl) (by kernel_rfl) ?_
        repeat (go_big_quiet_step (fail))
        refine wpQuiet_nil ?_
        rintro _ ⟨U, rfl⟩
        have KU := hk3.trans U.property
        clear x0' x1' x2' z0' z38' d2' v0' v1' v2' hNE
        generalize U.val = wu at *
        go_wp2_with fail
        go_roundw
        case rel => exact ⟨i + 1, true, by omega, by omega, rfl, by go_num, KU, ⟨fun _ => ⟨i, hi0, by omega, HU.out.symm⟩, fun _ => rfl⟩⟩
        case measure => simp [intOf]; omega
      all_goals
        have HN : Hid (u ≠ v) := ne
        clear ne
        go_wp2_with fail
        refine wp_region_ks (by kernel_rfl) (by kernel_rfl) ?_
        repeat (go_big_quiet_step (fail))
        refine wpQuiet_nil ?_
        rintro _ ⟨U, rfl⟩
        have KU := hk3.trans U.property
        clear x0' x1' x2' z0' z38' d2' v0' v1' v2' hNE
        generalize U.val = wu at *
        go_wp2_with fail
        go_roundw
        case rel =>
          refine ⟨i + 1, b, by omega, by omega, rfl, by go_num, KU, ⟨fun e => ?_, fun ⟨j, j1, j2, j3⟩ => HB.out.2 ⟨j, j1, ?_, j3⟩⟩⟩
          · obtain ⟨j, j1, j2, j3⟩ := HB.out.1 e
            exact ⟨j, j1, by omega, j3⟩
          · rcases Nat.lt_or_ge j i with q | q
            · exact q
            · obtain rfl : j = i := by omega
              exact absurd (HU.out.trans j3) HN.out
        case measure => simp [intOf]; omega
    · obtain rfl : i = was.length := by omega
      obtain rfl : b = true := hb.out.2 (by
        obtain ⟨j, j1, j2, j3⟩ := hseen
        exact ⟨j, j1, j2, j3⟩)
      have hltI : ¬ (was.length : Int) < (was.length : Int) := by omega
      obtain ⟨_, ⟨a8, c8, e8⟩⟩ := F4.lens
      have z38 := F4.ff.cs 38 (by omega)
      rw [e8] at z38
      have y0 := F4.ff.cs 0 (by omega)
      rw [F4.f0] at y0
      have g2 := hk3.cell d2 id
      clear hb F4
      have HC : Hid ((s.stat m (s.lo (c k).loc).owner = 1 ∨ s.stat m (s.lo (c k).loc).owner = 2 ∧ m.val (s.ob (c k).obj) = ((c k).loc : Int)) → want.getD (c k).obj vl0 = v) := hcur
      clear hcur hseen
      go_wp2_with fail
      go_region_held3 (fun w' => w'.cell? ⟨fb, 0, none⟩ = some (.pointer (some ⟨rb, 0, none⟩)) ∧ w'.cell? ⟨lb, 2, none⟩ = some (.int .i64 ((c k).obj : Int))) (go_keep) ((go_at_call 67; (with_reducible refine (hce _ ((K3.trans hk3).drew)).mono ?_); rintro e w' ⟨rfl, rfl⟩))
      obtain ⟨W4, hW4⟩ : ∃ W4, W4 = wr.drew := ⟨_, rfl⟩
      rw [← hW4]
      have K4 : Keeps (fun _ => False) W3 W4 := by rw [hW4]; exact hk3.drew
      have F5 := FL.new HF1.out (K3.trans K4)
      obtain ⟨aw, cw, e37, wv, _⟩ := F5.wants
      have z37 := F5.ff.cs 37 (by omega)
      rw [e37] at z37
      obtain ⟨b1, o1, rfl, x0, x1, x2⟩ := wv.at hxw
      have hil : ((c k).obj : Int) < (want.length : Int) := by omega
      have g3 := K4.cell d3 id
      replace g2 := K4.cell d2 id
      replace v0 := K4.cell v0 id
      replace v1 := K4.cell v1 id
      replace v2 := K4.cell v2 id
      have t5 := F5.ff.cs (1 + k * 9 + 5) (by omega)
      have u5 := F5.ff.fz (1 + k * 9 + 5)
      have HK : Hid (Keeps (fun _ => False) W W4) := K1.trans (K3.trans K4)
      clear hW4 F5 wv hce K4 hk3 K3 K1 y0 z38 d2 d3 hl hv hx hwl
      generalize hst : s.stat m (s.lo (c k).loc).owner = st at *
      generalize m.val (s.ob (c k).obj) = y at *
      clear hst
      have fin : ∀ w', Keeps (fun _ => False) W4 w' → FL (w'.setCell ⟨fb, 1 + k * 9 + 5, none⟩ (.int .i64 ((s.curV m (c k).loc : Nat) : Int))) ρ fb rb (fset fv (1 + k * 9 + 5) (.int .i64 ((s.curV m (c k).loc : Nat) : Int))) (upd c k { c k with cur := s.curV m (c k).loc }) want was ws mk ∧ Keeps (fun i => i = fb) W (w'.setCell ⟨fb, 1 + k * 9 + 5, none⟩ (.int .i64 ((s.curV m (c k).loc : Nat) : Int))) := fun w' K =>
        ⟨(FL.new HF.out (HK.out.trans K)).set_cur hk (s.curV m (c k).loc), Keeps.setCell (S := fun i => i = fb) ((HK.out.trans K).mono (fun _ _ e => e.elim)) (p := ⟨fb, 1 + k * 9 + 5, none⟩) (fun _ => rfl) _⟩
      have HFI : Hid (∀ w', Keeps (fun _ => False) W4 w' → FL (w'.setCell ⟨fb, 1 + k * 9 + 5, none⟩ (.int .i64 ((s.curV m (c k).loc : Nat) : Int))) ρ fb rb (fset fv (1 + k * 9 + 5) (.int .i64 ((s.curV m (c k).loc : Nat) : Int))) (upd c k { c k with cur := s.curV m (c k).loc }) want was ws mk ∧ Keeps (fun i => i = fb) W (w'.setCell ⟨fb, 1 + k * 9 + 5, none⟩ (.int .i64 ((s.curV m (c k).loc : Nat) : Int)))) := fin
      clear fin
      have hcase : ((st = 1 ∨ st = 2 ∧ y = ((c k).loc : Int)) ∧ want.getD (c k).obj vl0 = v) ∨ (st = 2 ∧ ¬ y = ((c k).loc : Int)) ∨ st = 3 := by
        have h := HC.out
        rcases hs with e | e | e
        · exact .inl ⟨.inl e, h (.inl e)⟩
        · by_cases q : y = ((c k).loc : Int)
          · exact .inl ⟨.inr ⟨e, q⟩, h (.inr ⟨e, q⟩)⟩
          · exact .inr (.inl ⟨e, q⟩)
        · exact .inr (.inr e)
      clear hs HC
      rcases hcase with ⟨hst, hwv⟩ | ⟨rfl, hy⟩ | rfl
      · rw [hwv] at x0 x1 x2
        have x0' := ks_cell x0
        have x1' := ks_cell x1
        have x2' := ks_cell x2
        have z37' := ks_cell z37
        have g2' := ks_cell g2
        have v0' := ks_cell v0
        have v1' := ks_cell v1
        have v2' := ks_cell v2
        have hNE : Nonempty (KS W4) := ⟨⟨W4, Keeps.refl _ W4⟩⟩
        have t5' := fun U : KS W4 => U.property.cell t5 id
        have u5' := fun U : KS W4 => (U.property.frozen (p := ⟨fb, 1 + k * 9 + 5, none⟩) (World.block_lt_of_cell? _ _ t5) id).trans u5
        rcases hst with rfl | ⟨rfl, rfl⟩
        all_goals
          go_wp2_with fail
          refine wp_region_ks (by kernel_rfl) (by kernel_rfl) ?_
          repeat (go_big_quiet_step (fail))
          refine wpQuiet_nil ?_
          rintro _ ⟨U, rfl⟩
          have KU := U.property
          have t5 := t5' U
          have u5 := u5' U
          clear x0' x1' x2' z37' g2' v0' v1' v2' hNE t5' u5'
          generalize U.val = wu at *
          go_wp2_with fail
          go_ret
          exact ⟨rfl, HFI.out _ KU⟩
      · go_wp2_with fail
        go_ret
        exact ⟨rfl, HFI.out _ (Keeps.refl _ _)⟩
      · go_wp2_with fail
        go_ret
        exact ⟨rfl, HFI.out _ (Keeps.refl _ _)⟩
end
end Go.Proofs.Ytdeiochjkbogpaa
