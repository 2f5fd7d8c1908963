import Derived.Test.YtmnmphkkcabkiaaG01
import Derived.Laws.StructEq
import Derived.Deep.RegionHeld3
namespace Go.Proofs.Ytmnmphkkcabkiaa
open Go.RowKit
theorem wpList_load_runG {P : Program} {w : World} {ops : Array Oper} {rest : List Oper} {o : Oper} {a : Act} {Q : Exit → Act → World → Prop} (hw : Region.wanted o (yielded ops a.tmps) = true) (ty : TypeId) (x : Operand) (ho : o.op = .load ty x) (ad : Addr) (hx : a.eval x = .pointer (some ad)) (v : Value)
    (hr : (loadVar ty ad).run P w = .ok v w) (h : wpList P ops Q rest (a.put o.dst v) w) : wpList P ops Q (o :: rest) a w :=
  BigFrame.wpList_want hw fun _ hK => by
    unfold Oper.wp execOp
    simp only [ho, hx, Instr.loadAt, Instr.sureAddr, Sem.run_bind, Sem.run_pure, Result.andThen_ok, hr]
    exact hK _ _ h
theorem wpQuiet_load {P : Program} {ops : Array Oper} {C : World → Prop} {Q : Act → Prop} {rest : List Oper} {o : Oper} {a : Act} (hw : Region.wanted o (yielded ops a.tmps) = true) (ty : TypeId) (x : Operand) (ho : o.op = .load ty x) (ad : Addr) (hx : a.eval x = .pointer (some ad)) (v : Value)
    (hr : ∀ w, C w → (loadVar ty ad).run P w = .ok v w) (h : wpQuiet P ops C Q rest (a.put o.dst v)) : wpQuiet P ops C Q (o :: rest) a :=
  BigFrame.wpQuiet_want hw fun K hK => ⟨v, fun w hC => by
    unfold Oper.quietAt execOp
    simp only [ho, hx, Instr.loadAt, Instr.sureAddr, Sem.run_bind, Sem.run_pure, Result.andThen_ok, hr w hC]
    exact ⟨rfl, rfl⟩, hK _ h⟩
theorem wpQuiet_eql {P : Program} {ops : Array Oper} {C : World → Prop} {Q : Act → Prop} {rest : List Oper} {o : Oper} {a : Act} (hw : Region.wanted o (yielded ops a.tmps) = true) (ty t2 : TypeId) (x y : Operand) (ho : o.op = .binOp .eql ty x y t2) (xs ys : Array Value) (hx : a.eval x = .agg xs) (hy : a.eval y = .agg ys) (b : Bool)
    (hm : P.eqGuardType P.depth ty = false) (hr : ∀ w, (Op.equalIn 10000 ty (.agg xs) (.agg ys)).run P w = .ok b w) (h : wpQuiet P ops C Q rest (a.put o.dst (.bool b))) : wpQuiet P ops C Q (o :: rest) a :=
  BigFrame.wpQuiet_want hw fun K hK => ⟨.bool b, fun w hC => by
    unfold Oper.quietAt execOp
    simp only [ho, hx, hy, Sem.run_bind, Sem.run_pure, Result.andThen_ok, run_eqGuard_agg _ _ _ _ _ _ _ hm, run_eql_struct, hr]
    exact ⟨rfl, rfl⟩, hK _ h⟩
theorem iRw : (Try.prog.info? 50).map (·.size) = some 26 := by kernel_rfl
theorem run_rw {W : World} {b : Nat} {r : Rw} (h : CL W b r.cells) : (loadVar 50 ⟨b, 0, none⟩).run Try.prog W = .ok (.agg r.cells.toArray) W :=
  run_loadVar_mid W b 0 50 r.cells _ (fun j v e => by have := h.c j v e; rwa [Nat.zero_add]) Try.underlying50 rfl (by rw [iRw]; rfl)
def eq3 (a b c x y z : Int) : Bool := a == x && b == y && c == z
theorem eql_who (w : World) (a b c x y z : Int) : (Op.equalIn 10000 107 (.agg #[.int .i64 a, .int .i64 b, .int .i64 c]) (.agg #[.int .i64 x, .int .i64 y, .int .i64 z])).run Try.prog w = .ok (eq3 a b c x y z) w := by
  rw [run_equalIn_agg w 9999 _ _ _ (by kernel_rfl) (by kernel_rfl)]
  unfold Program.fieldsOf
  rw [Try.underlying107]
  simp only [eq3]
  go_simp
  (repeat' split) <;> simp_all
def fitP (f : Nat → Int) (r : Rw) (th : Nat) : Bool :=
  if r.kind = 0 then r.thread == -1 && r.try_ == 0 && r.job == -1 && r.no == -1 && sil r
  else if r.thread < 0 ∨ 6 ≤ r.thread then false
  else if r.kind = 1 then f (th * 5) == 0 && eq3 r.job r.try_ r.no (f (th * 5 + 1) + 1) 1 (f 31 + 1) && r.seen == f 30 && sil r
  else if r.kind = 2 then f (th * 5) == 2 && eq3 r.job r.try_ r.no (f (th * 5 + 1)) (f (th * 5 + 2) + 1) (f 31 + 1) && sil r
  else if r.kind = 17 then f (th * 5) == 3 && eq3 r.job r.try_ r.no (f (th * 5 + 1)) (f (th * 5 + 2)) (f (th * 5 + 3)) && sil r
  else ofA r.kind && f (th * 5) == 1 && eq3 r.job r.try_ r.no (f (th * 5 + 1)) (f (th * 5 + 2)) (f (th * 5 + 3)) && endP r && readP r (f (th * 5 + 4))
set_option maxHeartbeats 1000000 in
set_option maxRecDepth 100000 in
theorem fits_stutter (w : World) {kb : Nat} {f : Nat → Int} (hK : IB w kb 32 f) (r : Rw) (th : Nat) (hk : r.kind = 0) : Calls Try.prog 38 #[.pointer (some ⟨kb, 0, none⟩), .agg r.cells.toArray] w fun e w' => e = .returned (.bool (fitP f r th)) ∧ Keeps (fun _ => False) w w' := by
  obtain ⟨w0, e0, k0, hb, hz0⟩ := rw_box w r
  have hK0 := hK.keep (by decide) k0 (fun e => e)
  have hne : ¬ kb = w.heap.size := fun e => by have := hK.lt (by decide); omega
  obtain ⟨hcl, c0, c1, c2, c3, c4, c5, c6, c7, c8, c11, c13, c17, c21, c25⟩ := hb
  unfold fitP
  rw [if_pos hk]
  have hs := silent_any w0 r
  have hR := run_rw hcl
  rw [hk] at c5
  clear hK hK0 hcl c0 c6 c7 c8 c11 c13 c17 c21 c25 hk
  go_enter Try.func38, Try.ntmps38
  refine wp_seq_k (fun KK hKK => ?_)
  have hKH : Hid _ := hKK
  clear hKK
  go_wp2_with fail
  refine hKH.out _ _ ?_
  clear hKH KK
  rw [← e0]
  clear e0
  generalize r.thread = tr at *
  generalize r.try_ = ty at *
  generalize r.job = jb at *
  generalize r.no = nn at *
  generalize sil r = sl at *
  have HR : Hid (_ = _) := hR
  clear hR
  cases h1 : (tr == -1)
  · go_wp2; go_ret; exact ⟨rfl, k0⟩
  cases h2 : (ty == 0)
  · go_wp2; go_ret; exact ⟨rfl, k0⟩
  cases h3 : (jb == -1)
  · go_wp2; go_ret; exact ⟨rfl, k0⟩
  cases h4 : (nn == -1)
  · go_wp2; go_ret; exact ⟨rfl, k0⟩
  go_wp2_with (first | (refine wpList_load_runG (by rfl) 50 _ rfl ⟨w.heap.size, 0, none⟩ rfl _ HR.out ?_; clear HR) | (go_at_call 52; refine hs.mono ?_; clear hs; rintro e w9 ⟨rfl, k9⟩))
  go_ret
  exact ⟨rfl, k0.trans k9⟩
set_option maxHeartbeats 1000000 in
set_option maxRecDepth 100000 in
theorem fits_away (w : World) {kb : Nat} {f : Nat → Int} (hK : IB w kb 32 f) (r : Rw) (th : Nat) (hk : r.kind ≠ 0) (ht : r.thread < 0 ∨ 6 ≤ r.thread) : Calls Try.prog 38 #[.pointer (some ⟨kb, 0, none⟩), .agg r.cells.toArray] w fun e w' => e = .returned (.bool (fitP f r th)) ∧ Keeps (fun _ => False) w w' := by
  obtain ⟨w0, e0, k0, hb, hz0⟩ := rw_box w r
  have hK0 := hK.keep (by decide) k0 (fun e => e)
  have hne : ¬ kb = w.heap.size := fun e => by have := hK.lt (by decide); omega
  obtain ⟨hcl, c0, c1, c2, c3, c4, c5, c6, c7, c8, c11, c13, c17, c21, c25⟩ := hb
  unfold fitP
  rw [if_neg hk, if_pos ht]
  have b0 : (r.kind == 0) = false := beq_eq_false_iff_ne.2 hk
  clear hK hK0 hcl c0 c2 c3 c4 c6 c7 c8 c11 c13 c17 c21 c25 hk
  go_enter Try.func38, Try.ntmps38
  refine wp_seq_k (fun KK hKK => ?_)
  have hKH : Hid _ := hKK
  clear hKK
  go_wp2_with fail
  refine hKH.out _ _ ?_
  clear hKH KK
  rw [← e0]
  clear e0
  generalize r.thread = tr at *
  generalize r.kind = kd at *
  by_cases h1 : tr < 0
  · have b1 : decide (tr < 0) = true := decide_eq_true h1
    go_wp2; go_ret; exact ⟨rfl, k0⟩
  · have b1 : decide (tr < 0) = false := decide_eq_false h1
    have b2 : decide (6 ≤ tr) = true := decide_eq_true (by omega)
    go_wp2; go_ret; exact ⟨rfl, k0⟩
end Go.Proofs.Ytmnmphkkcabkiaa

namespace Go.Proofs.Ytmnmphkkcabkiaa
open Go.RowKit
set_option maxHeartbeats 1000000 in
set_option maxRecDepth 100000 in
theorem fits_1 (w : World) {kb : Nat} {f : Nat → Int} (hK : IB w kb 32 f) (r : Rw) (th : Nat) (hk : r.kind = 1) (et : r.thread = (th : Int)) (ht : th < 6) (hB : ∀ i, i < 32 → f i + 1 ≤ 9223372036854775807 ∧ -9223372036854775808 ≤ f i) : Calls Try.prog 38 #[.pointer (some ⟨kb, 0, none⟩), .agg r.cells.toArray] w fun e w' => e = .returned (.bool (fitP f r th)) ∧ Keeps (fun _ => False) w w' := by
  obtain ⟨w0, e0, k0, hb, hz0⟩ := rw_box w r
  have hK0 := hK.keep (by decide) k0 (fun e => e)
  have hne : ¬ kb = w.heap.size := fun e => by have := hK.lt (by decide); omega
  obtain ⟨hcl, c0, c1, c2, c3, c4, c5, c6, c7, c8, c11, c13, c17, c21, c25⟩ := hb
  unfold fitP
  rw [hk, if_neg (by decide), if_neg (by omega), if_pos rfl]
  rw [hk] at c5
  have hs := fun W => silent_any W r
  generalize sil r = sl at *
  have d0 := hK0.c (th * 5) (by omega)
  have d1 := hK0.c (th * 5 + 1) (by omega)
  have d2 := hK0.c (th * 5 + 2) (by omega)
  have d3 := hK0.c (th * 5 + 3) (by omega)
  have d4 := hK0.c (th * 5 + 4) (by omega)
  have d30 := hK0.c 30 (by decide)
  have d31 := hK0.c 31 (by decide)
  have hB3 := hB (th * 5 + 1) (by omega)
  have hB4 := hB (th * 5 + 2) (by omega)
  have hB5 := hB 31 (by decide)
  clear hB hK hK0
  generalize f (th * 5) = f0 at *
  generalize f (th * 5 + 1) = f1 at *
  generalize f (th * 5 + 2) = f2 at *
  generalize f (th * 5 + 3) = f3 at *
  generalize f (th * 5 + 4) = f4 at *
  generalize f 30 = f30 at *
  generalize f 31 = f31 at *
  rw [et] at c1
  have i1 : (0 : Int) ≤ (th : Int) := by omega
  have i2 : (th : Int) < 6 := by omega
  have i3 : decide ((th : Int) < 0) = false := decide_eq_false (by omega)
  have i4 : decide ((6 : Int) ≤ (th : Int)) = false := decide_eq_false (by omega)
  have i5 : decide (6 ≤ th) = false := decide_eq_false (by omega)
  have hne2 : ¬ w.heap.size = kb := fun e => hne e.symm
  generalize hz1 : (f0 == 0) = z1
  generalize r.seen = sn at *
  generalize hz2 : (sn == f30) = z2
  generalize hq3 : eq3 r.job r.try_ r.no (f1 + 1) 1 (f31 + 1) = q3
  obtain ⟨W1, hW1⟩ : ∃ W1, W1 = (w0.alloc (.cells #[.int .i64 f0, .int .i64 f1, .int .i64 f2, .int .i64 f3, .int .i64 f4] 109)).drew := ⟨_, rfl⟩
  have k1 : Keeps (fun _ => False) w0 W1 := by rw [hW1]; exact ((Keeps.refl _ w0).alloc _).drew
  have m1 : CL W1 (w.heap.size + 1) [.int .i64 f0, .int .i64 f1, .int .i64 f2, .int .i64 f3, .int .i64 f4] := by rw [hW1, ← hz0]; exact (CL.made w0 _ _).drew
  have hzW : W1.heap.size = w.heap.size + 2 := by rw [hW1]; show (w0.alloc _).heap.size = _; simp [hz0]
  have HW1 : Hid (W1 = (w0.alloc (.cells #[.int .i64 f0, .int .i64 f1, .int .i64 f2, .int .i64 f3, .int .i64 f4] 109)).drew) := hW1
  clear hW1
  go_enter Try.func38, Try.ntmps38
  refine wp_seq_k (fun KK hKK => ?_)
  have hKH : Hid _ := hKK
  clear hKK
  go_wp2_with fail
  refine hKH.out _ _ ?_
  clear hKH KK
  rw [← e0]
  clear e0
  go_wp2_with fail
  go_region_held3 (fun w' => w'.cell? ⟨w.heap.size, 1, none⟩ = some (.int .i64 (th : Int)) ∧ w'.cell? ⟨kb, th * 5, none⟩ = some (.int .i64 f0) ∧ w'.cell? ⟨kb, th * 5 + 1, none⟩ = some (.int .i64 f1) ∧ w'.cell? ⟨kb, th * 5 + 2, none⟩ = some (.int .i64 f2) ∧ w'.cell? ⟨kb, th * 5 + 3, none⟩ = some (.int .i64 f3) ∧ w'.cell? ⟨kb, th * 5 + 4, none⟩ = some (.int .i64 f4)) (go_keep) (fail)
  rw [← HW1.out]
  clear HW1
  rename_i hHeld
  clear hHeld
  have hcl := hcl.keep (by show 0 < 26; decide) k1 (fun e => e)
  have c1 := k1.cell c1 (fun e => e)
  have c5 := k1.cell c5 (fun e => e)
  have c11 := k1.cell c11 (fun e => e)
  have d30 := k1.cell d30 (fun e => e)
  have d31 := k1.cell d31 (fun e => e)
  have e0 := m1.c 0 _ rfl
  have e1 := m1.c 1 _ rfl
  have e2 := m1.c 2 _ rfl
  have e3 := m1.c 3 _ rfl
  have e4 := m1.c 4 _ rfl
  have K1 := k0.trans k1
  clear k0 k1
  obtain ⟨W2, hW2⟩ : ∃ W2, W2 = (W1.alloc (.cells #[.int .i64 (f1 + 1), .int .i64 1, .int .i64 (f31 + 1)] 107)).drew := ⟨_, rfl⟩
  have k2 : Keeps (fun _ => False) W1 W2 := by rw [hW2]; exact ((Keeps.refl _ W1).alloc _).drew
  have m2 : CL W2 (w.heap.size + 2) [.int .i64 (f1 + 1), .int .i64 1, .int .i64 (f31 + 1)] := by rw [hW2, ← hzW]; exact (CL.made W1 _ _).drew
  have HW2 : Hid (W2 = (W1.alloc (.cells #[.int .i64 (f1 + 1), .int .i64 1, .int .i64 (f31 + 1)] 107)).drew) := hW2
  clear hW2
  have v1 : IntKind.i64.wrap (f1 + 1) = f1 + 1 := by rw [IntKind.wrap_i64]; omega
  have v31 : IntKind.i64.wrap (f31 + 1) = f31 + 1 := by rw [IntKind.wrap_i64]; omega
  go_wp2_with fail
  go_region_held3 (fun w' => w'.cell? ⟨w.heap.size + 1, 1, none⟩ = some (.int .i64 f1) ∧ w'.cell? ⟨kb, 31, none⟩ = some (.int .i64 f31)) (go_keep) (fail)
  try rw [v1]
  try rw [v31]
  rw [← HW2.out]
  clear HW2
  rename_i hHeld
  clear hHeld
  have hcl := hcl.keep (by show 0 < 26; decide) k2 (fun e => e)
  have c11 := ks_cell (k2.cell c11 (fun e => e))
  have d30 := ks_cell (k2.cell d30 (fun e => e))
  have e0 := ks_cell (k2.cell e0 (fun e => e))
  have g0 := ks_cell (m2.c 0 _ rfl)
  have g1 := ks_cell (m2.c 1 _ rfl)
  have g2 := ks_cell (m2.c 2 _ rfl)
  have KK := K1.trans k2
  clear k2 m2 K1
  have HR : Hid (∀ w', (∃ u : KS W2, w' = u.1) → (loadVar 50 ⟨w.heap.size, 0, none⟩).run Try.prog w' = .ok (.agg r.cells.toArray) w') := by
    rintro _ ⟨u, rfl⟩
    exact run_rw (hcl.keep (by show 0 < 26; decide) u.property (fun e => e))
  have hNE : Nonempty (KS W2) := ⟨⟨W2, Keeps.refl _ W2⟩⟩
  have HE : Hid (∀ w, (Op.equalIn 10000 107 (.agg #[.int .i64 r.job, .int .i64 r.try_, .int .i64 r.no]) (.agg #[.int .i64 (f1 + 1), .int .i64 1, .int .i64 (f31 + 1)])).run Try.prog w = .ok q3 w) := fun w => by rw [← hq3]; exact eql_who w _ _ _ _ _ _
  clear hq3
  cases z1
  · go_wp2_with fail
    refine wp_region_ks (by kernel_rfl) (by kernel_rfl) ?_
    (repeat (first | go_big_quiet_skip | (refine wpQuiet_load (by kernel_rfl) 50 _ rfl ⟨w.heap.size, 0, none⟩ rfl _ HR.out ?_; (try simp only [Act.put, List.setIfInBounds_toArray, List.set_cons_zero, List.set_cons_succ])) | (refine wpQuiet_eql (by kernel_rfl) 107 _ _ _ rfl _ _ rfl rfl _ (by kernel_rfl) HE.out ?_; (try simp only [Act.put, List.setIfInBounds_toArray, List.set_cons_zero, List.set_cons_succ])) | (go_big_quiet_step ((go_at_call 53; refine (whoOf_any _ r).mono ?_; rintro e w9 ⟨rfl, k9⟩; exact ⟨rfl, ⟨_, (KS.property _).trans k9⟩, rfl⟩)))))
    refine wpQuiet_nil ?_
    rintro _ ⟨u, rfl⟩
    have ku := KK.trans u.property
    generalize u.val = wu at *
    go_wp2
    go_ret
    exact ⟨rfl, ku⟩
  cases q3
  · go_wp2_with fail
    refine wp_region_ks (by kernel_rfl) (by kernel_rfl) ?_
    (repeat (first | go_big_quiet_skip | (refine wpQuiet_load (by kernel_rfl) 50 _ rfl ⟨w.heap.size, 0, none⟩ rfl _ HR.out ?_; (try simp only [Act.put, List.setIfInBounds_toArray, List.set_cons_zero, List.set_cons_succ])) | (refine wpQuiet_eql (by kernel_rfl) 107 _ _ _ rfl _ _ rfl rfl _ (by kernel_rfl) HE.out ?_; (try simp only [Act.put, List.setIfInBounds_toArray, List.set_cons_zero, List.set_cons_succ])) | (go_big_quiet_step (first | (go_at_call 53; refine (whoOf_any _ r).mono ?_; rintro e w9 ⟨rfl, k9⟩; exact ⟨rfl, ⟨_, (KS.property _).trans k9⟩, rfl⟩) | (go_at_call 52; refine (hs _).mono ?_; rintro e w9 ⟨rfl, k9⟩; exact ⟨rfl, ⟨_, (KS.property _).trans k9⟩, rfl⟩)))))
    refine wpQuiet_nil ?_
    rintro _ ⟨u, rfl⟩
    have ku := KK.trans u.property
    generalize u.val = wu at *
    go_wp2
    go_ret
    exact ⟨rfl, ku⟩
  cases z2
  · go_wp2_with fail
    refine wp_region_ks (by kernel_rfl) (by kernel_rfl) ?_
    (repeat (first | go_big_quiet_skip | (refine wpQuiet_load (by kernel_rfl) 50 _ rfl ⟨w.heap.size, 0, none⟩ rfl _ HR.out ?_; (try simp only [Act.put, List.setIfInBounds_toArray, List.set_cons_zero, List.set_cons_succ])) | (refine wpQuiet_eql (by kernel_rfl) 107 _ _ _ rfl _ _ rfl rfl _ (by kernel_rfl) HE.out ?_; (try simp only [Act.put, List.setIfInBounds_toArray, List.set_cons_zero, List.set_cons_succ])) | (go_big_quiet_step (first | (go_at_call 53; refine (whoOf_any _ r).mono ?_; rintro e w9 ⟨rfl, k9⟩; exact ⟨rfl, ⟨_, (KS.property _).trans k9⟩, rfl⟩) | (go_at_call 52; refine (hs _).mono ?_; rintro e w9 ⟨rfl, k9⟩; exact ⟨rfl, ⟨_, (KS.property _).trans k9⟩, rfl⟩)))))
    refine wpQuiet_nil ?_
    rintro _ ⟨u, rfl⟩
    have ku := KK.trans u.property
    generalize u.val = wu at *
    go_wp2
    go_ret
    exact ⟨rfl, ku⟩
  go_wp2_with fail
  refine wp_region_ks (by kernel_rfl) (by kernel_rfl) ?_
  (repeat (first | go_big_quiet_skip | (refine wpQuiet_load (by kernel_rfl) 50 _ rfl ⟨w.heap.size, 0, none⟩ rfl _ HR.out ?_; (try simp only [Act.put, List.setIfInBounds_toArray, List.set_cons_zero, List.set_cons_succ])) | (refine wpQuiet_eql (by kernel_rfl) 107 _ _ _ rfl _ _ rfl rfl _ (by kernel_rfl) HE.out ?_; (try simp only [Act.put, List.setIfInBounds_toArray, List.set_cons_zero, List.set_cons_succ])) | (go_big_quiet_step (first | (go_at_call 53; refine (whoOf_any _ r).mono ?_; rintro e w9 ⟨rfl, k9⟩; exact ⟨rfl, ⟨_, (KS.property _).trans k9⟩, rfl⟩) | (go_at_call 52; refine (hs _).mono ?_; rintro e w9 ⟨rfl, k9⟩; exact ⟨rfl, ⟨_, (KS.property _).trans k9⟩, rfl⟩)))))
  refine wpQuiet_nil ?_
  rintro _ ⟨u, rfl⟩
  have ku := KK.trans u.property
  generalize u.val = wu at *
  go_wp2
  go_ret
  exact ⟨rfl, ku⟩
end Go.Proofs.Ytmnmphkkcabkiaa

namespace Go.Proofs.Ytmnmphkkcabkiaa
open Go.RowKit
set_option maxHeartbeats 1000000 in
set_option maxRecDepth 100000 in
theorem fits_2 (w : World) {kb : Nat} {f : Nat → Int} (hK : IB w kb 32 f) (r : Rw) (th : Nat) (hk : r.kind = 2) (et : r.thread = (th : Int)) (ht : th < 6) (hB : ∀ i, i < 32 → f i + 1 ≤ 9223372036854775807 ∧ -9223372036854775808 ≤ f i) : Calls Try.prog 38 #[.pointer (some ⟨kb, 0, none⟩), .agg r.cells.toArray] w fun e w' => e = .returned (.bool (fitP f r th)) ∧ Keeps (fun _ => False) w w' := by
  obtain ⟨w0, e0, k0, hb, hz0⟩ := rw_box w r
  have hK0 := hK.keep (by decide) k0 (fun e => e)
  have hne : ¬ kb = w.heap.size := fun e => by have := hK.lt (by decide); omega
  obtain ⟨hcl, c0, c1, c2, c3, c4, c5, c6, c7, c8, c11, c13, c17, c21, c25⟩ := hb
  unfold fitP
  rw [hk, if_neg (by decide), if_neg (by omega), if_neg (by decide), if_pos rfl]
  rw [hk] at c5
  have hs := fun W => silent_any W r
  generalize sil r = sl at *
  have d0 := hK0.c (th * 5) (by omega)
  have d1 := hK0.c (th * 5 + 1) (by omega)
  have d2 := hK0.c (th * 5 + 2) (by omega)
  have d3 := hK0.c (th * 5 + 3) (by omega)
  have d4 := hK0.c (th * 5 + 4) (by omega)
  have d30 := hK0.c 30 (by decide)
  have d31 := hK0.c 31 (by decide)
  have hB3 := hB (th * 5 + 1) (by omega)
  have hB4 := hB (th * 5 + 2) (by omega)
  have hB5 := hB 31 (by decide)
  clear hB hK hK0
  generalize f (th * 5) = f0 at *
  generalize f (th * 5 + 1) = f1 at *
  generalize f (th * 5 + 2) = f2 at *
  generalize f (th * 5 + 3) = f3 at *
  generalize f (th * 5 + 4) = f4 at *
  generalize f 30 = f30 at *
  generalize f 31 = f31 at *
  rw [et] at c1
  have i1 : (0 : Int) ≤ (th : Int) := by omega
  have i2 : (th : Int) < 6 := by omega
  have i3 : decide ((th : Int) < 0) = false := decide_eq_false (by omega)
  have i4 : decide ((6 : Int) ≤ (th : Int)) = false := decide_eq_false (by omega)
  have i5 : decide (6 ≤ th) = false := decide_eq_false (by omega)
  have hne2 : ¬ w.heap.size = kb := fun e => hne e.symm
  generalize hz1 : (f0 == 2) = z1
  generalize hq3 : eq3 r.job r.try_ r.no f1 (f2 + 1) (f31 + 1) = q3
  obtain ⟨W1, hW1⟩ : ∃ W1, W1 = (w0.alloc (.cells #[.int .i64 f0, .int .i64 f1, .int .i64 f2, .int .i64 f3, .int .i64 f4] 109)).drew := ⟨_, rfl⟩
  have k1 : Keeps (fun _ => False) w0 W1 := by rw [hW1]; exact ((Keeps.refl _ w0).alloc _).drew
  have m1 : CL W1 (w.heap.size + 1) [.int .i64 f0, .int .i64 f1, .int .i64 f2, .int .i64 f3, .int .i64 f4] := by rw [hW1, ← hz0]; exact (CL.made w0 _ _).drew
  have hzW : W1.heap.size = w.heap.size + 2 := by rw [hW1]; show (w0.alloc _).heap.size = _; simp [hz0]
  have HW1 : Hid (W1 = (w0.alloc (.cells #[.int .i64 f0, .int .i64 f1, .int .i64 f2, .int .i64 f3, .int .i64 f4] 109)).drew) := hW1
  clear hW1
  go_enter Try.func38, Try.ntmps38
  refine wp_seq_k (fun KK hKK => ?_)
  have hKH : Hid _ := hKK
  clear hKK
  go_wp2_with fail
  refine hKH.out _ _ ?_
  clear hKH KK
  rw [← e0]
  clear e0
  go_wp2_with fail
  go_region_held3 (fun w' => w'.cell? ⟨w.heap.size, 1, none⟩ = some (.int .i64 (th : Int)) ∧ w'.cell? ⟨kb, th * 5, none⟩ = some (.int .i64 f0) ∧ w'.cell? ⟨kb, th * 5 + 1, none⟩ = some (.int .i64 f1) ∧ w'.cell? ⟨kb, th * 5 + 2, none⟩ = some (.int .i64 f2) ∧ w'.cell? ⟨kb, th * 5 + 3, none⟩ = some (.int .i64 f3) ∧ w'.cell? ⟨kb, th * 5 + 4, none⟩ = some (.int .i64 f4)) (go_keep) (fail)
  rw [← HW1.out]
  clear HW1
  rename_i hHeld
  clear hHeld
  have hcl := hcl.keep (by show 0 < 26; decide) k1 (fun e => e)
  have c1 := k1.cell c1 (fun e => e)
  have c5 := k1.cell c5 (fun e => e)
  have c11 := k1.cell c11 (fun e => e)
  have d30 := k1.cell d30 (fun e => e)
  have d31 := k1.cell d31 (fun e => e)
  have e0 := m1.c 0 _ rfl
  have e1 := m1.c 1 _ rfl
  have e2 := m1.c 2 _ rfl
  have e3 := m1.c 3 _ rfl
  have e4 := m1.c 4 _ rfl
  have K1 := k0.trans k1
  clear k0 k1
  obtain ⟨W2, hW2⟩ : ∃ W2, W2 = (W1.alloc (.cells #[.int .i64 f1, .int .i64 (f2 + 1), .int .i64 (f31 + 1)] 107)).drew := ⟨_, rfl⟩
  have k2 : Keeps (fun _ => False) W1 W2 := by rw [hW2]; exact ((Keeps.refl _ W1).alloc _).drew
  have m2 : CL W2 (w.heap.size + 2) [.int .i64 f1, .int .i64 (f2 + 1), .int .i64 (f31 + 1)] := by rw [hW2, ← hzW]; exact (CL.made W1 _ _).drew
  have HW2 : Hid (W2 = (W1.alloc (.cells #[.int .i64 f1, .int .i64 (f2 + 1), .int .i64 (f31 + 1)] 107)).drew) := hW2
  clear hW2
  have v1 : IntKind.i64.wrap (f2 + 1) = f2 + 1 := by rw [IntKind.wrap_i64]; omega
  have v31 : IntKind.i64.wrap (f31 + 1) = f31 + 1 := by rw [IntKind.wrap_i64]; omega
  go_wp2_with fail
  go_region_held3 (fun w' => w'.cell? ⟨w.heap.size + 1, 1, none⟩ = some (.int .i64 f1) ∧ w'.cell? ⟨w.heap.size + 1, 2, none⟩ = some (.int .i64 f2) ∧ w'.cell? ⟨kb, 31, none⟩ = some (.int .i64 f31)) (go_keep) (fail)
  try rw [v1]
  try rw [v31]
  rw [← HW2.out]
  clear HW2
  rename_i hHeld
  clear hHeld
  have hcl := hcl.keep (by show 0 < 26; decide) k2 (fun e => e)
  have e0 := ks_cell (k2.cell e0 (fun e => e))
  have g0 := ks_cell (m2.c 0 _ rfl)
  have g1 := ks_cell (m2.c 1 _ rfl)
  have g2 := ks_cell (m2.c 2 _ rfl)
  have KK := K1.trans k2
  clear k2 m2 K1
  have HR : Hid (∀ w', (∃ u : KS W2, w' = u.1) → (loadVar 50 ⟨w.heap.size, 0, none⟩).run Try.prog w' = .ok (.agg r.cells.toArray) w') := by
    rintro _ ⟨u, rfl⟩
    exact run_rw (hcl.keep (by show 0 < 26; decide) u.property (fun e => e))
  have hNE : Nonempty (KS W2) := ⟨⟨W2, Keeps.refl _ W2⟩⟩
  have HE : Hid (∀ w, (Op.equalIn 10000 107 (.agg #[.int .i64 r.job, .int .i64 r.try_, .int .i64 r.no]) (.agg #[.int .i64 f1, .int .i64 (f2 + 1), .int .i64 (f31 + 1)])).run Try.prog w = .ok q3 w) := fun w => by rw [← hq3]; exact eql_who w _ _ _ _ _ _
  clear hq3
  cases z1
  · go_wp2_with fail
    refine wp_region_ks (by kernel_rfl) (by kernel_rfl) ?_
    (repeat (first | go_big_quiet_skip | (refine wpQuiet_load (by kernel_rfl) 50 _ rfl ⟨w.heap.size, 0, none⟩ rfl _ HR.out ?_; (try simp only [Act.put, List.setIfInBounds_toArray, List.set_cons_zero, List.set_cons_succ])) | (refine wpQuiet_eql (by kernel_rfl) 107 _ _ _ rfl _ _ rfl rfl _ (by kernel_rfl) HE.out ?_; (try simp only [Act.put, List.setIfInBounds_toArray, List.set_cons_zero, List.set_cons_succ])) | (go_big_quiet_step ((go_at_call 53; refine (whoOf_any _ r).mono ?_; rintro e w9 ⟨rfl, k9⟩; exact ⟨rfl, ⟨_, (KS.property _).trans k9⟩, rfl⟩)))))
    refine wpQuiet_nil ?_
    rintro _ ⟨u, rfl⟩
    have ku := KK.trans u.property
    generalize u.val = wu at *
    go_wp2
    go_ret
    exact ⟨rfl, ku⟩
  cases q3
  · go_wp2_with fail
    refine wp_region_ks (by kernel_rfl) (by kernel_rfl) ?_
    (repeat (first | go_big_quiet_skip | (refine wpQuiet_load (by kernel_rfl) 50 _ rfl ⟨w.heap.size, 0, none⟩ rfl _ HR.out ?_; (try simp only [Act.put, List.setIfInBounds_toArray, List.set_cons_zero, List.set_cons_succ])) | (refine wpQuiet_eql (by kernel_rfl) 107 _ _ _ rfl _ _ rfl rfl _ (by kernel_rfl) HE.out ?_; (try simp only [Act.put, List.setIfInBounds_toArray, List.set_cons_zero, List.set_cons_succ])) | (go_big_quiet_step (first | (go_at_call 53; refine (whoOf_any _ r).mono ?_; rintro e w9 ⟨rfl, k9⟩; exact ⟨rfl, ⟨_, (KS.property _).trans k9⟩, rfl⟩) | (go_at_call 52; refine (hs _).mono ?_; rintro e w9 ⟨rfl, k9⟩; exact ⟨rfl, ⟨_, (KS.property _).trans k9⟩, rfl⟩)))))
    refine wpQuiet_nil ?_
    rintro _ ⟨u, rfl⟩
    have ku := KK.trans u.property
    generalize u.val = wu at *
    go_wp2
    go_ret
    exact ⟨rfl, ku⟩
  go_wp2_with fail
  refine wp_region_ks (by kernel_rfl) (by kernel_rfl) ?_
  (repeat (first | go_big_quiet_skip | (refine wpQuiet_load (by kernel_rfl) 50 _ rfl ⟨w.heap.size, 0, none⟩ rfl _ HR.out ?_; (try simp only [Act.put, List.setIfInBounds_toArray, List.set_cons_zero, List.set_cons_succ])) | (refine wpQuiet_eql (by kernel_rfl) 107 _ _ _ rfl _ _ rfl rfl _ (by kernel_rfl) HE.out ?_; (try simp only [Act.put, List.setIfInBounds_toArray, List.set_cons_zero, List.set_cons_succ])) | (go_big_quiet_step (first | (go_at_call 53; refine (whoOf_any _ r).mono ?_; rintro e w9 ⟨rfl, k9⟩; exact ⟨rfl, ⟨_, (KS.property _).trans k9⟩, rfl⟩) | (go_at_call 52; refine (hs _).mono ?_; rintro e w9 ⟨rfl, k9⟩; exact ⟨rfl, ⟨_, (KS.property _).trans k9⟩, rfl⟩)))))
  refine wpQuiet_nil ?_
  rintro _ ⟨u, rfl⟩
  have ku := KK.trans u.property
  generalize u.val = wu at *
  go_wp2
  go_ret
  exact ⟨rfl, ku⟩
end Go.Proofs.Ytmnmphkkcabkiaa

namespace Go.Proofs.Ytmnmphkkcabkiaa
open Go.RowKit
set_option maxHeartbeats 1000000 in
set_option maxRecDepth 100000 in
theorem fits_17 (w : World) {kb : Nat} {f : Nat → Int} (hK : IB w kb 32 f) (r : Rw) (th : Nat) (hk : r.kind = 17) (et : r.thread = (th : Int)) (ht : th < 6) (hB : ∀ i, i < 32 → f i + 1 ≤ 9223372036854775807 ∧ -9223372036854775808 ≤ f i) : Calls Try.prog 38 #[.pointer (some ⟨kb, 0, none⟩), .agg r.cells.toArray] w fun e w' => e = .returned (.bool (fitP f r th)) ∧ Keeps (fun _ => False) w w' := by
  obtain ⟨w0, e0, k0, hb, hz0⟩ := rw_box w r
  have hK0 := hK.keep (by decide) k0 (fun e => e)
  have hne : ¬ kb = w.heap.size := fun e => by have := hK.lt (by decide); omega
  obtain ⟨hcl, c0, c1, c2, c3, c4, c5, c6, c7, c8, c11, c13, c17, c21, c25⟩ := hb
  unfold fitP
  rw [hk, if_neg (by decide), if_neg (by omega), if_neg (by decide), if_neg (by decide), if_pos rfl]
  rw [hk] at c5
  have hs := fun W => silent_any W r
  generalize sil r = sl at *
  have d0 := hK0.c (th * 5) (by omega)
  have d1 := hK0.c (th * 5 + 1) (by omega)
  have d2 := hK0.c (th * 5 + 2) (by omega)
  have d3 := hK0.c (th * 5 + 3) (by omega)
  have d4 := hK0.c (th * 5 + 4) (by omega)
  have d30 := hK0.c 30 (by decide)
  have d31 := hK0.c 31 (by decide)
  have hB3 := hB (th * 5 + 1) (by omega)
  have hB4 := hB (th * 5 + 2) (by omega)
  have hB5 := hB 31 (by decide)
  clear hB hK hK0
  generalize f (th * 5) = f0 at *
  generalize f (th * 5 + 1) = f1 at *
  generalize f (th * 5 + 2) = f2 at *
  generalize f (th * 5 + 3) = f3 at *
  generalize f (th * 5 + 4) = f4 at *
  generalize f 30 = f30 at *
  generalize f 31 = f31 at *
  rw [et] at c1
  have i1 : (0 : Int) ≤ (th : Int) := by omega
  have i2 : (th : Int) < 6 := by omega
  have i3 : decide ((th : Int) < 0) = false := decide_eq_false (by omega)
  have i4 : decide ((6 : Int) ≤ (th : Int)) = false := decide_eq_false (by omega)
  have i5 : decide (6 ≤ th) = false := decide_eq_false (by omega)
  have hne2 : ¬ w.heap.size = kb := fun e => hne e.symm
  generalize hz1 : (f0 == 3) = z1
  generalize hq3 : eq3 r.job r.try_ r.no f1 f2 f3 = q3
  obtain ⟨W1, hW1⟩ : ∃ W1, W1 = (w0.alloc (.cells #[.int .i64 f0, .int .i64 f1, .int .i64 f2, .int .i64 f3, .int .i64 f4] 109)).drew := ⟨_, rfl⟩
  have k1 : Keeps (fun _ => False) w0 W1 := by rw [hW1]; exact ((Keeps.refl _ w0).alloc _).drew
  have m1 : CL W1 (w.heap.size + 1) [.int .i64 f0, .int .i64 f1, .int .i64 f2, .int .i64 f3, .int .i64 f4] := by rw [hW1, ← hz0]; exact (CL.made w0 _ _).drew
  have hzW : W1.heap.size = w.heap.size + 2 := by rw [hW1]; show (w0.alloc _).heap.size = _; simp [hz0]
  have HW1 : Hid (W1 = (w0.alloc (.cells #[.int .i64 f0, .int .i64 f1, .int .i64 f2, .int .i64 f3, .int .i64 f4] 109)).drew) := hW1
  clear hW1
  go_enter Try.func38, Try.ntmps38
  refine wp_seq_k (fun KK hKK => ?_)
  have hKH : Hid _ := hKK
  clear hKK
  go_wp2_with fail
  refine hKH.out _ _ ?_
  clear hKH KK
  rw [← e0]
  clear e0
  go_wp2_with fail
  go_region_held3 (fun w' => w'.cell? ⟨w.heap.size, 1, none⟩ = some (.int .i64 (th : Int)) ∧ w'.cell? ⟨kb, th * 5, none⟩ = some (.int .i64 f0) ∧ w'.cell? ⟨kb, th * 5 + 1, none⟩ = some (.int .i64 f1) ∧ w'.cell? ⟨kb, th * 5 + 2, none⟩ = some (.int .i64 f2) ∧ w'.cell? ⟨kb, th * 5 + 3, none⟩ = some (.int .i64 f3) ∧ w'.cell? ⟨kb, th * 5 + 4, none⟩ = some (.int .i64 f4)) (go_keep) (fail)
  rw [← HW1.out]
  clear HW1
  rename_i hHeld
  clear hHeld
  have hcl := hcl.keep (by show 0 < 26; decide) k1 (fun e => e)
  have c1 := k1.cell c1 (fun e => e)
  have c5 := k1.cell c5 (fun e => e)
  have c11 := k1.cell c11 (fun e => e)
  have d30 := k1.cell d30 (fun e => e)
  have d31 := k1.cell d31 (fun e => e)
  have e0 := m1.c 0 _ rfl
  have e1 := m1.c 1 _ rfl
  have e2 := m1.c 2 _ rfl
  have e3 := m1.c 3 _ rfl
  have e4 := m1.c 4 _ rfl
  have K1 := k0.trans k1
  clear k0 k1
  go_wp2_with fail
  have hNE0 : Nonempty (KS W1) := ⟨⟨W1, Keeps.refl _ W1⟩⟩
  have c5 := ks_cell c5
  have e0 := ks_cell e0
  have e1 := ks_cell e1
  have e2 := ks_cell e2
  have e3 := ks_cell e3
  have e4 := ks_cell e4
  have KK := K1
  clear K1
  have HE : Hid (∀ w, (Op.equalIn 10000 107 (.agg #[.int .i64 r.job, .int .i64 r.try_, .int .i64 r.no]) (.agg #[.int .i64 f1, .int .i64 f2, .int .i64 f3])).run Try.prog w = .ok q3 w) := fun w => by rw [← hq3]; exact eql_who w _ _ _ _ _ _
  clear hq3
  have HR : Hid (∀ w', (∃ u : KS W1, w' = u.1) → (loadVar 50 ⟨w.heap.size, 0, none⟩).run Try.prog w' = .ok (.agg r.cells.toArray) w') := by
    rintro _ ⟨u, rfl⟩
    exact run_rw (hcl.keep (by show 0 < 26; decide) u.property (fun e => e))
  have hNE : Nonempty (KS W1) := ⟨⟨W1, Keeps.refl _ W1⟩⟩
  cases z1
  · go_wp2_with fail
    refine wp_region_ks (by kernel_rfl) (by kernel_rfl) ?_
    (repeat (first | go_big_quiet_skip | (refine wpQuiet_load (by kernel_rfl) 50 _ rfl ⟨w.heap.size, 0, none⟩ rfl _ HR.out ?_; (try simp only [Act.put, List.setIfInBounds_toArray, List.set_cons_zero, List.set_cons_succ])) | (refine wpQuiet_eql (by kernel_rfl) 107 _ _ _ rfl _ _ rfl rfl _ (by kernel_rfl) HE.out ?_; (try simp only [Act.put, List.setIfInBounds_toArray, List.set_cons_zero, List.set_cons_succ])) | (go_big_quiet_step ((go_at_call 53; refine (whoOf_any _ r).mono ?_; rintro e w9 ⟨rfl, k9⟩; exact ⟨rfl, ⟨_, (KS.property _).trans k9⟩, rfl⟩)))))
    refine wpQuiet_nil ?_
    rintro _ ⟨u, rfl⟩
    have ku := KK.trans u.property
    generalize u.val = wu at *
    go_wp2
    go_ret
    exact ⟨rfl, ku⟩
  cases q3
  · go_wp2_with fail
    refine wp_region_ks (by kernel_rfl) (by kernel_rfl) ?_
    (repeat (first | go_big_quiet_skip | (refine wpQuiet_load (by kernel_rfl) 50 _ rfl ⟨w.heap.size, 0, none⟩ rfl _ HR.out ?_; (try simp only [Act.put, List.setIfInBounds_toArray, List.set_cons_zero, List.set_cons_succ])) | (refine wpQuiet_eql (by kernel_rfl) 107 _ _ _ rfl _ _ rfl rfl _ (by kernel_rfl) HE.out ?_; (try simp only [Act.put, List.setIfInBounds_toArray, List.set_cons_zero, List.set_cons_succ])) | (go_big_quiet_step (first | (go_at_call 53; refine (whoOf_any _ r).mono ?_; rintro e w9 ⟨rfl, k9⟩; exact ⟨rfl, ⟨_, (KS.property _).trans k9⟩, rfl⟩) | (go_at_call 52; refine (hs _).mono ?_; rintro e w9 ⟨rfl, k9⟩; exact ⟨rfl, ⟨_, (KS.property _).trans k9⟩, rfl⟩)))))
    refine wpQuiet_nil ?_
    rintro _ ⟨u, rfl⟩
    have ku := KK.trans u.property
    generalize u.val = wu at *
    go_wp2
    go_ret
    exact ⟨rfl, ku⟩
  go_wp2_with fail
  refine wp_region_ks (by kernel_rfl) (by kernel_rfl) ?_
  (repeat (first | go_big_quiet_skip | (refine wpQuiet_load (by kernel_rfl) 50 _ rfl ⟨w.heap.size, 0, none⟩ rfl _ HR.out ?_; (try simp only [Act.put, List.setIfInBounds_toArray, List.set_cons_zero, List.set_cons_succ])) | (refine wpQuiet_eql (by kernel_rfl) 107 _ _ _ rfl _ _ rfl rfl _ (by kernel_rfl) HE.out ?_; (try simp only [Act.put, List.setIfInBounds_toArray, List.set_cons_zero, List.set_cons_succ])) | (go_big_quiet_step (first | (go_at_call 53; refine (whoOf_any _ r).mono ?_; rintro e w9 ⟨rfl, k9⟩; exact ⟨rfl, ⟨_, (KS.property _).trans k9⟩, rfl⟩) | (go_at_call 52; refine (hs _).mono ?_; rintro e w9 ⟨rfl, k9⟩; exact ⟨rfl, ⟨_, (KS.property _).trans k9⟩, rfl⟩)))))
  refine wpQuiet_nil ?_
  rintro _ ⟨u, rfl⟩
  have ku := KK.trans u.property
  generalize u.val = wu at *
  go_wp2
  go_ret
  exact ⟨rfl, ku⟩
end Go.Proofs.Ytmnmphkkcabkiaa

namespace Go.Proofs.Ytmnmphkkcabkiaa
open Go.RowKit
set_option maxHeartbeats 1000000 in
set_option maxRecDepth 100000 in
theorem fits_x (w : World) {kb : Nat} {f : Nat → Int} (hK : IB w kb 32 f) (r : Rw) (th : Nat) (hk : r.kind ≠ 0 ∧ r.kind ≠ 1 ∧ r.kind ≠ 2 ∧ r.kind ≠ 17) (et : r.thread = (th : Int)) (ht : th < 6) (hB : ∀ i, i < 32 → f i + 1 ≤ 9223372036854775807 ∧ -9223372036854775808 ≤ f i) : Calls Try.prog 38 #[.pointer (some ⟨kb, 0, none⟩), .agg r.cells.toArray] w fun e w' => e = .returned (.bool (fitP f r th)) ∧ Keeps (fun _ => False) w w' := by
  obtain ⟨w0, e0, k0, hb, hz0⟩ := rw_box w r
  have hK0 := hK.keep (by decide) k0 (fun e => e)
  have hne : ¬ kb = w.heap.size := fun e => by have := hK.lt (by decide); omega
  obtain ⟨hcl, c0, c1, c2, c3, c4, c5, c6, c7, c8, c11, c13, c17, c21, c25⟩ := hb
  unfold fitP
  rw [if_neg hk.1, if_neg (by omega), if_neg hk.2.1, if_neg hk.2.2.1, if_neg hk.2.2.2]
  have b0 : (r.kind == 0) = false := beq_eq_false_iff_ne.2 hk.1
  have b1 : (r.kind == 1) = false := beq_eq_false_iff_ne.2 hk.2.1
  have b2 : (r.kind == 2) = false := beq_eq_false_iff_ne.2 hk.2.2.1
  have b17 : (r.kind == 17) = false := beq_eq_false_iff_ne.2 hk.2.2.2
  have ho := fun W => ofAttempt_any W r.kind
  have he := fun W => endFits_any W r
  have hr := fun W => readFits_any W (f (th * 5)) (f (th * 5 + 1)) (f (th * 5 + 2)) (f (th * 5 + 3)) (f (th * 5 + 4)) r
  generalize endP r = ep at *
  generalize readP r (f (th * 5 + 4)) = rp at *
  generalize ofA r.kind = oa at *
  generalize r.kind = kd at *
  clear hk
  have d0 := hK0.c (th * 5) (by omega)
  have d1 := hK0.c (th * 5 + 1) (by omega)
  have d2 := hK0.c (th * 5 + 2) (by omega)
  have d3 := hK0.c (th * 5 + 3) (by omega)
  have d4 := hK0.c (th * 5 + 4) (by omega)
  have d30 := hK0.c 30 (by decide)
  have d31 := hK0.c 31 (by decide)
  have hB3 := hB (th * 5 + 1) (by omega)
  have hB4 := hB (th * 5 + 2) (by omega)
  have hB5 := hB 31 (by decide)
  clear hB hK hK0
  generalize f (th * 5) = f0 at *
  generalize f (th * 5 + 1) = f1 at *
  generalize f (th * 5 + 2) = f2 at *
  generalize f (th * 5 + 3) = f3 at *
  generalize f (th * 5 + 4) = f4 at *
  generalize f 30 = f30 at *
  generalize f 31 = f31 at *
  rw [et] at c1
  have i1 : (0 : Int) ≤ (th : Int) := by omega
  have i2 : (th : Int) < 6 := by omega
  have i3 : decide ((th : Int) < 0) = false := decide_eq_false (by omega)
  have i4 : decide ((6 : Int) ≤ (th : Int)) = false := decide_eq_false (by omega)
  have i5 : decide (6 ≤ th) = false := decide_eq_false (by omega)
  have hne2 : ¬ w.heap.size = kb := fun e => hne e.symm
  generalize hz1 : (f0 == 1) = z1
  generalize hq3 : eq3 r.job r.try_ r.no f1 f2 f3 = q3
  obtain ⟨W1, hW1⟩ : ∃ W1, W1 = (w0.alloc (.cells #[.int .i64 f0, .int .i64 f1, .int .i64 f2, .int .i64 f3, .int .i64 f4] 109)).drew := ⟨_, rfl⟩
  have k1 : Keeps (fun _ => False) w0 W1 := by rw [hW1]; exact ((Keeps.refl _ w0).alloc _).drew
  have m1 : CL W1 (w.heap.size + 1) [.int .i64 f0, .int .i64 f1, .int .i64 f2, .int .i64 f3, .int .i64 f4] := by rw [hW1, ← hz0]; exact (CL.made w0 _ _).drew
  have hzW : W1.heap.size = w.heap.size + 2 := by rw [hW1]; show (w0.alloc _).heap.size = _; simp [hz0]
  have HW1 : Hid (W1 = (w0.alloc (.cells #[.int .i64 f0, .int .i64 f1, .int .i64 f2, .int .i64 f3, .int .i64 f4] 109)).drew) := hW1
  clear hW1
  go_enter Try.func38, Try.ntmps38
  refine wp_seq_k (fun KK hKK => ?_)
  have hKH : Hid _ := hKK
  clear hKK
  go_wp2_with fail
  refine hKH.out _ _ ?_
  clear hKH KK
  rw [← e0]
  clear e0
  go_wp2_with fail
  go_region_held3 (fun w' => w'.cell? ⟨w.heap.size, 1, none⟩ = some (.int .i64 (th : Int)) ∧ w'.cell? ⟨kb, th * 5, none⟩ = some (.int .i64 f0) ∧ w'.cell? ⟨kb, th * 5 + 1, none⟩ = some (.int .i64 f1) ∧ w'.cell? ⟨kb, th * 5 + 2, none⟩ = some (.int .i64 f2) ∧ w'.cell? ⟨kb, th * 5 + 3, none⟩ = some (.int .i64 f3) ∧ w'.cell? ⟨kb, th * 5 + 4, none⟩ = some (.int .i64 f4)) (go_keep) (fail)
  rw [← HW1.out]
  clear HW1
  rename_i hHeld
  clear hHeld
  have hcl := hcl.keep (by show 0 < 26; decide) k1 (fun e => e)
  have c1 := k1.cell c1 (fun e => e)
  have c5 := k1.cell c5 (fun e => e)
  have c11 := k1.cell c11 (fun e => e)
  have d30 := k1.cell d30 (fun e => e)
  have d31 := k1.cell d31 (fun e => e)
  have e0 := m1.c 0 _ rfl
  have e1 := m1.c 1 _ rfl
  have e2 := m1.c 2 _ rfl
  have e3 := m1.c 3 _ rfl
  have e4 := m1.c 4 _ rfl
  have K1 := k0.trans k1
  clear k0 k1
  go_wp2_with fail
  have hNE0 : Nonempty (KS W1) := ⟨⟨W1, Keeps.refl _ W1⟩⟩
  have c5 := ks_cell c5
  have e0 := ks_cell e0
  have e1 := ks_cell e1
  have e2 := ks_cell e2
  have e3 := ks_cell e3
  have e4 := ks_cell e4
  have KK := K1
  clear K1
  have HE : Hid (∀ w, (Op.equalIn 10000 107 (.agg #[.int .i64 r.job, .int .i64 r.try_, .int .i64 r.no]) (.agg #[.int .i64 f1, .int .i64 f2, .int .i64 f3])).run Try.prog w = .ok q3 w) := fun w => by rw [← hq3]; exact eql_who w _ _ _ _ _ _
  clear hq3
  have HR : Hid (∀ w', (∃ u : KS W1, w' = u.1) → (loadVar 50 ⟨w.heap.size, 0, none⟩).run Try.prog w' = .ok (.agg r.cells.toArray) w') := by
    rintro _ ⟨u, rfl⟩
    exact run_rw (hcl.keep (by show 0 < 26; decide) u.property (fun e => e))
  have hNE : Nonempty (KS W1) := ⟨⟨W1, Keeps.refl _ W1⟩⟩
  cases oa
  · go_wp2_with fail
    refine wp_region_ks (by kernel_rfl) (by kernel_rfl) ?_
    (repeat (first | go_big_quiet_skip | (refine wpQuiet_load (by kernel_rfl) 50 _ rfl ⟨w.heap.size, 0, none⟩ rfl _ HR.out ?_; (try simp only [Act.put, List.setIfInBounds_toArray, List.set_cons_zero, List.set_cons_succ])) | (refine wpQuiet_eql (by kernel_rfl) 107 _ _ _ rfl _ _ rfl rfl _ (by kernel_rfl) HE.out ?_; (try simp only [Act.put, List.setIfInBounds_toArray, List.set_cons_zero, List.set_cons_succ])) | (go_big_quiet_step ((go_at_call 41; refine (ho _).mono ?_; rintro e w9 ⟨rfl, rfl⟩; exact ⟨rfl, _, rfl⟩)))))
    refine wpQuiet_nil ?_
    rintro _ ⟨u, rfl⟩
    have ku := KK.trans u.property
    generalize u.val = wu at *
    go_wp2
    go_ret
    exact ⟨rfl, ku⟩
  cases z1
  · go_wp2_with fail
    refine wp_region_ks (by kernel_rfl) (by kernel_rfl) ?_
    (repeat (first | go_big_quiet_skip | (refine wpQuiet_load (by kernel_rfl) 50 _ rfl ⟨w.heap.size, 0, none⟩ rfl _ HR.out ?_; (try simp only [Act.put, List.setIfInBounds_toArray, List.set_cons_zero, List.set_cons_succ])) | (refine wpQuiet_eql (by kernel_rfl) 107 _ _ _ rfl _ _ rfl rfl _ (by kernel_rfl) HE.out ?_; (try simp only [Act.put, List.setIfInBounds_toArray, List.set_cons_zero, List.set_cons_succ])) | (go_big_quiet_step (first | (go_at_call 41; refine (ho _).mono ?_; rintro e w9 ⟨rfl, rfl⟩; exact ⟨rfl, _, rfl⟩) | (go_at_call 53; refine (whoOf_any _ r).mono ?_; rintro e w9 ⟨rfl, k9⟩; exact ⟨rfl, ⟨_, (KS.property _).trans k9⟩, rfl⟩)))))
    refine wpQuiet_nil ?_
    rintro _ ⟨u, rfl⟩
    have ku := KK.trans u.property
    generalize u.val = wu at *
    go_wp2
    go_ret
    exact ⟨rfl, ku⟩
  cases q3
  · go_wp2_with fail
    refine wp_region_ks (by kernel_rfl) (by kernel_rfl) ?_
    (repeat (first | go_big_quiet_skip | (refine wpQuiet_load (by kernel_rfl) 50 _ rfl ⟨w.heap.size, 0, none⟩ rfl _ HR.out ?_; (try simp only [Act.put, List.setIfInBounds_toArray, List.set_cons_zero, List.set_cons_succ])) | (refine wpQuiet_eql (by kernel_rfl) 107 _ _ _ rfl _ _ rfl rfl _ (by kernel_rfl) HE.out ?_; (try simp only [Act.put, List.setIfInBounds_toArray, List.set_cons_zero, List.set_cons_succ])) | (go_big_quiet_step (first | (go_at_call 41; refine (ho _).mono ?_; rintro e w9 ⟨rfl, rfl⟩; exact ⟨rfl, _, rfl⟩) | (go_at_call 53; refine (whoOf_any _ r).mono ?_; rintro e w9 ⟨rfl, k9⟩; exact ⟨rfl, ⟨_, (KS.property _).trans k9⟩, rfl⟩)))))
    refine wpQuiet_nil ?_
    rintro _ ⟨u, rfl⟩
    have ku := KK.trans u.property
    generalize u.val = wu at *
    go_wp2
    go_ret
    exact ⟨rfl, ku⟩
  cases ep
  · go_wp2_with fail
    refine wp_region_ks (by kernel_rfl) (by kernel_rfl) ?_
    (repeat (first | go_big_quiet_skip | (refine wpQuiet_load (by kernel_rfl) 50 _ rfl ⟨w.heap.size, 0, none⟩ rfl _ HR.out ?_; (try simp only [Act.put, List.setIfInBounds_toArray, List.set_cons_zero, List.set_cons_succ])) | (refine wpQuiet_eql (by kernel_rfl) 107 _ _ _ rfl _ _ rfl rfl _ (by kernel_rfl) HE.out ?_; (try simp only [Act.put, List.setIfInBounds_toArray, List.set_cons_zero, List.set_cons_succ])) | (go_big_quiet_step (first | (go_at_call 41; refine (ho _).mono ?_; rintro e w9 ⟨rfl, rfl⟩; exact ⟨rfl, _, rfl⟩) | (go_at_call 53; refine (whoOf_any _ r).mono ?_; rintro e w9 ⟨rfl, k9⟩; exact ⟨rfl, ⟨_, (KS.property _).trans k9⟩, rfl⟩) | (go_at_call 54; refine (he _).mono ?_; rintro e w9 ⟨rfl, k9⟩; exact ⟨rfl, ⟨_, (KS.property _).trans k9⟩, rfl⟩)))))
    refine wpQuiet_nil ?_
    rintro _ ⟨u, rfl⟩
    have ku := KK.trans u.property
    generalize u.val = wu at *
    go_wp2
    go_ret
    exact ⟨rfl, ku⟩
  go_wp2_with fail
  refine wp_region_ks (by kernel_rfl) (by kernel_rfl) ?_
  (repeat (first | go_big_quiet_skip | (refine wpQuiet_load (by kernel_rfl) 50 _ rfl ⟨w.heap.size, 0, none⟩ rfl _ HR.out ?_; (try simp only [Act.put, List.setIfInBounds_toArray, List.set_cons_zero, List.set_cons_succ])) | (refine wpQuiet_eql (by kernel_rfl) 107 _ _ _ rfl _ _ rfl rfl _ (by kernel_rfl) HE.out ?_; (try simp only [Act.put, List.setIfInBounds_toArray, List.set_cons_zero, List.set_cons_succ])) | (go_big_quiet_step (first | (go_at_call 41; refine (ho _).mono ?_; rintro e w9 ⟨rfl, rfl⟩; exact ⟨rfl, _, rfl⟩) | (go_at_call 53; refine (whoOf_any _ r).mono ?_; rintro e w9 ⟨rfl, k9⟩; exact ⟨rfl, ⟨_, (KS.property _).trans k9⟩, rfl⟩) | (go_at_call 54; refine (he _).mono ?_; rintro e w9 ⟨rfl, k9⟩; exact ⟨rfl, ⟨_, (KS.property _).trans k9⟩, rfl⟩) | (go_at_call 55; refine (hr _).mono ?_; rintro e w9 ⟨rfl, k9⟩; exact ⟨rfl, ⟨_, (KS.property _).trans k9⟩, rfl⟩)))))
  refine wpQuiet_nil ?_
  rintro _ ⟨u, rfl⟩
  have ku := KK.trans u.property
  generalize u.val = wu at *
  go_wp2
  go_ret
  exact ⟨rfl, ku⟩
end Go.Proofs.Ytmnmphkkcabkiaa

