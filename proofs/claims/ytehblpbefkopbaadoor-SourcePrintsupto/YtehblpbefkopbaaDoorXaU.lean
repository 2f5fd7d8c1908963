import Derived.Test.YtehblpbefkopbaaDoorXaT
import Derived.Test.YtehblpbefkopbaaDoorXaR
namespace Go.Proofs.YtehblpbefkopbaaDoor
open Go.RowKit Go.ChangeShapes Go.WideShapes Go.ChangeAt Go.Deep
attribute [local go_sem] Oper.semAt_some run_store_nf run_store_f
theorem iSz : (Tryd.prog.info? 74).map (·.size) = some 2 := by kernel_rfl
theorem run_sz {W : World} {b : Nat} {x y : Value} (h : CL W b [x, y]) : (loadVar 74 ⟨b, 0, none⟩).run Tryd.prog W = .ok (.agg #[x, y]) W :=
  run_loadVar_mid W b 0 74 [x, y] _ (fun j v e => by have := h.c j v e; rwa [Nat.zero_add]) Tryd.underlying74 rfl (by rw [iSz]; rfl)
theorem one2 {k n : Int} : ([.int .i64 k, .int .i64 n] : List Value).toArray.all (·.oneCell') = true := all_oneCell_toArray (by simp [Value.oneCell'])
abbrev zZ : List Value := [.int .i64 0, .int .i64 0]
abbrev vlW (d m : Nat) : Value := .agg #[.int .i64 (dI d), .int .i64 (m : Int)]
set_option maxHeartbeats 600000 in
theorem with_any (w : World) (a b : Nat × Nat) (ha : a.1 < 9223372036854775808 ∧ a.2 ≤ 4503599627370496) (hb : b.1 ≤ 9223372036854775808 ∧ b.2 ≤ 4503599627370496) : Calls Tryd.prog 51 #[vlV a.1 a.2, vlW b.1 b.2] w fun e w' => e = .returned (vlV (wtM a b).1 (wtM a b).2) ∧ Keeps (fun _ => False) w w' := by
  obtain ⟨a1, a2⟩ := a
  obtain ⟨b1, b2⟩ := b
  unfold wtM
  dsimp only at ha hb ⊢
  unfold vlV
  unfold vlW
  rw [zd_id ha.1]
  obtain ⟨d, hd⟩ : ∃ d, d = dI b1 := ⟨_, rfl⟩
  rw [← hd]
  have hdv : (d = (zd b1 : Int)) ∨ (d = -9223372036854775808 ∧ zd b1 = 0) := by
    rw [hd]; unfold dI zd
    split
    · exact .inl rfl
    · exact .inr ⟨rfl, rfl⟩
  clear hd
  have hmx : ∀ w, (Builtin.max_ #[3, 3] 3 #[.int .i64 (a1 : Int), .int .i64 d]).run Tryd.prog w = .ok (.int .i64 ((max a1 (zd b1) : Nat) : Int)) w := by
    intro w
    rcases hdv with h | ⟨h, hz⟩
    · rw [h]
      by_cases h : a1 ≤ zd b1
      · rw [Nat.max_eq_right h]
        simp [Builtin.max_, Builtin.max2]
        omega
      · rw [Nat.max_eq_left (by omega)]
        simp [Builtin.max_, Builtin.max2]
        omega
    · rw [h, hz, Nat.max_eq_left (Nat.zero_le _)]
      simp [Builtin.max_, Builtin.max2]
  have hs : (a2 : Int) + (b2 : Int) ≤ 9223372036854775807 := by omega
  have hsc : ((a2 + b2 : Nat) : Int) = (a2 : Int) + (b2 : Int) := by omega
  rw [hsc]
  obtain ⟨mx, hm⟩ : ∃ mx, mx = max a1 (zd b1) := ⟨_, rfl⟩
  rw [← hm] at hmx ⊢
  clear hm hsc
  obtain ⟨W3, hW3⟩ : ∃ W3, W3 = ((w.alloc (.cells #[.int .i64 (a1 : Int), .int .i64 (a2 : Int)] 74)).alloc (.cells #[.int .i64 d, .int .i64 (b2 : Int)] 74)).alloc (.cells #[.int .i64 0, .int .i64 0] 74) := ⟨_, rfl⟩
  have m3 : CL W3 (w.heap.size + 1 + 1) zZ := by rw [hW3]; have := CL.made ((w.alloc (.cells #[.int .i64 (a1 : Int), .int .i64 (a2 : Int)] 74)).alloc (.cells #[.int .i64 d, .int .i64 (b2 : Int)] 74)) zZ 74; simpa using this
  have k3 : Keeps (fun _ => False) w W3 := by rw [hW3]; exact (((Keeps.refl _ w).alloc _).alloc _).alloc _
  have HW : Hid (_ = _) := hW3
  clear hW3
  go_enter Tryd.func51, Tryd.ntmps51
  go_wp2_with (rw [← HW.out]; refine wpList_store_cl rfl 74 _ _ rfl (w.heap.size + 1 + 1) 0 2 _ rfl rfl rfl m3 (by show 2 ≤ 2; decide) iSz one2 ?_; intro w9 hc9 k9 zz9; clear zz9)
  have hc6 : CL w9 (w.heap.size + 1 + 1) [.int .i64 (mx : Int), .int .i64 ((a2 : Int) + (b2 : Int))] := hc9
  have hrn := run_sz hc6
  refine bodyPost_ret (v := .agg #[.int .i64 (mx : Int), .int .i64 ((a2 : Int) + (b2 : Int))]) (by rw [results_cell1 rfl]; simp [asAddr, hrn]) rfl ?_
  exact ⟨rfl, k3.trans' k9 (fun _ _ e => e) (fun i hi e => by omega)⟩
theorem with_n (w : World) (a b : Nat × Nat) (ha : a.1 < 9223372036854775808 ∧ a.2 ≤ 4503599627370496) (hb : b.1 < 9223372036854775808 ∧ b.2 ≤ 4503599627370496) : Calls Tryd.prog 51 #[vlV a.1 a.2, vlV b.1 b.2] w fun e w' => e = .returned (vlV (wtM a b).1 (wtM a b).2) ∧ Keeps (fun _ => False) w w' := by
  have h := with_any w a b ha ⟨Nat.le_of_lt hb.1, hb.2⟩
  rw [show vlW b.1 b.2 = vlV b.1 b.2 from by unfold vlW vlV; rw [dI_id hb.1]] at h
  exact h
set_option maxHeartbeats 600000 in
theorem under_any (w : World) (a : Nat × Nat) (ha : a.1 < 9223372036854775808 ∧ a.2 ≤ 4503599627370496) : Calls Tryd.prog 55 #[vlV a.1 a.2] w fun e w' => e = .returned (vlW (undr a).1 (undr a).2) ∧ Keeps (fun _ => False) w w' := by
  obtain ⟨a1, a2⟩ := a
  unfold undr
  dsimp only at ha ⊢
  unfold vlV vlW
  have hmx : ∀ w, (Builtin.min_ #[3, 3] 3 #[.int .i64 ((a2 : Int) + 1), .int .i64 513]).run Tryd.prog w = .ok (.int .i64 ((min (a2 + 1) 513 : Nat) : Int)) w := by
    intro w
    by_cases h : a2 + 1 ≤ 513
    · rw [Nat.min_eq_left h]
      simp [Builtin.min_, Builtin.min2]
      omega
    · rw [Nat.min_eq_right (by omega)]
      simp [Builtin.min_, Builtin.min2]
      omega
  have hs : (a2 : Int) + 1 ≤ 9223372036854775807 := by omega
  obtain ⟨mx, hm⟩ : ∃ mx, mx = min (a2 + 1) 513 := ⟨_, rfl⟩
  rw [← hm] at hmx ⊢
  clear hm
  obtain ⟨W3, hW3⟩ : ∃ W3, W3 = (w.alloc (.cells #[.int .i64 (a1 : Int), .int .i64 (a2 : Int)] 74)).alloc (.cells #[.int .i64 0, .int .i64 0] 74) := ⟨_, rfl⟩
  have m3 : CL W3 (w.heap.size + 1) zZ := by rw [hW3]; have := CL.made (w.alloc (.cells #[.int .i64 (a1 : Int), .int .i64 (a2 : Int)] 74)) zZ 74; simpa using this
  have k3 : Keeps (fun _ => False) w W3 := by rw [hW3]; exact ((Keeps.refl _ w).alloc _).alloc _
  have HW : Hid (_ = _) := hW3
  clear hW3
  obtain ⟨d, hd⟩ : ∃ d, d = dI (a1 + 1) := ⟨_, rfl⟩
  rw [← hd]
  have hwr : wrap64 ((a1 : Int) + 1) = d := by
    rw [hd]
    by_cases hq : a1 + 1 < 9223372036854775808
    · rw [dI_id hq]; unfold wrap64; omega
    · obtain rfl : a1 = 9223372036854775807 := by omega
      unfold dI
      rw [if_neg (by decide)]
      unfold wrap64; omega
  have HD : Hid _ := hwr
  clear hd hwr
  go_enter Tryd.func55, Tryd.ntmps55
  go_wp2_with (rw [← HW.out]; refine wpList_store_cl rfl 74 _ _ rfl (w.heap.size + 1) 0 2 _ rfl rfl rfl m3 (by show 2 ≤ 2; decide) iSz one2 ?_; intro w9 hc9 k9 zz9; clear zz9)
  have hc6 : CL w9 (w.heap.size + 1) [.int .i64 (wrap64 ((a1 : Int) + 1)), .int .i64 (mx : Int)] := hc9
  have hrn := run_sz hc6
  refine bodyPost_ret (v := .agg #[.int .i64 (wrap64 ((a1 : Int) + 1)), .int .i64 (mx : Int)]) (by rw [results_cell1 rfl]; simp [asAddr, hrn]) rfl ?_
  exact ⟨by rw [HD.out], k3.trans' k9 (fun _ _ e => e) (fun i hi e => by omega)⟩
/-- An expression's cells somewhere in a block. -/
structure E4 (W : World) (b o : Nat) (k n : Int) (wd : Bs) (p : Option Addr) (m c : Nat) : Prop where
  y0 : W.cell? ⟨b, o, none⟩ = some (.int .i64 k)
  y1 : W.cell? ⟨b, o + 1, none⟩ = some (.int .i64 n)
  y2 : W.cell? ⟨b, o + 2, none⟩ = some (.string (bs wd))
  y3 : W.cell? ⟨b, o + 3, none⟩ = some (.slice p m c)
abbrev pA (b o : Nat) : Value := .pointer (some ⟨b, o, none⟩)
theorem beq_int (a b : Int) : (a == b) = decide (a = b) := by by_cases h : a = b <;> simp [h]
theorem beq_nat (a b : Nat) : (a == b) = decide (a = b) := by by_cases h : a = b <;> simp [h]
theorem dec_cast (a b : Nat) : decide ((a : Int) = (b : Int)) = decide (a = b) := by by_cases h : a = b <;> simp [h] <;> omega
set_option maxHeartbeats 1000000 in
theorem isz_any {w : World} {b o : Nat} {k n : Int} {wd : Bs} {p : Option Addr} {m c : Nat} (h : E4 w b o k n wd p m c) : Calls Tryd.prog 60 #[pA b o] w fun e w' => e = .returned (.bool (decide (k = 0) && decide (n = 0) && wd.isEmpty && decide (m = 0))) ∧ w' = w := by
  obtain ⟨y0, y1, y2, y3⟩ := h
  have e0 : (k == 0) = decide (k = 0) := beq_int _ _
  have e1 : (n == 0) = decide (n = 0) := beq_int _ _
  have e2 : (bs wd).toList.isEmpty = wd.isEmpty := by rw [bs_toList]
  have e3 : ((m : Int) == 0) = decide (m = 0) := by rw [beq_int]; exact dec_cast m 0
  have e4 : (m == 0) = decide (m = 0) := beq_nat _ _
  have e5 : decide ((m : Int) = 0) = decide (m = 0) := dec_cast m 0
  generalize decide (k = 0) = b0 at *
  generalize decide (n = 0) = b1 at *
  generalize wd.isEmpty = b2 at *
  generalize decide (m = 0) = b3 at *
  generalize bs wd = W0 at *
  cases b0 <;> cases b1 <;> cases b2 <;> cases b3 <;>
  (go_enter Tryd.func60, Tryd.ntmps60
   go_wp2
   go_ret
   exact ⟨rfl, rfl⟩)
end Go.Proofs.YtehblpbefkopbaaDoor
