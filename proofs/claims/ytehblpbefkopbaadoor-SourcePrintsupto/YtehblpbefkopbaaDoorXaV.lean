import Derived.Test.YtehblpbefkopbaaDoorXaU
namespace Go.Proofs.YtehblpbefkopbaaDoor
open Go.RowKit Go.ChangeShapes Go.WideShapes Go.ChangeAt Go.Deep
attribute [local go_sem] Oper.semAt_some run_store_nf run_store_f
set_option maxHeartbeats 1000000 in
set_option maxRecDepth 100000 in
theorem cbe_1 {w : World} {b o : Nat} {n : Int} {wd : Bs} {p : Option Addr} {m c : Nat} (h : E4 w b o 1 n wd p m c) (_hw : wd.length ≤ 140737488355328) (_hG : SG w) : Calls Tryd.prog 63 #[pA b o] w fun e w' => e = .returned (.bool (okE 1 n wd m)) ∧ Keeps (fun _ => False) w w' := by
  obtain ⟨y0, y1, y2, y3⟩ := h
  have hk : okE 1 n wd m = (decide (0 ≤ n) && wd.isEmpty && decide (m = 0)) := by simp [okE]
  rw [hk]
  clear hk
  have e2 : (bs wd).toList.isEmpty = wd.isEmpty := by rw [bs_toList]
  have e3 : ((m : Int) == 0) = decide (m = 0) := by rw [beq_int]; exact dec_cast m 0
  have e4 : (m == 0) = decide (m = 0) := beq_nat _ _
  have e5 : decide ((m : Int) = 0) = decide (m = 0) := dec_cast m 0
  generalize hb1 : decide (0 ≤ n) = b1 at *
  generalize wd.isEmpty = b2 at *
  generalize bs wd = W0 at *
  generalize decide (m = 0) = b3 at *
  cases b1 <;> cases b2 <;> cases b3 <;>
  (go_enter Tryd.func63, Tryd.ntmps63
   go_wp2
   go_ret
   exact ⟨rfl, Keeps.refl _ _⟩)
set_option maxHeartbeats 1000000 in
set_option maxRecDepth 100000 in
theorem cbe_2 {w : World} {b o : Nat} {n : Int} {wd : Bs} {p : Option Addr} {m c : Nat} (h : E4 w b o 2 n wd p m c) (hw : wd.length ≤ 140737488355328) (hG : SG w) : Calls Tryd.prog 63 #[pA b o] w fun e w' => e = .returned (.bool (okE 2 n wd m)) ∧ Keeps (fun _ => False) w w' := by
  obtain ⟨y0, y1, y2, y3⟩ := h
  have hNm := name_any wd hw hG
  have hk : okE 2 n wd m = (decide (n = 0) && isNm wd && decide (m = 0)) := by simp [okE]
  rw [hk]
  clear hk
  have e1 : (n == 0) = decide (n = 0) := beq_int _ _
  have e3 : ((m : Int) == 0) = decide (m = 0) := by rw [beq_int]; exact dec_cast m 0
  have e4 : (m == 0) = decide (m = 0) := beq_nat _ _
  have e5 : decide ((m : Int) = 0) = decide (m = 0) := dec_cast m 0
  generalize decide (n = 0) = b1 at *
  generalize isNm wd = b2 at *
  generalize bs wd = W0 at *
  generalize decide (m = 0) = b3 at *
  cases b1 <;> cases b2 <;> cases b3 <;>
  (go_enter Tryd.func63, Tryd.ntmps63
   go_wp2_with (go_at_call 59; refine hNm.mono ?_; rintro e w' ⟨rfl, rfl⟩)
   go_ret
   exact ⟨rfl, Keeps.refl _ _⟩)
set_option maxHeartbeats 1000000 in
set_option maxRecDepth 100000 in
theorem cbe_3 {w : World} {b o : Nat} {n : Int} {wd : Bs} {p : Option Addr} {m c : Nat} (h : E4 w b o 3 n wd p m c) (_hw : wd.length ≤ 140737488355328) (_hG : SG w) : Calls Tryd.prog 63 #[pA b o] w fun e w' => e = .returned (.bool (okE 3 n wd m)) ∧ Keeps (fun _ => False) w w' := by
  obtain ⟨y0, y1, y2, y3⟩ := h
  have hk : okE 3 n wd m = (decide (n = 0) && wd.isEmpty && decide (m = 1)) := by simp [okE]
  rw [hk]
  clear hk
  have e1 : (n == 0) = decide (n = 0) := beq_int _ _
  have e2 : (bs wd).toList.isEmpty = wd.isEmpty := by rw [bs_toList]
  have e3 : ((m : Int) == 1) = decide (m = 1) := by rw [beq_int]; exact dec_cast m 1
  have e4 : (m == 1) = decide (m = 1) := beq_nat _ _
  have e5 : decide ((m : Int) = 1) = decide (m = 1) := dec_cast m 1
  generalize decide (n = 0) = b1 at *
  generalize wd.isEmpty = b2 at *
  generalize bs wd = W0 at *
  generalize decide (m = 1) = b3 at *
  cases b1 <;> cases b2 <;> cases b3 <;>
  (go_enter Tryd.func63, Tryd.ntmps63
   go_wp2
   go_ret
   exact ⟨rfl, Keeps.refl _ _⟩)
set_option maxHeartbeats 1000000 in
set_option maxRecDepth 100000 in
theorem cbe_4 {w : World} {b o : Nat} {n : Int} {wd : Bs} {p : Option Addr} {m c : Nat} (h : E4 w b o 4 n wd p m c) (_hw : wd.length ≤ 140737488355328) (_hG : SG w) : Calls Tryd.prog 63 #[pA b o] w fun e w' => e = .returned (.bool (okE 4 n wd m)) ∧ Keeps (fun _ => False) w w' := by
  obtain ⟨y0, y1, y2, y3⟩ := h
  have hk : okE 4 n wd m = (decide (n = 0) && wd.isEmpty && decide (m = 1)) := by simp [okE]
  rw [hk]
  clear hk
  have e1 : (n == 0) = decide (n = 0) := beq_int _ _
  have e2 : (bs wd).toList.isEmpty = wd.isEmpty := by rw [bs_toList]
  have e3 : ((m : Int) == 1) = decide (m = 1) := by rw [beq_int]; exact dec_cast m 1
  have e4 : (m == 1) = decide (m = 1) := beq_nat _ _
  have e5 : decide ((m : Int) = 1) = decide (m = 1) := dec_cast m 1
  generalize decide (n = 0) = b1 at *
  generalize wd.isEmpty = b2 at *
  generalize bs wd = W0 at *
  generalize decide (m = 1) = b3 at *
  cases b1 <;> cases b2 <;> cases b3 <;>
  (go_enter Tryd.func63, Tryd.ntmps63
   go_wp2
   go_ret
   exact ⟨rfl, Keeps.refl _ _⟩)
set_option maxHeartbeats 1000000 in
set_option maxRecDepth 100000 in
theorem cbe_5 {w : World} {b o : Nat} {n : Int} {wd : Bs} {p : Option Addr} {m c : Nat} (h : E4 w b o 5 n wd p m c) (_hw : wd.length ≤ 140737488355328) (_hG : SG w) : Calls Tryd.prog 63 #[pA b o] w fun e w' => e = .returned (.bool (okE 5 n wd m)) ∧ Keeps (fun _ => False) w w' := by
  obtain ⟨y0, y1, y2, y3⟩ := h
  have hk : okE 5 n wd m = (decide (n = 0) && wd.isEmpty && decide (m = 1)) := by simp [okE]
  rw [hk]
  clear hk
  have e1 : (n == 0) = decide (n = 0) := beq_int _ _
  have e2 : (bs wd).toList.isEmpty = wd.isEmpty := by rw [bs_toList]
  have e3 : ((m : Int) == 1) = decide (m = 1) := by rw [beq_int]; exact dec_cast m 1
  have e4 : (m == 1) = decide (m = 1) := beq_nat _ _
  have e5 : decide ((m : Int) = 1) = decide (m = 1) := dec_cast m 1
  generalize decide (n = 0) = b1 at *
  generalize wd.isEmpty = b2 at *
  generalize bs wd = W0 at *
  generalize decide (m = 1) = b3 at *
  cases b1 <;> cases b2 <;> cases b3 <;>
  (go_enter Tryd.func63, Tryd.ntmps63
   go_wp2
   go_ret
   exact ⟨rfl, Keeps.refl _ _⟩)
set_option maxHeartbeats 1000000 in
set_option maxRecDepth 100000 in
theorem cbe_6 {w : World} {b o : Nat} {n : Int} {wd : Bs} {p : Option Addr} {m c : Nat} (h : E4 w b o 6 n wd p m c) (_hw : wd.length ≤ 140737488355328) (_hG : SG w) : Calls Tryd.prog 63 #[pA b o] w fun e w' => e = .returned (.bool (okE 6 n wd m)) ∧ Keeps (fun _ => False) w w' := by
  obtain ⟨y0, y1, y2, y3⟩ := h
  have hk : okE 6 n wd m = (decide (n = 0) && wd.isEmpty && decide (m = 1)) := by simp [okE]
  rw [hk]
  clear hk
  have e1 : (n == 0) = decide (n = 0) := beq_int _ _
  have e2 : (bs wd).toList.isEmpty = wd.isEmpty := by rw [bs_toList]
  have e3 : ((m : Int) == 1) = decide (m = 1) := by rw [beq_int]; exact dec_cast m 1
  have e4 : (m == 1) = decide (m = 1) := beq_nat _ _
  have e5 : decide ((m : Int) = 1) = decide (m = 1) := dec_cast m 1
  generalize decide (n = 0) = b1 at *
  generalize wd.isEmpty = b2 at *
  generalize bs wd = W0 at *
  generalize decide (m = 1) = b3 at *
  cases b1 <;> cases b2 <;> cases b3 <;>
  (go_enter Tryd.func63, Tryd.ntmps63
   go_wp2
   go_ret
   exact ⟨rfl, Keeps.refl _ _⟩)
set_option maxHeartbeats 1000000 in
set_option maxRecDepth 100000 in
theorem cbe_7 {w : World} {b o : Nat} {n : Int} {wd : Bs} {p : Option Addr} {m c : Nat} (h : E4 w b o 7 n wd p m c) (_hw : wd.length ≤ 140737488355328) (hG : SG w) : Calls Tryd.prog 63 #[pA b o] w fun e w' => e = .returned (.bool (okE 7 n wd m)) ∧ Keeps (fun _ => False) w w' := by
  obtain ⟨y0, y1, y2, y3⟩ := h
  have hBd := binding_any wd hG
  have hfl : ∀ (x y z : Value) (w : World), (Instr.field 113 (.agg #[x, y, z]) 1).run Tryd.prog w = .ok y w := fun _ _ _ _ => by kernel_rfl
  have hk : okE 7 n wd m = (decide (n = 0) && decide (0 < (bnd wd).1) && decide (m = 2)) := by simp [okE]
  rw [hk]
  clear hk
  have e1 : (n == 0) = decide (n = 0) := beq_int _ _
  have e2 : decide ((0 : Int) < ((bnd wd).1 : Int)) = decide (0 < (bnd wd).1) := by by_cases q : 0 < (bnd wd).1 <;> simp [q] <;> omega
  have e3 : ((m : Int) == 2) = decide (m = 2) := by rw [beq_int]; exact dec_cast m 2
  have e4 : (m == 2) = decide (m = 2) := beq_nat _ _
  have e5 : decide ((m : Int) = 2) = decide (m = 2) := dec_cast m 2
  generalize decide (n = 0) = b1 at *
  generalize hb2 : decide (0 < (bnd wd).1) = b2 at *
  generalize (bnd wd).1 = s1 at *
  generalize (bnd wd).2 = s2 at *
  generalize bs wd = W0 at *
  generalize decide (m = 2) = b3 at *
  cases b1 <;> cases b2 <;> cases b3 <;>
  (go_enter Tryd.func63, Tryd.ntmps63
   go_wp2_with (go_at_call 58; refine hBd.mono ?_; rintro e w1 ⟨sb, rfl, k1⟩; have y3 := k1.cell y3 (fun e => e))
   go_ret
   first | exact ⟨rfl, k1⟩ | exact ⟨rfl, Keeps.refl _ _⟩)
set_option maxHeartbeats 1000000 in
set_option maxRecDepth 100000 in
theorem cbe_0 {w : World} {b o : Nat} {k n : Int} {wd : Bs} {p : Option Addr} {m c : Nat} (h : E4 w b o k n wd p m c) (h1 : k ≠ 1) (h2 : k ≠ 2) (h3 : k ≠ 3) (h4 : k ≠ 4) (h5 : k ≠ 5) (h6 : k ≠ 6) (h7 : k ≠ 7) : Calls Tryd.prog 63 #[pA b o] w fun e w' => e = .returned (.bool (okE k n wd m)) ∧ Keeps (fun _ => False) w w' := by
  obtain ⟨y0, y1, y2, y3⟩ := h
  have hk : okE k n wd m = false := by simp [okE, h1, h2, h3, h4, h5, h6, h7]
  rw [hk]
  clear hk
  have e1 : (k == 1) = false := beq_eq_false_iff_ne.2 h1
  have f1 : decide (k = 1) = false := decide_eq_false h1
  have e2 : (k == 2) = false := beq_eq_false_iff_ne.2 h2
  have f2 : decide (k = 2) = false := decide_eq_false h2
  have e3 : (k == 3) = false := beq_eq_false_iff_ne.2 h3
  have f3 : decide (k = 3) = false := decide_eq_false h3
  have e4 : (k == 4) = false := beq_eq_false_iff_ne.2 h4
  have f4 : decide (k = 4) = false := decide_eq_false h4
  have e5 : (k == 5) = false := beq_eq_false_iff_ne.2 h5
  have f5 : decide (k = 5) = false := decide_eq_false h5
  have e6 : (k == 6) = false := beq_eq_false_iff_ne.2 h6
  have f6 : decide (k = 6) = false := decide_eq_false h6
  have e7 : (k == 7) = false := beq_eq_false_iff_ne.2 h7
  have f7 : decide (k = 7) = false := decide_eq_false h7
  clear h1 h2 h3 h4 h5 h6 h7
  go_enter Tryd.func63, Tryd.ntmps63
  go_wp2
  go_ret
  exact ⟨rfl, Keeps.refl _ _⟩
theorem cbe_any {w : World} {b o : Nat} {k n : Int} {wd : Bs} {p : Option Addr} {m c : Nat} (h : E4 w b o k n wd p m c) (hw : wd.length ≤ 140737488355328) (hG : SG w) : Calls Tryd.prog 63 #[pA b o] w fun e w' => e = .returned (.bool (okE k n wd m)) ∧ Keeps (fun _ => False) w w' := by
  by_cases h1 : k = 1
  · subst h1; exact cbe_1 h hw hG
  by_cases h2 : k = 2
  · subst h2; exact cbe_2 h hw hG
  by_cases h3 : k = 3
  · subst h3; exact cbe_3 h hw hG
  by_cases h4 : k = 4
  · subst h4; exact cbe_4 h hw hG
  by_cases h5 : k = 5
  · subst h5; exact cbe_5 h hw hG
  by_cases h6 : k = 6
  · subst h6; exact cbe_6 h hw hG
  by_cases h7 : k = 7
  · subst h7; exact cbe_7 h hw hG
  exact cbe_0 h h1 h2 h3 h4 h5 h6 h7
end Go.Proofs.YtehblpbefkopbaaDoor
