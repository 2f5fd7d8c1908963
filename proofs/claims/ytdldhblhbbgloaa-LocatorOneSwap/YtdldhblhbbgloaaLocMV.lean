import Derived.Test.YtdldhblhbbgloaaLocY
import Derived.Test.YtdldhblhbbgloaaLocOM
namespace Go.Proofs.Ytdldhblhbbgloaa
open Go.RowKit
section
variable {w : World} {ρ : Nat → Nat} {u j q rb wb mb : Nat} {s : Ws} {m : Mm} {k : Nat}
theorem com_get {i : Nat} (hi : i < s.objs.length) : (s.com m).getD i vl0 = s.value m i := by simp [Ws.com, List.getD_eq_getElem?_getD, hi]
theorem com_len : (s.com m).length = s.objs.length := by simp [Ws.com]
set_option maxHeartbeats 6400000 in
set_option maxRecDepth 1000000 in
theorem moved_none (h : Rs w ρ u j q rb wb mb s m k) {aw : Option Addr} {ws : List Vl} (hw : VA w aw ws) (hl : ws.length = s.objs.length) (cw : Nat) (kd : Int) (n12 : kd ≠ 12) (n9 : kd ≠ 9) (a b c : Int) (v : Vl) (sh : Bool) (er nn : Int) (d : Bool) (hMV : ∀ i, i < s.objs.length → s.value m i = ws.getD i vl0) :
    Calls Try.prog 36 #[.pointer (some ⟨rb, 0, none⟩), .agg #[.int .i64 kd, .int .i64 a, .int .i64 b, .int .i64 c, .int .i64 v.num, .int .i64 v.next, .bool v.dead, .bool sh], .agg #[.int .i64 er, .bool d, .int .i64 nn], .slice aw ws.length cw] w fun e w' => e = .returned (.bool true) ∧ Keeps (fun _ => False) w w' := by
  obtain ⟨w0, hw0⟩ : ∃ w0, w0 = (w.alloc (.cells #[.int .i64 kd, .int .i64 a, .int .i64 b, .int .i64 c, .int .i64 v.num, .int .i64 v.next, .bool v.dead, .bool sh] 30)).alloc (.cells #[.int .i64 er, .bool d, .int .i64 nn] 32) := ⟨_, rfl⟩
  have K0 : Keeps (fun _ => False) w w0 := by rw [hw0]; exact ((Keeps.refl _ w).alloc _).alloc _
  have g0 : w0.cell? ⟨w.heap.size, 0, none⟩ = some (.int .i64 kd) := by rw [hw0]; simp
  have g1 : w0.cell? ⟨w.heap.size, 1, none⟩ = some (.int .i64 a) := by rw [hw0]; simp
  have g3 : w0.cell? ⟨w.heap.size, 3, none⟩ = some (.int .i64 c) := by rw [hw0]; simp
  have t1 : w0.cell? ⟨w.heap.size + 1, 1, none⟩ = some (.bool d) := by rw [hw0]; simp
  have h0 := (h.new K0).1
  have cc1 : ∀ o1 o2, ((w.alloc o1).alloc o2).cell? ⟨rb, 1, none⟩ = some (.pointer (some ⟨wb, 0, none⟩)) := fun o1 o2 => (((Keeps.refl (fun _ => False) w).alloc o1).alloc o2).cell h.c1 (fun e => e)
  have hcm := com_any h0.st h0.iv.wf
  have hno : s.objs.length ≤ 80 := h.iv.no
  have H0 : Hid (Rs w0 ρ u j q rb wb mb s m k) := h0
  have IV : Hid (Inv s m) := h.iv
  have HW : Hid (VA w0 aw ws) := hw.new K0
  clear hw h h0
  go_enter Try.func36, Try.ntmps36
  go_wp2_with fail
  rw [← hw0]
  refine hcm.mono ?_
  clear hcm hw0 cc1
  rintro e w1 ⟨rfl, ow1, k1⟩
  obtain ⟨an, cn, e1, va1, _⟩ := va_own ow1 com_len
  injection e1 with e11 e12 e13
  subst e11 e13
  have V1 : Hid (VA w1 (some ⟨w0.heap.size, 0, none⟩) (s.com m)) := va1
  have HL : Hid (ws.length = s.objs.length) := hl
  clear e12 va1 ow1 hl
  obtain ⟨nw_, hnw⟩ : ∃ nw_, Hid (w0.heap.size = nw_) := ⟨_, rfl⟩
  rw [show w0.heap.size = nw_ from hnw] at V1 ⊢
  rw [HL.out]
  go_wp2_with fail
  go_loopw [10] (fun iv W => ∃ i : Nat, i ≤ s.objs.length ∧ iv = .int .i64 (i : Int) ∧ Keeps (fun _ => False) w1 W) (fun iv _ => s.objs.length - (intOf iv).toNat)
  case atStart => exact ⟨0, Nat.zero_le _, rfl, Keeps.refl _ w1⟩
  case round =>
    obtain ⟨i, hi, rfl, hk⟩ := hrel
    by_cases hlt : i < s.objs.length
    · have hltI : (i : Int) < (s.objs.length : Int) := by omega
      have KA := k1.trans hk
      obtain ⟨hat, hav, how, hnw2, hol, hnv⟩ := IV.out.stand hlt
      obtain ⟨bw, ow, rfl, x0, x1, x2⟩ := (HW.out.new KA).at (i := i) (by rw [HL.out]; exact hlt)
      obtain ⟨bn, on, ebn, y0, y1, y2⟩ := (V1.out.new hk).at (i := i) (by rw [com_len]; exact hlt)
      injection ebn with ebn
      injection ebn with eb1 eb2
      subst eb1 eb2
      rw [com_get hlt] at y0 y1 y2
      simp only [Nat.zero_add] at y0 y1 y2
      have HA := (H0.out.new KA).1
      have G0 := KA.cell g0 (fun e => e)
      have G1 := KA.cell g1 (fun e => e)
      have G3 := KA.cell g3 (fun e => e)
      have T1 := KA.cell t1 (fun e => e)
      obtain ⟨wv, hwv⟩ : ∃ wv, Hid (ws.getD i vl0 = wv) := ⟨_, rfl⟩
      rw [show ws.getD i vl0 = wv from hwv] at x0 x1 x2
      obtain ⟨wB, hwB⟩ : ∃ wB, wB = wr.alloc (.cells #[.int .i64 wv.num, .int .i64 wv.next, .bool wv.dead] 28) := ⟨_, rfl⟩
      have KB : Keeps (fun _ => False) wr wB := by rw [hwB]; exact (Keeps.refl _ wr).alloc _
      have HB := (HA.new KB).1
      have hcf := cellOf_ok HB hlt
      rw [hav] at hcf
      have lB : wr.heap.size < wB.heap.size := by rw [hwB]; simp
      have b0 : wB.cell? ⟨wr.heap.size, 0, none⟩ = some (.int .i64 wv.num) := by rw [hwB]; simp
      have b1 : wB.cell? ⟨wr.heap.size, 1, none⟩ = some (.int .i64 wv.next) := by rw [hwB]; simp
      have b2 : wB.cell? ⟨wr.heap.size, 2, none⟩ = some (.bool wv.dead) := by rw [hwB]; simp
      have bz : ∀ o, wB.frozen? ⟨wr.heap.size, o, none⟩ = false := by intro o; rw [hwB]; simp
      have CB := HB.c1
      have hlo := Locator_ok HB.st hat
      have HBH : Hid (Rs wB ρ u j q rb wb mb s m k) := HB
      have KAB : Hid (Keeps (fun _ => False) wr wB) := KB
      have hhn : ∀ (W : World) (_ : Keeps (fun _ => False) wB W), _ := fun W k => holds_ok (HB.new k).1 (i := (s.lo (s.at_ m i)).new) (by rw [hnw2, IV.out.vl]; exact hat)
      have hho : ∀ (W : World) (_ : Keeps (fun _ => False) wB W), _ := fun W k => holds_ok (HB.new k).1 (i := (s.lo (s.at_ m i)).old) (by rw [IV.out.vl]; exact hol)
      have Y0 := KB.cell y0 (fun e => e)
      have Y1 := KB.cell y1 (fun e => e)
      have Y2 := KB.cell y2 (fun e => e)
      replace G0 := KB.cell G0 (fun e => e)
      replace G1 := KB.cell G1 (fun e => e)
      replace G3 := KB.cell G3 (fun e => e)
      replace T1 := KB.cell T1 (fun e => e)
      obtain ⟨A, hA⟩ : ∃ A, Hid (s.at_ m i = A) := ⟨_, rfl⟩
      rw [show s.at_ m i = A from hA] at hcf hlo hhn hho hat
      have XN : Hid (wr.cell? ⟨nw_, i * 3, none⟩ = some (.int .i64 (s.value m i).num)) := y0
      obtain ⟨V, hV⟩ : ∃ V, Hid (s.value m i = V) := ⟨_, rfl⟩
      rw [show s.value m i = V from hV] at Y0 Y1 Y2
      obtain ⟨VN, hVN⟩ : ∃ VN, Hid (s.vl (s.lo A).new = VN) := ⟨_, rfl⟩
      rw [show s.vl (s.lo A).new = VN from hVN] at hhn
      obtain ⟨VO, hVO⟩ : ∃ VO, Hid (s.vl (s.lo A).old = VO) := ⟨_, rfl⟩
      rw [show s.vl (s.lo A).old = VO from hVO] at hho
      obtain ⟨L, hL⟩ : ∃ L, Hid (s.lo A = L) := ⟨_, rfl⟩
      rw [show s.lo A = L from hL] at hlo hhn hho
      have HI : Hid (i < s.objs.length) := hlt
      simp only [vv] at hhn hho
      clear hav how hnw2 hol hnv y0 y1 y2 HA HB KA KB hat
      have e1 : (kd == 12) = false := beq_eq_false_iff_ne.2 n12
      have e2 : (kd == 9) = false := beq_eq_false_iff_ne.2 n9
      have e3 : decide (kd = 12) = false := decide_eq_false n12
      have e4 : decide (kd = 9) = false := decide_eq_false n9
      go_wp2_with fail
      rw [← hwB]
      refine hcf.mono ?_
      clear hcf hwB x0 x1 x2
      rintro e wB' ⟨rfl, ewB⟩
      subst ewB
      go_wp2_with fail
      refine hlo.mono ?_
      clear hlo
      rintro e w5 ⟨rfl, k5⟩
      obtain ⟨w6, hw6⟩ : ∃ w6, w6 = w5.alloc (.cells #[.int .i64 (L.owner : Int), .int .i64 (L.old : Int), .int .i64 (L.new : Int)] 68) := ⟨_, rfl⟩
      have K6 : Keeps (fun _ => False) wB w6 := by rw [hw6]; exact k5.alloc _
      have l5 := k5.size
      have m0 := K6.cell G0 (fun e => e)
      have m1 := K6.cell G1 (fun e => e)
      have m3 := K6.cell G3 (fun e => e)
      have m4 := K6.cell T1 (fun e => e)
      have n0 := K6.cell Y0 (fun e => e)
      have n1 := K6.cell Y1 (fun e => e)
      have n2 := K6.cell Y2 (fun e => e)
      have b0' := K6.cell b0 (fun e => e)
      have b1' := K6.cell b1 (fun e => e)
      have b2' := K6.cell b2 (fun e => e)
      have bz' : ∀ o, w6.frozen? ⟨wr.heap.size, o, none⟩ = false := fun o => (K6.frozen (p := ⟨wr.heap.size, o, none⟩) lB (fun e => e)).trans (bz o)
      have o0 : w6.cell? ⟨w5.heap.size, 0, none⟩ = some (.int .i64 (L.owner : Int)) := by rw [hw6]; simp
      have o1 : w6.cell? ⟨w5.heap.size, 1, none⟩ = some (.int .i64 (L.old : Int)) := by rw [hw6]; simp
      have o2 : w6.cell? ⟨w5.heap.size, 2, none⟩ = some (.int .i64 (L.new : Int)) := by rw [hw6]; simp
      clear G0 G1 G3 T1 Y0 Y1 Y2 b0 b1 b2 bz CB
      go_wp2_with fail
      rw [← hw6]
      clear hw6
      refine (num_of _ _).mono ?_
      rintro e w6' ⟨rfl, ew6⟩
      subst ew6
      obtain rfl : wv = V := by have h1 := hMV i HI.out; have h2 := hwv.out; have h3 := hV.out; rw [← h2, ← h3]; exact h1.symm
      have N0 := ks_cell n0
      have N1 := ks_cell n1
      have N2 := ks_cell n2
      have B0 := ks_cell b0'
      have B1 := ks_cell b1'
      have B2 := ks_cell b2'
      have hNE : Nonempty (KS w6) := ⟨⟨w6, Keeps.refl _ w6⟩⟩
      go_wp2_with fail
      refine wp_region_ks (by kernel_rfl) (by kernel_rfl) ?_
      repeat (go_big_quiet_step (fail))
      refine wpQuiet_nil ?_
      rintro _ ⟨U, rfl⟩
      have KU : Keeps (fun _ => False) w1 U.val := (hk.trans KAB.out).trans' (K6.trans' U.property (U := fun _ => False) (fun _ _ e => e) (fun _ _ e => e)) (fun _ _ e => e) (fun x hx e => e)
      clear N0 N1 N2 B0 B1 B2 hNE
      generalize U.val = wu at *
      go_wp2_with fail
      go_roundw
      case rel => exact ⟨i + 1, by omega, by go_num, KU⟩
      case measure => simp [intOf]; omega
    · have hltI : ¬ (i : Int) < (s.objs.length : Int) := by omega
      go_wp2_with fail
      go_ret
      exact ⟨rfl, K0.trans (k1.trans hk)⟩
set_option maxHeartbeats 6400000 in
set_option maxRecDepth 1000000 in
theorem moved_c0 (h : Rs w ρ u j q rb wb mb s m k) {aw : Option Addr} {ws : List Vl} (hw : VA w aw ws) (hl : ws.length = s.objs.length) (cw : Nat)  (a b c : Int) (v : Vl) (sh : Bool) (er nn : Int) (hMV : ∀ i, i < s.objs.length → s.value m i = ws.getD i vl0) :
    Calls Try.prog 36 #[.pointer (some ⟨rb, 0, none⟩), .agg #[.int .i64 12, .int .i64 a, .int .i64 b, .int .i64 c, .int .i64 v.num, .int .i64 v.next, .bool v.dead, .bool sh], .agg #[.int .i64 er, .bool false, .int .i64 nn], .slice aw ws.length cw] w fun e w' => e = .returned (.bool true) ∧ Keeps (fun _ => False) w w' := by
  obtain ⟨w0, hw0⟩ : ∃ w0, w0 = (w.alloc (.cells #[.int .i64 12, .int .i64 a, .int .i64 b, .int .i64 c, .int .i64 v.num, .int .i64 v.next, .bool v.dead, .bool sh] 30)).alloc (.cells #[.int .i64 er, .bool false, .int .i64 nn] 32) := ⟨_, rfl⟩
  have K0 : Keeps (fun _ => False) w w0 := by rw [hw0]; exact ((Keeps.refl _ w).alloc _).alloc _
  have g0 : w0.cell? ⟨w.heap.size, 0, none⟩ = some (.int .i64 12) := by rw [hw0]; simp
  have g1 : w0.cell? ⟨w.heap.size, 1, none⟩ = some (.int .i64 a) := by rw [hw0]; simp
  have g3 : w0.cell? ⟨w.heap.size, 3, none⟩ = some (.int .i64 c) := by rw [hw0]; simp
  have t1 : w0.cell? ⟨w.heap.size + 1, 1, none⟩ = some (.bool false) := by rw [hw0]; simp
  have h0 := (h.new K0).1
  have cc1 : ∀ o1 o2, ((w.alloc o1).alloc o2).cell? ⟨rb, 1, none⟩ = some (.pointer (some ⟨wb, 0, none⟩)) := fun o1 o2 => (((Keeps.refl (fun _ => False) w).alloc o1).alloc o2).cell h.c1 (fun e => e)
  have hcm := com_any h0.st h0.iv.wf
  have hno : s.objs.length ≤ 80 := h.iv.no
  have H0 : Hid (Rs w0 ρ u j q rb wb mb s m k) := h0
  have IV : Hid (Inv s m) := h.iv
  have HW : Hid (VA w0 aw ws) := hw.new K0
  clear hw h h0
  go_enter Try.func36, Try.ntmps36
  go_wp2_with fail
  rw [← hw0]
  refine hcm.mono ?_
  clear hcm hw0 cc1
  rintro e w1 ⟨rfl, ow1, k1⟩
  obtain ⟨an, cn, e1, va1, _⟩ := va_own ow1 com_len
  injection e1 with e11 e12 e13
  subst e11 e13
  have V1 : Hid (VA w1 (some ⟨w0.heap.size, 0, none⟩) (s.com m)) := va1
  have HL : Hid (ws.length = s.objs.length) := hl
  clear e12 va1 ow1 hl
  obtain ⟨nw_, hnw⟩ : ∃ nw_, Hid (w0.heap.size = nw_) := ⟨_, rfl⟩
  rw [show w0.heap.size = nw_ from hnw] at V1 ⊢
  rw [HL.out]
  go_wp2_with fail
  go_loopw [10] (fun iv W => ∃ i : Nat, i ≤ s.objs.length ∧ iv = .int .i64 (i : Int) ∧ Keeps (fun _ => False) w1 W) (fun iv _ => s.objs.length - (intOf iv).toNat)
  case atStart => exact ⟨0, Nat.zero_le _, rfl, Keeps.refl _ w1⟩
  case round =>
    obtain ⟨i, hi, rfl, hk⟩ := hrel
    by_cases hlt : i < s.objs.length
    · have hltI : (i : Int) < (s.objs.length : Int) := by omega
      have KA := k1.trans hk
      obtain ⟨hat, hav, how, hnw2, hol, hnv⟩ := IV.out.stand hlt
      obtain ⟨bw, ow, rfl, x0, x1, x2⟩ := (HW.out.new KA).at (i := i) (by rw [HL.out]; exact hlt)
      obtain ⟨bn, on, ebn, y0, y1, y2⟩ := (V1.out.new hk).at (i := i) (by rw [com_len]; exact hlt)
      injection ebn with ebn
      injection ebn with eb1 eb2
      subst eb1 eb2
      rw [com_get hlt] at y0 y1 y2
      simp only [Nat.zero_add] at y0 y1 y2
      have HA := (H0.out.new KA).1
      have G0 := KA.cell g0 (fun e => e)
      have G1 := KA.cell g1 (fun e => e)
      have G3 := KA.cell g3 (fun e => e)
      have T1 := KA.cell t1 (fun e => e)
      obtain ⟨wv, hwv⟩ : ∃ wv, Hid (ws.getD i vl0 = wv) := ⟨_, rfl⟩
      rw [show ws.getD i vl0 = wv from hwv] at x0 x1 x2
      obtain ⟨wB, hwB⟩ : ∃ wB, wB = wr.alloc (.cells #[.int .i64 wv.num, .int .i64 wv.next, .bool wv.dead] 28) := ⟨_, rfl⟩
      have KB : Keeps (fun _ => False) wr wB := by rw [hwB]; exact (Keeps.refl _ wr).alloc _
      have HB := (HA.new KB).1
      have hcf := cellOf_ok HB hlt
      rw [hav] at hcf
      have lB : wr.heap.size < wB.heap.size := by rw [hwB]; simp
      have b0 : wB.cell? ⟨wr.heap.size, 0, none⟩ = some (.int .i64 wv.num) := by rw [hwB]; simp
      have b1 : wB.cell? ⟨wr.heap.size, 1, none⟩ = some (.int .i64 wv.next) := by rw [hwB]; simp
      have b2 : wB.cell? ⟨wr.heap.size, 2, none⟩ = some (.bool wv.dead) := by rw [hwB]; simp
      have bz : ∀ o, wB.frozen? ⟨wr.heap.size, o, none⟩ = false := by intro o; rw [hwB]; simp
      have CB := HB.c1
      have hlo := Locator_ok HB.st hat
      have HBH : Hid (Rs wB ρ u j q rb wb mb s m k) := HB
      have KAB : Hid (Keeps (fun _ => False) wr wB) := KB
      have hhn : ∀ (W : World) (_ : Keeps (fun _ => False) wB W), _ := fun W k => holds_ok (HB.new k).1 (i := (s.lo (s.at_ m i)).new) (by rw [hnw2, IV.out.vl]; exact hat)
      have hho : ∀ (W : World) (_ : Keeps (fun _ => False) wB W), _ := fun W k => holds_ok (HB.new k).1 (i := (s.lo (s.at_ m i)).old) (by rw [IV.out.vl]; exact hol)
      have Y0 := KB.cell y0 (fun e => e)
      have Y1 := KB.cell y1 (fun e => e)
      have Y2 := KB.cell y2 (fun e => e)
      replace G0 := KB.cell G0 (fun e => e)
      replace G1 := KB.cell G1 (fun e => e)
      replace G3 := KB.cell G3 (fun e => e)
      replace T1 := KB.cell T1 (fun e => e)
      obtain ⟨A, hA⟩ : ∃ A, Hid (s.at_ m i = A) := ⟨_, rfl⟩
      rw [show s.at_ m i = A from hA] at hcf hlo hhn hho hat
      have XN : Hid (wr.cell? ⟨nw_, i * 3, none⟩ = some (.int .i64 (s.value m i).num)) := y0
      obtain ⟨V, hV⟩ : ∃ V, Hid (s.value m i = V) := ⟨_, rfl⟩
      rw [show s.value m i = V from hV] at Y0 Y1 Y2
      obtain ⟨VN, hVN⟩ : ∃ VN, Hid (s.vl (s.lo A).new = VN) := ⟨_, rfl⟩
      rw [show s.vl (s.lo A).new = VN from hVN] at hhn
      obtain ⟨VO, hVO⟩ : ∃ VO, Hid (s.vl (s.lo A).old = VO) := ⟨_, rfl⟩
      rw [show s.vl (s.lo A).old = VO from hVO] at hho
      obtain ⟨L, hL⟩ : ∃ L, Hid (s.lo A = L) := ⟨_, rfl⟩
      rw [show s.lo A = L from hL] at hlo hhn hho
      have HI : Hid (i < s.objs.length) := hlt
      simp only [vv] at hhn hho
      clear hav how hnw2 hol hnv y0 y1 y2 HA HB KA KB hat
      go_wp2_with fail
      rw [← hwB]
      refine hcf.mono ?_
      clear hcf hwB x0 x1 x2
      rintro e wB' ⟨rfl, ewB⟩
      subst ewB
      go_wp2_with fail
      refine hlo.mono ?_
      clear hlo
      rintro e w5 ⟨rfl, k5⟩
      obtain ⟨w6, hw6⟩ : ∃ w6, w6 = w5.alloc (.cells #[.int .i64 (L.owner : Int), .int .i64 (L.old : Int), .int .i64 (L.new : Int)] 68) := ⟨_, rfl⟩
      have K6 : Keeps (fun _ => False) wB w6 := by rw [hw6]; exact k5.alloc _
      have l5 := k5.size
      have m0 := K6.cell G0 (fun e => e)
      have m1 := K6.cell G1 (fun e => e)
      have m3 := K6.cell G3 (fun e => e)
      have m4 := K6.cell T1 (fun e => e)
      have n0 := K6.cell Y0 (fun e => e)
      have n1 := K6.cell Y1 (fun e => e)
      have n2 := K6.cell Y2 (fun e => e)
      have b0' := K6.cell b0 (fun e => e)
      have b1' := K6.cell b1 (fun e => e)
      have b2' := K6.cell b2 (fun e => e)
      have bz' : ∀ o, w6.frozen? ⟨wr.heap.size, o, none⟩ = false := fun o => (K6.frozen (p := ⟨wr.heap.size, o, none⟩) lB (fun e => e)).trans (bz o)
      have o0 : w6.cell? ⟨w5.heap.size, 0, none⟩ = some (.int .i64 (L.owner : Int)) := by rw [hw6]; simp
      have o1 : w6.cell? ⟨w5.heap.size, 1, none⟩ = some (.int .i64 (L.old : Int)) := by rw [hw6]; simp
      have o2 : w6.cell? ⟨w5.heap.size, 2, none⟩ = some (.int .i64 (L.new : Int)) := by rw [hw6]; simp
      clear G0 G1 G3 T1 Y0 Y1 Y2 b0 b1 b2 bz CB
      go_wp2_with fail
      rw [← hw6]
      clear hw6
      refine (num_of _ _).mono ?_
      rintro e w6' ⟨rfl, ew6⟩
      subst ew6
      obtain rfl : wv = V := by have h1 := hMV i HI.out; have h2 := hwv.out; have h3 := hV.out; rw [← h2, ← h3]; exact h1.symm
      have N0 := ks_cell n0
      have N1 := ks_cell n1
      have N2 := ks_cell n2
      have B0 := ks_cell b0'
      have B1 := ks_cell b1'
      have B2 := ks_cell b2'
      have hNE : Nonempty (KS w6) := ⟨⟨w6, Keeps.refl _ w6⟩⟩
      go_wp2_with fail
      refine wp_region_ks (by kernel_rfl) (by kernel_rfl) ?_
      repeat (go_big_quiet_step (fail))
      refine wpQuiet_nil ?_
      rintro _ ⟨U, rfl⟩
      have KU : Keeps (fun _ => False) w1 U.val := (hk.trans KAB.out).trans' (K6.trans' U.property (U := fun _ => False) (fun _ _ e => e) (fun _ _ e => e)) (fun _ _ e => e) (fun x hx e => e)
      clear N0 N1 N2 B0 B1 B2 hNE
      generalize U.val = wu at *
      go_wp2_with fail
      go_roundw
      case rel => exact ⟨i + 1, by omega, by go_num, KU⟩
      case measure => simp [intOf]; omega
    · have hltI : ¬ (i : Int) < (s.objs.length : Int) := by omega
      go_wp2_with fail
      go_ret
      exact ⟨rfl, K0.trans (k1.trans hk)⟩
set_option maxHeartbeats 6400000 in
set_option maxRecDepth 1000000 in
theorem moved_a0 (h : Rs w ρ u j q rb wb mb s m k) {aw : Option Addr} {ws : List Vl} (hw : VA w aw ws) (hl : ws.length = s.objs.length) (cw : Nat)  (a b c : Int) (v : Vl) (sh : Bool) (er nn : Int) (hMV : ∀ i, i < s.objs.length → s.value m i = ws.getD i vl0) :
    Calls Try.prog 36 #[.pointer (some ⟨rb, 0, none⟩), .agg #[.int .i64 9, .int .i64 a, .int .i64 b, .int .i64 c, .int .i64 v.num, .int .i64 v.next, .bool v.dead, .bool sh], .agg #[.int .i64 er, .bool false, .int .i64 nn], .slice aw ws.length cw] w fun e w' => e = .returned (.bool true) ∧ Keeps (fun _ => False) w w' := by
  obtain ⟨w0, hw0⟩ : ∃ w0, w0 = (w.alloc (.cells #[.int .i64 9, .int .i64 a, .int .i64 b, .int .i64 c, .int .i64 v.num, .int .i64 v.next, .bool v.dead, .bool sh] 30)).alloc (.cells #[.int .i64 er, .bool false, .int .i64 nn] 32) := ⟨_, rfl⟩
  have K0 : Keeps (fun _ => False) w w0 := by rw [hw0]; exact ((Keeps.refl _ w).alloc _).alloc _
  have g0 : w0.cell? ⟨w.heap.size, 0, none⟩ = some (.int .i64 9) := by rw [hw0]; simp
  have g1 : w0.cell? ⟨w.heap.size, 1, none⟩ = some (.int .i64 a) := by rw [hw0]; simp
  have g3 : w0.cell? ⟨w.heap.size, 3, none⟩ = some (.int .i64 c) := by rw [hw0]; simp
  have t1 : w0.cell? ⟨w.heap.size + 1, 1, none⟩ = some (.bool false) := by rw [hw0]; simp
  have h0 := (h.new K0).1
  have cc1 : ∀ o1 o2, ((w.alloc o1).alloc o2).cell? ⟨rb, 1, none⟩ = some (.pointer (some ⟨wb, 0, none⟩)) := fun o1 o2 => (((Keeps.refl (fun _ => False) w).alloc o1).alloc o2).cell h.c1 (fun e => e)
  have hcm := com_any h0.st h0.iv.wf
  have hno : s.objs.length ≤ 80 := h.iv.no
  have H0 : Hid (Rs w0 ρ u j q rb wb mb s m k) := h0
  have IV : Hid (Inv s m) := h.iv
  have HW : Hid (VA w0 aw ws) := hw.new K0
  clear hw h h0
  go_enter Try.func36, Try.ntmps36
  go_wp2_with fail
  rw [← hw0]
  refine hcm.mono ?_
  clear hcm hw0 cc1
  rintro e w1 ⟨rfl, ow1, k1⟩
  obtain ⟨an, cn, e1, va1, _⟩ := va_own ow1 com_len
  injection e1 with e11 e12 e13
  subst e11 e13
  have V1 : Hid (VA w1 (some ⟨w0.heap.size, 0, none⟩) (s.com m)) := va1
  have HL : Hid (ws.length = s.objs.length) := hl
  clear e12 va1 ow1 hl
  obtain ⟨nw_, hnw⟩ : ∃ nw_, Hid (w0.heap.size = nw_) := ⟨_, rfl⟩
  rw [show w0.heap.size = nw_ from hnw] at V1 ⊢
  rw [HL.out]
  go_wp2_with fail
  go_loopw [10] (fun iv W => ∃ i : Nat, i ≤ s.objs.length ∧ iv = .int .i64 (i : Int) ∧ Keeps (fun _ => False) w1 W) (fun iv _ => s.objs.length - (intOf iv).toNat)
  case atStart => exact ⟨0, Nat.zero_le _, rfl, Keeps.refl _ w1⟩
  case round =>
    obtain ⟨i, hi, rfl, hk⟩ := hrel
    by_cases hlt : i < s.objs.length
    · have hltI : (i : Int) < (s.objs.length : Int) := by omega
      have KA := k1.trans hk
      obtain ⟨hat, hav, how, hnw2, hol, hnv⟩ := IV.out.stand hlt
      obtain ⟨bw, ow, rfl, x0, x1, x2⟩ := (HW.out.new KA).at (i := i) (by rw [HL.out]; exact hlt)
      obtain ⟨bn, on, ebn, y0, y1, y2⟩ := (V1.out.new hk).at (i := i) (by rw [com_len]; exact hlt)
      injection ebn with ebn
      injection ebn with eb1 eb2
      subst eb1 eb2
      rw [com_get hlt] at y0 y1 y2
      simp only [Nat.zero_add] at y0 y1 y2
      have HA := (H0.out.new KA).1
      have G0 := KA.cell g0 (fun e => e)
      have G1 := KA.cell g1 (fun e => e)
      have G3 := KA.cell g3 (fun e => e)
      have T1 := KA.cell t1 (fun e => e)
      obtain ⟨wv, hwv⟩ : ∃ wv, Hid (ws.getD i vl0 = wv) := ⟨_, rfl⟩
      rw [show ws.getD i vl0 = wv from hwv] at x0 x1 x2
      obtain ⟨wB, hwB⟩ : ∃ wB, wB = wr.alloc (.cells #[.int .i64 wv.num, .int .i64 wv.next, .bool wv.dead] 28) := ⟨_, rfl⟩
      have KB : Keeps (fun _ => False) wr wB := by rw [hwB]; exact (Keeps.refl _ wr).alloc _
      have HB := (HA.new KB).1
      have hcf := cellOf_ok HB hlt
      rw [hav] at hcf
      have lB : wr.heap.size < wB.heap.size := by rw [hwB]; simp
      have b0 : wB.cell? ⟨wr.heap.size, 0, none⟩ = some (.int .i64 wv.num) := by rw [hwB]; simp
      have b1 : wB.cell? ⟨wr.heap.size, 1, none⟩ = some (.int .i64 wv.next) := by rw [hwB]; simp
      have b2 : wB.cell? ⟨wr.heap.size, 2, none⟩ = some (.bool wv.dead) := by rw [hwB]; simp
      have bz : ∀ o, wB.frozen? ⟨wr.heap.size, o, none⟩ = false := by intro o; rw [hwB]; simp
      have CB := HB.c1
      have hlo := Locator_ok HB.st hat
      have HBH : Hid (Rs wB ρ u j q rb wb mb s m k) := HB
      have KAB : Hid (Keeps (fun _ => False) wr wB) := KB
      have hhn : ∀ (W : World) (_ : Keeps (fun _ => False) wB W), _ := fun W k => holds_ok (HB.new k).1 (i := (s.lo (s.at_ m i)).new) (by rw [hnw2, IV.out.vl]; exact hat)
      have hho : ∀ (W : World) (_ : Keeps (fun _ => False) wB W), _ := fun W k => holds_ok (HB.new k).1 (i := (s.lo (s.at_ m i)).old) (by rw [IV.out.vl]; exact hol)
      have Y0 := KB.cell y0 (fun e => e)
      have Y1 := KB.cell y1 (fun e => e)
      have Y2 := KB.cell y2 (fun e => e)
      replace G0 := KB.cell G0 (fun e => e)
      replace G1 := KB.cell G1 (fun e => e)
      replace G3 := KB.cell G3 (fun e => e)
      replace T1 := KB.cell T1 (fun e => e)
      obtain ⟨A, hA⟩ : ∃ A, Hid (s.at_ m i = A) := ⟨_, rfl⟩
      rw [show s.at_ m i = A from hA] at hcf hlo hhn hho hat
      have XN : Hid (wr.cell? ⟨nw_, i * 3, none⟩ = some (.int .i64 (s.value m i).num)) := y0
      obtain ⟨V, hV⟩ : ∃ V, Hid (s.value m i = V) := ⟨_, rfl⟩
      rw [show s.value m i = V from hV] at Y0 Y1 Y2
      obtain ⟨VN, hVN⟩ : ∃ VN, Hid (s.vl (s.lo A).new = VN) := ⟨_, rfl⟩
      rw [show s.vl (s.lo A).new = VN from hVN] at hhn
      obtain ⟨VO, hVO⟩ : ∃ VO, Hid (s.vl (s.lo A).old = VO) := ⟨_, rfl⟩
      rw [show s.vl (s.lo A).old = VO from hVO] at hho
      obtain ⟨L, hL⟩ : ∃ L, Hid (s.lo A = L) := ⟨_, rfl⟩
      rw [show s.lo A = L from hL] at hlo hhn hho
      have HI : Hid (i < s.objs.length) := hlt
      simp only [vv] at hhn hho
      clear hav how hnw2 hol hnv y0 y1 y2 HA HB KA KB hat
      go_wp2_with fail
      rw [← hwB]
      refine hcf.mono ?_
      clear hcf hwB x0 x1 x2
      rintro e wB' ⟨rfl, ewB⟩
      subst ewB
      go_wp2_with fail
      refine hlo.mono ?_
      clear hlo
      rintro e w5 ⟨rfl, k5⟩
      obtain ⟨w6, hw6⟩ : ∃ w6, w6 = w5.alloc (.cells #[.int .i64 (L.owner : Int), .int .i64 (L.old : Int), .int .i64 (L.new : Int)] 68) := ⟨_, rfl⟩
      have K6 : Keeps (fun _ => False) wB w6 := by rw [hw6]; exact k5.alloc _
      have l5 := k5.size
      have m0 := K6.cell G0 (fun e => e)
      have m1 := K6.cell G1 (fun e => e)
      have m3 := K6.cell G3 (fun e => e)
      have m4 := K6.cell T1 (fun e => e)
      have n0 := K6.cell Y0 (fun e => e)
      have n1 := K6.cell Y1 (fun e => e)
      have n2 := K6.cell Y2 (fun e => e)
      have b0' := K6.cell b0 (fun e => e)
      have b1' := K6.cell b1 (fun e => e)
      have b2' := K6.cell b2 (fun e => e)
      have bz' : ∀ o, w6.frozen? ⟨wr.heap.size, o, none⟩ = false := fun o => (K6.frozen (p := ⟨wr.heap.size, o, none⟩) lB (fun e => e)).trans (bz o)
      have o0 : w6.cell? ⟨w5.heap.size, 0, none⟩ = some (.int .i64 (L.owner : Int)) := by rw [hw6]; simp
      have o1 : w6.cell? ⟨w5.heap.size, 1, none⟩ = some (.int .i64 (L.old : Int)) := by rw [hw6]; simp
      have o2 : w6.cell? ⟨w5.heap.size, 2, none⟩ = some (.int .i64 (L.new : Int)) := by rw [hw6]; simp
      clear G0 G1 G3 T1 Y0 Y1 Y2 b0 b1 b2 bz CB
      go_wp2_with fail
      rw [← hw6]
      clear hw6
      refine (num_of _ _).mono ?_
      rintro e w6' ⟨rfl, ew6⟩
      subst ew6
      obtain rfl : wv = V := by have h1 := hMV i HI.out; have h2 := hwv.out; have h3 := hV.out; rw [← h2, ← h3]; exact h1.symm
      have N0 := ks_cell n0
      have N1 := ks_cell n1
      have N2 := ks_cell n2
      have B0 := ks_cell b0'
      have B1 := ks_cell b1'
      have B2 := ks_cell b2'
      have hNE : Nonempty (KS w6) := ⟨⟨w6, Keeps.refl _ w6⟩⟩
      go_wp2_with fail
      refine wp_region_ks (by kernel_rfl) (by kernel_rfl) ?_
      repeat (go_big_quiet_step (fail))
      refine wpQuiet_nil ?_
      rintro _ ⟨U, rfl⟩
      have KU : Keeps (fun _ => False) w1 U.val := (hk.trans KAB.out).trans' (K6.trans' U.property (U := fun _ => False) (fun _ _ e => e) (fun _ _ e => e)) (fun _ _ e => e) (fun x hx e => e)
      clear N0 N1 N2 B0 B1 B2 hNE
      generalize U.val = wu at *
      go_wp2_with fail
      go_roundw
      case rel => exact ⟨i + 1, by omega, by go_num, KU⟩
      case measure => simp [intOf]; omega
    · have hltI : ¬ (i : Int) < (s.objs.length : Int) := by omega
      go_wp2_with fail
      go_ret
      exact ⟨rfl, K0.trans (k1.trans hk)⟩
set_option maxHeartbeats 6400000 in
set_option maxRecDepth 1000000 in
theorem moved_c1 (h : Rs w ρ u j q rb wb mb s m k) {aw : Option Addr} {ws : List Vl} (hw : VA w aw ws) (hl : ws.length = s.objs.length) (cw : Nat)  (x : Nat) (b c : Int) (v : Vl) (sh : Bool) (er nn : Int) (hMV : ∀ i, i < s.objs.length → ((s.lo (s.at_ m i)).owner = x → s.value m i = s.vl (s.lo (s.at_ m i)).new) ∧ ((s.lo (s.at_ m i)).owner ≠ x → s.value m i = ws.getD i vl0)) :
    Calls Try.prog 36 #[.pointer (some ⟨rb, 0, none⟩), .agg #[.int .i64 12, .int .i64 (x : Int), .int .i64 b, .int .i64 c, .int .i64 v.num, .int .i64 v.next, .bool v.dead, .bool sh], .agg #[.int .i64 er, .bool true, .int .i64 nn], .slice aw ws.length cw] w fun e w' => e = .returned (.bool true) ∧ Keeps (fun _ => False) w w' := by
  obtain ⟨w0, hw0⟩ : ∃ w0, w0 = (w.alloc (.cells #[.int .i64 12, .int .i64 (x : Int), .int .i64 b, .int .i64 c, .int .i64 v.num, .int .i64 v.next, .bool v.dead, .bool sh] 30)).alloc (.cells #[.int .i64 er, .bool true, .int .i64 nn] 32) := ⟨_, rfl⟩
  have K0 : Keeps (fun _ => False) w w0 := by rw [hw0]; exact ((Keeps.refl _ w).alloc _).alloc _
  have g0 : w0.cell? ⟨w.heap.size, 0, none⟩ = some (.int .i64 12) := by rw [hw0]; simp
  have g1 : w0.cell? ⟨w.heap.size, 1, none⟩ = some (.int .i64 (x : Int)) := by rw [hw0]; simp
  have g3 : w0.cell? ⟨w.heap.size, 3, none⟩ = some (.int .i64 c) := by rw [hw0]; simp
  have t1 : w0.cell? ⟨w.heap.size + 1, 1, none⟩ = some (.bool true) := by rw [hw0]; simp
  have h0 := (h.new K0).1
  have cc1 : ∀ o1 o2, ((w.alloc o1).alloc o2).cell? ⟨rb, 1, none⟩ = some (.pointer (some ⟨wb, 0, none⟩)) := fun o1 o2 => (((Keeps.refl (fun _ => False) w).alloc o1).alloc o2).cell h.c1 (fun e => e)
  have hcm := com_any h0.st h0.iv.wf
  have hno : s.objs.length ≤ 80 := h.iv.no
  have H0 : Hid (Rs w0 ρ u j q rb wb mb s m k) := h0
  have IV : Hid (Inv s m) := h.iv
  have HW : Hid (VA w0 aw ws) := hw.new K0
  clear hw h h0
  go_enter Try.func36, Try.ntmps36
  go_wp2_with fail
  rw [← hw0]
  refine hcm.mono ?_
  clear hcm hw0 cc1
  rintro e w1 ⟨rfl, ow1, k1⟩
  obtain ⟨an, cn, e1, va1, _⟩ := va_own ow1 com_len
  injection e1 with e11 e12 e13
  subst e11 e13
  have V1 : Hid (VA w1 (some ⟨w0.heap.size, 0, none⟩) (s.com m)) := va1
  have HL : Hid (ws.length = s.objs.length) := hl
  clear e12 va1 ow1 hl
  obtain ⟨nw_, hnw⟩ : ∃ nw_, Hid (w0.heap.size = nw_) := ⟨_, rfl⟩
  rw [show w0.heap.size = nw_ from hnw] at V1 ⊢
  rw [HL.out]
  go_wp2_with fail
  go_loopw [10] (fun iv W => ∃ i : Nat, i ≤ s.objs.length ∧ iv = .int .i64 (i : Int) ∧ Keeps (fun _ => False) w1 W) (fun iv _ => s.objs.length - (intOf iv).toNat)
  case atStart => exact ⟨0, Nat.zero_le _, rfl, Keeps.refl _ w1⟩
  case round =>
    obtain ⟨i, hi, rfl, hk⟩ := hrel
    by_cases hlt : i < s.objs.length
    · have hltI : (i : Int) < (s.objs.length : Int) := by omega
      have KA := k1.trans hk
      obtain ⟨hat, hav, how, hnw2, hol, hnv⟩ := IV.out.stand hlt
      obtain ⟨bw, ow, rfl, x0, x1, x2⟩ := (HW.out.new KA).at (i := i) (by rw [HL.out]; exact hlt)
      obtain ⟨bn, on, ebn, y0, y1, y2⟩ := (V1.out.new hk).at (i := i) (by rw [com_len]; exact hlt)
      injection ebn with ebn
      injection ebn with eb1 eb2
      subst eb1 eb2
      rw [com_get hlt] at y0 y1 y2
      simp only [Nat.zero_add] at y0 y1 y2
      have HA := (H0.out.new KA).1
      have G0 := KA.cell g0 (fun e => e)
      have G1 := KA.cell g1 (fun e => e)
      have G3 := KA.cell g3 (fun e => e)
      have T1 := KA.cell t1 (fun e => e)
      obtain ⟨wv, hwv⟩ : ∃ wv, Hid (ws.getD i vl0 = wv) := ⟨_, rfl⟩
      rw [show ws.getD i vl0 = wv from hwv] at x0 x1 x2
      obtain ⟨wB, hwB⟩ : ∃ wB, wB = wr.alloc (.cells #[.int .i64 wv.num, .int .i64 wv.next, .bool wv.dead] 28) := ⟨_, rfl⟩
      have KB : Keeps (fun _ => False) wr wB := by rw [hwB]; exact (Keeps.refl _ wr).alloc _
      have HB := (HA.new KB).1
      have hcf := cellOf_ok HB hlt
      rw [hav] at hcf
      have lB : wr.heap.size < wB.heap.size := by rw [hwB]; simp
      have b0 : wB.cell? ⟨wr.heap.size, 0, none⟩ = some (.int .i64 wv.num) := by rw [hwB]; simp
      have b1 : wB.cell? ⟨wr.heap.size, 1, none⟩ = some (.int .i64 wv.next) := by rw [hwB]; simp
      have b2 : wB.cell? ⟨wr.heap.size, 2, none⟩ = some (.bool wv.dead) := by rw [hwB]; simp
      have bz : ∀ o, wB.frozen? ⟨wr.heap.size, o, none⟩ = false := by intro o; rw [hwB]; simp
      have CB := HB.c1
      have hlo := Locator_ok HB.st hat
      have HBH : Hid (Rs wB ρ u j q rb wb mb s m k) := HB
      have KAB : Hid (Keeps (fun _ => False) wr wB) := KB
      have hhn : ∀ (W : World) (_ : Keeps (fun _ => False) wB W), _ := fun W k => holds_ok (HB.new k).1 (i := (s.lo (s.at_ m i)).new) (by rw [hnw2, IV.out.vl]; exact hat)
      have hho : ∀ (W : World) (_ : Keeps (fun _ => False) wB W), _ := fun W k => holds_ok (HB.new k).1 (i := (s.lo (s.at_ m i)).old) (by rw [IV.out.vl]; exact hol)
      have Y0 := KB.cell y0 (fun e => e)
      have Y1 := KB.cell y1 (fun e => e)
      have Y2 := KB.cell y2 (fun e => e)
      replace G0 := KB.cell G0 (fun e => e)
      replace G1 := KB.cell G1 (fun e => e)
      replace G3 := KB.cell G3 (fun e => e)
      replace T1 := KB.cell T1 (fun e => e)
      obtain ⟨A, hA⟩ : ∃ A, Hid (s.at_ m i = A) := ⟨_, rfl⟩
      rw [show s.at_ m i = A from hA] at hcf hlo hhn hho hat
      have XN : Hid (wr.cell? ⟨nw_, i * 3, none⟩ = some (.int .i64 (s.value m i).num)) := y0
      obtain ⟨V, hV⟩ : ∃ V, Hid (s.value m i = V) := ⟨_, rfl⟩
      rw [show s.value m i = V from hV] at Y0 Y1 Y2
      obtain ⟨VN, hVN⟩ : ∃ VN, Hid (s.vl (s.lo A).new = VN) := ⟨_, rfl⟩
      rw [show s.vl (s.lo A).new = VN from hVN] at hhn
      obtain ⟨VO, hVO⟩ : ∃ VO, Hid (s.vl (s.lo A).old = VO) := ⟨_, rfl⟩
      rw [show s.vl (s.lo A).old = VO from hVO] at hho
      obtain ⟨L, hL⟩ : ∃ L, Hid (s.lo A = L) := ⟨_, rfl⟩
      rw [show s.lo A = L from hL] at hlo hhn hho
      have HI : Hid (i < s.objs.length) := hlt
      simp only [vv] at hhn hho
      clear hav how hnw2 hol hnv y0 y1 y2 HA HB KA KB hat
      by_cases ho : L.owner = x
      · have e1 : ((L.owner : Int) == (x : Int)) = true := by simp [ho]
        have e2 : (L.owner == x) = true := by simp [ho]
        have e3 : decide ((L.owner : Int) = (x : Int)) = true := by simp [ho]
        have e4 : decide (L.owner = x) = true := by simp [ho]
        have HO : Hid (L.owner = x) := ho
        clear ho
        go_wp2_with fail
        rw [← hwB]
        refine hcf.mono ?_
        clear hcf hwB x0 x1 x2
        rintro e wB' ⟨rfl, ewB⟩
        subst ewB
        go_wp2_with fail
        refine hlo.mono ?_
        clear hlo
        rintro e w5 ⟨rfl, k5⟩
        obtain ⟨w6, hw6⟩ : ∃ w6, w6 = w5.alloc (.cells #[.int .i64 (L.owner : Int), .int .i64 (L.old : Int), .int .i64 (L.new : Int)] 68) := ⟨_, rfl⟩
        have K6 : Keeps (fun _ => False) wB w6 := by rw [hw6]; exact k5.alloc _
        have l5 := k5.size
        have m0 := K6.cell G0 (fun e => e)
        have m1 := K6.cell G1 (fun e => e)
        have m3 := K6.cell G3 (fun e => e)
        have m4 := K6.cell T1 (fun e => e)
        have n0 := K6.cell Y0 (fun e => e)
        have n1 := K6.cell Y1 (fun e => e)
        have n2 := K6.cell Y2 (fun e => e)
        have b0' := K6.cell b0 (fun e => e)
        have b1' := K6.cell b1 (fun e => e)
        have b2' := K6.cell b2 (fun e => e)
        have bz' : ∀ o, w6.frozen? ⟨wr.heap.size, o, none⟩ = false := fun o => (K6.frozen (p := ⟨wr.heap.size, o, none⟩) lB (fun e => e)).trans (bz o)
        have o0 : w6.cell? ⟨w5.heap.size, 0, none⟩ = some (.int .i64 (L.owner : Int)) := by rw [hw6]; simp
        have o1 : w6.cell? ⟨w5.heap.size, 1, none⟩ = some (.int .i64 (L.old : Int)) := by rw [hw6]; simp
        have o2 : w6.cell? ⟨w5.heap.size, 2, none⟩ = some (.int .i64 (L.new : Int)) := by rw [hw6]; simp
        clear G0 G1 G3 T1 Y0 Y1 Y2 b0 b1 b2 bz CB
        go_wp2_with fail
        rw [← hw6]
        clear hw6
        refine (num_of _ _).mono ?_
        rintro e w6' ⟨rfl, ew6⟩
        subst ew6
        go_wp2_with fail
        refine (hhn _ K6).mono ?_
        rintro e w7 ⟨rfl, k7⟩
        obtain ⟨w8, hw8⟩ : ∃ w8, w8 = w7.alloc (.cells #[.int .i64 VN.num, .int .i64 VN.next, .bool VN.dead] 28) := ⟨_, rfl⟩
        have K8 : Keeps (fun _ => False) w6 w8 := by rw [hw8]; exact k7.alloc _
        have s6 := K6.size
        have s8 := k7.size
        have l8 : wr.heap.size < w8.heap.size := by have := K8.size; omega
        have c0_ : w8.cell? ⟨w7.heap.size, 0, none⟩ = some (.int .i64 VN.num) := by rw [hw8]; simp
        have c1_ : w8.cell? ⟨w7.heap.size, 1, none⟩ = some (.int .i64 VN.next) := by rw [hw8]; simp
        have c2_ : w8.cell? ⟨w7.heap.size, 2, none⟩ = some (.bool VN.dead) := by rw [hw8]; simp
        have m0_ := K8.cell m0 (fun e => e)
        have m1_ := K8.cell m1 (fun e => e)
        have m3_ := K8.cell m3 (fun e => e)
        have m4_ := K8.cell m4 (fun e => e)
        have b0_ := K8.cell b0' (fun e => e)
        have b1_ := K8.cell b1' (fun e => e)
        have b2_ := K8.cell b2' (fun e => e)
        have bz_ : ∀ o, w8.frozen? ⟨wr.heap.size, o, none⟩ = false := fun o => (K8.frozen (p := ⟨wr.heap.size, o, none⟩) (by show wr.heap.size < w6.heap.size; omega) (fun e => e)).trans (bz' o)
        have z0_ := bz_ 0
        have z1_ := bz_ 1
        have z2_ := bz_ 2
        have ne_ : ¬ w7.heap.size = wr.heap.size := by omega
        have K9 := keeps_set3 w8 wr.heap.size (.int .i64 VN.num) (.int .i64 VN.next) (.bool VN.dead)
        obtain ⟨w9, hw9⟩ : ∃ w9, w9 = ((w8.setCell ⟨wr.heap.size, 0, none⟩ (.int .i64 VN.num)).setCell ⟨wr.heap.size, 1, none⟩ (.int .i64 VN.next)).setCell ⟨wr.heap.size, 2, none⟩ (.bool VN.dead) := ⟨_, rfl⟩
        rw [← hw9] at K9
        have r0 : w9.cell? ⟨wr.heap.size, 0, none⟩ = some (.int .i64 VN.num) := by rw [hw9, World.cell?_setCell_other _ _ _ _ (by simp), World.cell?_setCell_other _ _ _ _ (by simp)]; exact World.cell?_setCell_same _ _ _ b0_
        have r1 : w9.cell? ⟨wr.heap.size, 1, none⟩ = some (.int .i64 VN.next) := by rw [hw9, World.cell?_setCell_other _ _ _ _ (by simp)]; exact World.cell?_setCell_same _ _ _ (by rw [World.cell?_setCell_other _ _ _ _ (by simp)]; exact b1_)
        have r2 : w9.cell? ⟨wr.heap.size, 2, none⟩ = some (.bool VN.dead) := by rw [hw9]; exact World.cell?_setCell_same _ _ _ (by rw [World.cell?_setCell_other _ _ _ _ (by simp), World.cell?_setCell_other _ _ _ _ (by simp)]; exact b2_)
        have nn_ : ¬ nw_ = wr.heap.size := by have := World.block_lt_of_cell? _ _ XN.out; simp only [] at this; omega
        have N0_ := K9.cell (p := ⟨nw_, i * 3, none⟩) (K8.cell n0 (fun e => e)) nn_
        have N1_ := K9.cell (p := ⟨nw_, i * 3 + 1, none⟩) (K8.cell n1 (fun e => e)) nn_
        have N2_ := K9.cell (p := ⟨nw_, i * 3 + 2, none⟩) (K8.cell n2 (fun e => e)) nn_
        have nq_ : ¬ w.heap.size = wr.heap.size := by have := K0.size; have := k1.size; have := hk.size; have := World.block_lt_of_cell? _ _ g0; simp only [] at this; omega
        have m09 := K9.cell (p := ⟨w.heap.size, 0, none⟩) m0_ nq_
        have nq1_ : ¬ w.heap.size + 1 = wr.heap.size := by have := k1.size; have := hk.size; have := World.block_lt_of_cell? _ _ t1; simp only [] at this; omega
        have m49 := K9.cell (p := ⟨w.heap.size + 1, 1, none⟩) m4_ nq1_
        obtain rfl : VN = V := by have h1 := (hMV i HI.out).1 (by have e1 := hA.out; have e2 := hL.out; rw [e1, e2]; exact HO.out); have e1 := hA.out; rw [e1] at h1; have e2 := hVN.out; have e3 := hV.out; rw [← e2, ← e3]; exact h1.symm
        have bb0 : ∀ ob, (w7.alloc ob).cell? ⟨wr.heap.size, 0, none⟩ = some (.int .i64 wv.num) := fun ob => (k7.alloc ob).cell b0' (fun e => e)
        have bb1 : ∀ ob, (w7.alloc ob).cell? ⟨wr.heap.size, 1, none⟩ = some (.int .i64 wv.next) := fun ob => (k7.alloc ob).cell b1' (fun e => e)
        have bb2 : ∀ ob, (w7.alloc ob).cell? ⟨wr.heap.size, 2, none⟩ = some (.bool wv.dead) := fun ob => (k7.alloc ob).cell b2' (fun e => e)
        have bbz : ∀ ob o, (w7.alloc ob).frozen? ⟨wr.heap.size, o, none⟩ = false := fun ob o => ((k7.alloc ob).frozen (p := ⟨wr.heap.size, o, none⟩) (by show wr.heap.size < w6.heap.size; omega) (fun e => e)).trans (bz' o)
        have bm0 : ∀ ob, (w7.alloc ob).cell? ⟨w.heap.size, 0, none⟩ = some (.int .i64 12) := fun ob => (k7.alloc ob).cell m0 (fun e => e)
        have bm3 : ∀ ob, (w7.alloc ob).cell? ⟨w.heap.size, 3, none⟩ = some (.int .i64 c) := fun ob => (k7.alloc ob).cell m3 (fun e => e)
        clear m0_ m1_ m3_ m4_ b0_ b1_ b2_ bz_ z0_ z1_ z2_ m0 m1 m3 m4 b0' b1' b2' bz' o0 o1 o2 n0 n1 n2
        go_wp2_with fail
        rw [← hw8, ← hw9]
        clear bb0 bb1 bb2 bbz bm0 bm3
        clear hw8 hw9 c0_ c1_ c2_
        have N0 := ks_cell N0_
        have N1 := ks_cell N1_
        have N2 := ks_cell N2_
        have B0 := ks_cell r0
        have B1 := ks_cell r1
        have B2 := ks_cell r2
        have hNE : Nonempty (KS w9) := ⟨⟨w9, Keeps.refl _ w9⟩⟩
        go_wp2_with fail
        refine wp_region_ks (by kernel_rfl) (by kernel_rfl) ?_
        repeat (go_big_quiet_step (fail))
        refine wpQuiet_nil ?_
        rintro _ ⟨U, rfl⟩
        have KU : Keeps (fun _ => False) w1 U.val := (hk.trans KAB.out).trans' ((K6.trans K8).trans' (K9.trans' U.property (U := fun g => g = wr.heap.size) (fun _ _ e => e) (fun _ _ e => e.elim)) (U := fun g => g = wr.heap.size) (fun _ _ e => e.elim) (fun _ _ e => e)) (fun _ _ e => e) (fun x hx e => absurd e (by have := hk.size; omega))
        clear N0 N1 N2 B0 B1 B2 hNE
        generalize U.val = wu at *
        go_wp2_with fail
        go_roundw
        case rel => exact ⟨i + 1, by omega, by go_num, KU⟩
        case measure => simp [intOf]; omega
      · have e1 : ((L.owner : Int) == (x : Int)) = false := by simp; omega
        have e2 : (L.owner == x) = false := by simp; omega
        have e3 : decide ((L.owner : Int) = (x : Int)) = false := by simp; omega
        have e4 : decide (L.owner = x) = false := by simp; omega
        go_wp2_with fail
        rw [← hwB]
        refine hcf.mono ?_
        clear hcf hwB x0 x1 x2
        rintro e wB' ⟨rfl, ewB⟩
        subst ewB
        go_wp2_with fail
        refine hlo.mono ?_
        clear hlo
        rintro e w5 ⟨rfl, k5⟩
        obtain ⟨w6, hw6⟩ : ∃ w6, w6 = w5.alloc (.cells #[.int .i64 (L.owner : Int), .int .i64 (L.old : Int), .int .i64 (L.new : Int)] 68) := ⟨_, rfl⟩
        have K6 : Keeps (fun _ => False) wB w6 := by rw [hw6]; exact k5.alloc _
        have l5 := k5.size
        have m0 := K6.cell G0 (fun e => e)
        have m1 := K6.cell G1 (fun e => e)
        have m3 := K6.cell G3 (fun e => e)
        have m4 := K6.cell T1 (fun e => e)
        have n0 := K6.cell Y0 (fun e => e)
        have n1 := K6.cell Y1 (fun e => e)
        have n2 := K6.cell Y2 (fun e => e)
        have b0' := K6.cell b0 (fun e => e)
        have b1' := K6.cell b1 (fun e => e)
        have b2' := K6.cell b2 (fun e => e)
        have bz' : ∀ o, w6.frozen? ⟨wr.heap.size, o, none⟩ = false := fun o => (K6.frozen (p := ⟨wr.heap.size, o, none⟩) lB (fun e => e)).trans (bz o)
        have o0 : w6.cell? ⟨w5.heap.size, 0, none⟩ = some (.int .i64 (L.owner : Int)) := by rw [hw6]; simp
        have o1 : w6.cell? ⟨w5.heap.size, 1, none⟩ = some (.int .i64 (L.old : Int)) := by rw [hw6]; simp
        have o2 : w6.cell? ⟨w5.heap.size, 2, none⟩ = some (.int .i64 (L.new : Int)) := by rw [hw6]; simp
        clear G0 G1 G3 T1 Y0 Y1 Y2 b0 b1 b2 bz CB
        go_wp2_with fail
        rw [← hw6]
        clear hw6
        refine (num_of _ _).mono ?_
        rintro e w6' ⟨rfl, ew6⟩
        subst ew6
        obtain rfl : wv = V := by have h1 := (hMV i HI.out).2 (by have e1 := hA.out; have e2 := hL.out; rw [e1, e2]; exact ho); have h2 := hwv.out; have h3 := hV.out; rw [← h2, ← h3]; exact h1.symm
        have N0 := ks_cell n0
        have N1 := ks_cell n1
        have N2 := ks_cell n2
        have B0 := ks_cell b0'
        have B1 := ks_cell b1'
        have B2 := ks_cell b2'
        have hNE : Nonempty (KS w6) := ⟨⟨w6, Keeps.refl _ w6⟩⟩
        go_wp2_with fail
        refine wp_region_ks (by kernel_rfl) (by kernel_rfl) ?_
        repeat (go_big_quiet_step (fail))
        refine wpQuiet_nil ?_
        rintro _ ⟨U, rfl⟩
        have KU : Keeps (fun _ => False) w1 U.val := (hk.trans KAB.out).trans' (K6.trans' U.property (U := fun _ => False) (fun _ _ e => e) (fun _ _ e => e)) (fun _ _ e => e) (fun x hx e => e)
        clear N0 N1 N2 B0 B1 B2 hNE
        generalize U.val = wu at *
        go_wp2_with fail
        go_roundw
        case rel => exact ⟨i + 1, by omega, by go_num, KU⟩
        case measure => simp [intOf]; omega
    · have hltI : ¬ (i : Int) < (s.objs.length : Int) := by omega
      go_wp2_with fail
      go_ret
      exact ⟨rfl, K0.trans (k1.trans hk)⟩
set_option maxHeartbeats 6400000 in
set_option maxRecDepth 1000000 in
theorem moved_a1 (h : Rs w ρ u j q rb wb mb s m k) {aw : Option Addr} {ws : List Vl} (hw : VA w aw ws) (hl : ws.length = s.objs.length) (cw : Nat)  (x : Nat) (b : Int) (z : Nat) (v : Vl) (sh : Bool) (er nn : Int) (hMV : ∀ i, i < s.objs.length → (i = x → s.at_ m i = z ∧ s.value m i = s.vl (s.lo (s.at_ m i)).old) ∧ (i ≠ x → s.value m i = ws.getD i vl0)) :
    Calls Try.prog 36 #[.pointer (some ⟨rb, 0, none⟩), .agg #[.int .i64 9, .int .i64 (x : Int), .int .i64 b, .int .i64 (z : Int), .int .i64 v.num, .int .i64 v.next, .bool v.dead, .bool sh], .agg #[.int .i64 er, .bool true, .int .i64 nn], .slice aw ws.length cw] w fun e w' => e = .returned (.bool true) ∧ Keeps (fun _ => False) w w' := by
  obtain ⟨w0, hw0⟩ : ∃ w0, w0 = (w.alloc (.cells #[.int .i64 9, .int .i64 (x : Int), .int .i64 b, .int .i64 (z : Int), .int .i64 v.num, .int .i64 v.next, .bool v.dead, .bool sh] 30)).alloc (.cells #[.int .i64 er, .bool true, .int .i64 nn] 32) := ⟨_, rfl⟩
  have K0 : Keeps (fun _ => False) w w0 := by rw [hw0]; exact ((Keeps.refl _ w).alloc _).alloc _
  have g0 : w0.cell? ⟨w.heap.size, 0, none⟩ = some (.int .i64 9) := by rw [hw0]; simp
  have g1 : w0.cell? ⟨w.heap.size, 1, none⟩ = some (.int .i64 (x : Int)) := by rw [hw0]; simp
  have g3 : w0.cell? ⟨w.heap.size, 3, none⟩ = some (.int .i64 (z : Int)) := by rw [hw0]; simp
  have t1 : w0.cell? ⟨w.heap.size + 1, 1, none⟩ = some (.bool true) := by rw [hw0]; simp
  have h0 := (h.new K0).1
  have cc1 : ∀ o1 o2, ((w.alloc o1).alloc o2).cell? ⟨rb, 1, none⟩ = some (.pointer (some ⟨wb, 0, none⟩)) := fun o1 o2 => (((Keeps.refl (fun _ => False) w).alloc o1).alloc o2).cell h.c1 (fun e => e)
  have hcm := com_any h0.st h0.iv.wf
  have hno : s.objs.length ≤ 80 := h.iv.no
  have H0 : Hid (Rs w0 ρ u j q rb wb mb s m k) := h0
  have IV : Hid (Inv s m) := h.iv
  have HW : Hid (VA w0 aw ws) := hw.new K0
  clear hw h h0
  go_enter Try.func36, Try.ntmps36
  go_wp2_with fail
  rw [← hw0]
  refine hcm.mono ?_
  clear hcm hw0 cc1
  rintro e w1 ⟨rfl, ow1, k1⟩
  obtain ⟨an, cn, e1, va1, _⟩ := va_own ow1 com_len
  injection e1 with e11 e12 e13
  subst e11 e13
  have V1 : Hid (VA w1 (some ⟨w0.heap.size, 0, none⟩) (s.com m)) := va1
  have HL : Hid (ws.length = s.objs.length) := hl
  clear e12 va1 ow1 hl
  obtain ⟨nw_, hnw⟩ : ∃ nw_, Hid (w0.heap.size = nw_) := ⟨_, rfl⟩
  rw [show w0.heap.size = nw_ from hnw] at V1 ⊢
  rw [HL.out]
  go_wp2_with fail
  go_loopw [10] (fun iv W => ∃ i : Nat, i ≤ s.objs.length ∧ iv = .int .i64 (i : Int) ∧ Keeps (fun _ => False) w1 W) (fun iv _ => s.objs.length - (intOf iv).toNat)
  case atStart => exact ⟨0, Nat.zero_le _, rfl, Keeps.refl _ w1⟩
  case round =>
    obtain ⟨i, hi, rfl, hk⟩ := hrel
    by_cases hlt : i < s.objs.length
    · have hltI : (i : Int) < (s.objs.length : Int) := by omega
      have KA := k1.trans hk
      obtain ⟨hat, hav, how, hnw2, hol, hnv⟩ := IV.out.stand hlt
      obtain ⟨bw, ow, rfl, x0, x1, x2⟩ := (HW.out.new KA).at (i := i) (by rw [HL.out]; exact hlt)
      obtain ⟨bn, on, ebn, y0, y1, y2⟩ := (V1.out.new hk).at (i := i) (by rw [com_len]; exact hlt)
      injection ebn with ebn
      injection ebn with eb1 eb2
      subst eb1 eb2
      rw [com_get hlt] at y0 y1 y2
      simp only [Nat.zero_add] at y0 y1 y2
      have HA := (H0.out.new KA).1
      have G0 := KA.cell g0 (fun e => e)
      have G1 := KA.cell g1 (fun e => e)
      have G3 := KA.cell g3 (fun e => e)
      have T1 := KA.cell t1 (fun e => e)
      obtain ⟨wv, hwv⟩ : ∃ wv, Hid (ws.getD i vl0 = wv) := ⟨_, rfl⟩
      rw [show ws.getD i vl0 = wv from hwv] at x0 x1 x2
      obtain ⟨wB, hwB⟩ : ∃ wB, wB = wr.alloc (.cells #[.int .i64 wv.num, .int .i64 wv.next, .bool wv.dead] 28) := ⟨_, rfl⟩
      have KB : Keeps (fun _ => False) wr wB := by rw [hwB]; exact (Keeps.refl _ wr).alloc _
      have HB := (HA.new KB).1
      have hcf := cellOf_ok HB hlt
      rw [hav] at hcf
      have lB : wr.heap.size < wB.heap.size := by rw [hwB]; simp
      have b0 : wB.cell? ⟨wr.heap.size, 0, none⟩ = some (.int .i64 wv.num) := by rw [hwB]; simp
      have b1 : wB.cell? ⟨wr.heap.size, 1, none⟩ = some (.int .i64 wv.next) := by rw [hwB]; simp
      have b2 : wB.cell? ⟨wr.heap.size, 2, none⟩ = some (.bool wv.dead) := by rw [hwB]; simp
      have bz : ∀ o, wB.frozen? ⟨wr.heap.size, o, none⟩ = false := by intro o; rw [hwB]; simp
      have CB := HB.c1
      have hlo := Locator_ok HB.st hat
      have HBH : Hid (Rs wB ρ u j q rb wb mb s m k) := HB
      have KAB : Hid (Keeps (fun _ => False) wr wB) := KB
      have hhn : ∀ (W : World) (_ : Keeps (fun _ => False) wB W), _ := fun W k => holds_ok (HB.new k).1 (i := (s.lo (s.at_ m i)).new) (by rw [hnw2, IV.out.vl]; exact hat)
      have hho : ∀ (W : World) (_ : Keeps (fun _ => False) wB W), _ := fun W k => holds_ok (HB.new k).1 (i := (s.lo (s.at_ m i)).old) (by rw [IV.out.vl]; exact hol)
      have Y0 := KB.cell y0 (fun e => e)
      have Y1 := KB.cell y1 (fun e => e)
      have Y2 := KB.cell y2 (fun e => e)
      replace G0 := KB.cell G0 (fun e => e)
      replace G1 := KB.cell G1 (fun e => e)
      replace G3 := KB.cell G3 (fun e => e)
      replace T1 := KB.cell T1 (fun e => e)
      obtain ⟨A, hA⟩ : ∃ A, Hid (s.at_ m i = A) := ⟨_, rfl⟩
      rw [show s.at_ m i = A from hA] at hcf hlo hhn hho hat
      have XN : Hid (wr.cell? ⟨nw_, i * 3, none⟩ = some (.int .i64 (s.value m i).num)) := y0
      obtain ⟨V, hV⟩ : ∃ V, Hid (s.value m i = V) := ⟨_, rfl⟩
      rw [show s.value m i = V from hV] at Y0 Y1 Y2
      obtain ⟨VN, hVN⟩ : ∃ VN, Hid (s.vl (s.lo A).new = VN) := ⟨_, rfl⟩
      rw [show s.vl (s.lo A).new = VN from hVN] at hhn
      obtain ⟨VO, hVO⟩ : ∃ VO, Hid (s.vl (s.lo A).old = VO) := ⟨_, rfl⟩
      rw [show s.vl (s.lo A).old = VO from hVO] at hho
      obtain ⟨L, hL⟩ : ∃ L, Hid (s.lo A = L) := ⟨_, rfl⟩
      rw [show s.lo A = L from hL] at hlo hhn hho
      have HI : Hid (i < s.objs.length) := hlt
      simp only [vv] at hhn hho
      clear hav how hnw2 hol hnv y0 y1 y2 HA HB KA KB hat
      by_cases ho : i = x
      · have e1 : ((i : Int) == (x : Int)) = true := by simp [ho]
        have e2 : (i == x) = true := by simp [ho]
        have e3 : decide ((i : Int) = (x : Int)) = true := by simp [ho]
        have e4 : decide (i = x) = true := by simp [ho]
        have eA : A = z := by have h1 := ((hMV i HI.out).1 ho).1; have e1 := hA.out; rw [← e1]; exact h1
        have e5 : ((A : Int) == (z : Int)) = true := by simp [eA]
        have e6 : (A == z) = true := by simp [eA]
        have e7 : decide ((A : Int) = (z : Int)) = true := by simp [eA]
        have e8 : decide (A = z) = true := by simp [eA]
        have HO : Hid (i = x) := ho
        clear ho eA
        go_wp2_with fail
        rw [← hwB]
        refine hcf.mono ?_
        clear hcf hwB x0 x1 x2
        rintro e wB' ⟨rfl, ewB⟩
        subst ewB
        go_wp2_with fail
        refine hlo.mono ?_
        clear hlo
        rintro e w5 ⟨rfl, k5⟩
        obtain ⟨w6, hw6⟩ : ∃ w6, w6 = w5.alloc (.cells #[.int .i64 (L.owner : Int), .int .i64 (L.old : Int), .int .i64 (L.new : Int)] 68) := ⟨_, rfl⟩
        have K6 : Keeps (fun _ => False) wB w6 := by rw [hw6]; exact k5.alloc _
        have l5 := k5.size
        have m0 := K6.cell G0 (fun e => e)
        have m1 := K6.cell G1 (fun e => e)
        have m3 := K6.cell G3 (fun e => e)
        have m4 := K6.cell T1 (fun e => e)
        have n0 := K6.cell Y0 (fun e => e)
        have n1 := K6.cell Y1 (fun e => e)
        have n2 := K6.cell Y2 (fun e => e)
        have b0' := K6.cell b0 (fun e => e)
        have b1' := K6.cell b1 (fun e => e)
        have b2' := K6.cell b2 (fun e => e)
        have bz' : ∀ o, w6.frozen? ⟨wr.heap.size, o, none⟩ = false := fun o => (K6.frozen (p := ⟨wr.heap.size, o, none⟩) lB (fun e => e)).trans (bz o)
        have o0 : w6.cell? ⟨w5.heap.size, 0, none⟩ = some (.int .i64 (L.owner : Int)) := by rw [hw6]; simp
        have o1 : w6.cell? ⟨w5.heap.size, 1, none⟩ = some (.int .i64 (L.old : Int)) := by rw [hw6]; simp
        have o2 : w6.cell? ⟨w5.heap.size, 2, none⟩ = some (.int .i64 (L.new : Int)) := by rw [hw6]; simp
        clear G0 G1 G3 T1 Y0 Y1 Y2 b0 b1 b2 bz CB
        go_wp2_with fail
        rw [← hw6]
        clear hw6
        refine (num_of _ _).mono ?_
        rintro e w6' ⟨rfl, ew6⟩
        subst ew6
        go_wp2_with fail
        refine (hho _ K6).mono ?_
        rintro e w7 ⟨rfl, k7⟩
        obtain ⟨w8, hw8⟩ : ∃ w8, w8 = w7.alloc (.cells #[.int .i64 VO.num, .int .i64 VO.next, .bool VO.dead] 28) := ⟨_, rfl⟩
        have K8 : Keeps (fun _ => False) w6 w8 := by rw [hw8]; exact k7.alloc _
        have s6 := K6.size
        have s8 := k7.size
        have l8 : wr.heap.size < w8.heap.size := by have := K8.size; omega
        have c0_ : w8.cell? ⟨w7.heap.size, 0, none⟩ = some (.int .i64 VO.num) := by rw [hw8]; simp
        have c1_ : w8.cell? ⟨w7.heap.size, 1, none⟩ = some (.int .i64 VO.next) := by rw [hw8]; simp
        have c2_ : w8.cell? ⟨w7.heap.size, 2, none⟩ = some (.bool VO.dead) := by rw [hw8]; simp
        have m0_ := K8.cell m0 (fun e => e)
        have m1_ := K8.cell m1 (fun e => e)
        have m3_ := K8.cell m3 (fun e => e)
        have m4_ := K8.cell m4 (fun e => e)
        have b0_ := K8.cell b0' (fun e => e)
        have b1_ := K8.cell b1' (fun e => e)
        have b2_ := K8.cell b2' (fun e => e)
        have bz_ : ∀ o, w8.frozen? ⟨wr.heap.size, o, none⟩ = false := fun o => (K8.frozen (p := ⟨wr.heap.size, o, none⟩) (by show wr.heap.size < w6.heap.size; omega) (fun e => e)).trans (bz' o)
        have z0_ := bz_ 0
        have z1_ := bz_ 1
        have z2_ := bz_ 2
        have ne_ : ¬ w7.heap.size = wr.heap.size := by omega
        have K9 := keeps_set3 w8 wr.heap.size (.int .i64 VO.num) (.int .i64 VO.next) (.bool VO.dead)
        obtain ⟨w9, hw9⟩ : ∃ w9, w9 = ((w8.setCell ⟨wr.heap.size, 0, none⟩ (.int .i64 VO.num)).setCell ⟨wr.heap.size, 1, none⟩ (.int .i64 VO.next)).setCell ⟨wr.heap.size, 2, none⟩ (.bool VO.dead) := ⟨_, rfl⟩
        rw [← hw9] at K9
        have r0 : w9.cell? ⟨wr.heap.size, 0, none⟩ = some (.int .i64 VO.num) := by rw [hw9, World.cell?_setCell_other _ _ _ _ (by simp), World.cell?_setCell_other _ _ _ _ (by simp)]; exact World.cell?_setCell_same _ _ _ b0_
        have r1 : w9.cell? ⟨wr.heap.size, 1, none⟩ = some (.int .i64 VO.next) := by rw [hw9, World.cell?_setCell_other _ _ _ _ (by simp)]; exact World.cell?_setCell_same _ _ _ (by rw [World.cell?_setCell_other _ _ _ _ (by simp)]; exact b1_)
        have r2 : w9.cell? ⟨wr.heap.size, 2, none⟩ = some (.bool VO.dead) := by rw [hw9]; exact World.cell?_setCell_same _ _ _ (by rw [World.cell?_setCell_other _ _ _ _ (by simp), World.cell?_setCell_other _ _ _ _ (by simp)]; exact b2_)
        have nn_ : ¬ nw_ = wr.heap.size := by have := World.block_lt_of_cell? _ _ XN.out; simp only [] at this; omega
        have N0_ := K9.cell (p := ⟨nw_, i * 3, none⟩) (K8.cell n0 (fun e => e)) nn_
        have N1_ := K9.cell (p := ⟨nw_, i * 3 + 1, none⟩) (K8.cell n1 (fun e => e)) nn_
        have N2_ := K9.cell (p := ⟨nw_, i * 3 + 2, none⟩) (K8.cell n2 (fun e => e)) nn_
        have nq_ : ¬ w.heap.size = wr.heap.size := by have := K0.size; have := k1.size; have := hk.size; have := World.block_lt_of_cell? _ _ g0; simp only [] at this; omega
        have m09 := K9.cell (p := ⟨w.heap.size, 0, none⟩) m0_ nq_
        have nq1_ : ¬ w.heap.size + 1 = wr.heap.size := by have := k1.size; have := hk.size; have := World.block_lt_of_cell? _ _ t1; simp only [] at this; omega
        have m49 := K9.cell (p := ⟨w.heap.size + 1, 1, none⟩) m4_ nq1_
        obtain rfl : VO = V := by have h1 := ((hMV i HI.out).1 HO.out).2; have e1 := hA.out; rw [e1] at h1; have e2 := hVO.out; have e3 := hV.out; rw [← e2, ← e3]; exact h1.symm
        have bb0 : ∀ ob, (w7.alloc ob).cell? ⟨wr.heap.size, 0, none⟩ = some (.int .i64 wv.num) := fun ob => (k7.alloc ob).cell b0' (fun e => e)
        have bb1 : ∀ ob, (w7.alloc ob).cell? ⟨wr.heap.size, 1, none⟩ = some (.int .i64 wv.next) := fun ob => (k7.alloc ob).cell b1' (fun e => e)
        have bb2 : ∀ ob, (w7.alloc ob).cell? ⟨wr.heap.size, 2, none⟩ = some (.bool wv.dead) := fun ob => (k7.alloc ob).cell b2' (fun e => e)
        have bbz : ∀ ob o, (w7.alloc ob).frozen? ⟨wr.heap.size, o, none⟩ = false := fun ob o => ((k7.alloc ob).frozen (p := ⟨wr.heap.size, o, none⟩) (by show wr.heap.size < w6.heap.size; omega) (fun e => e)).trans (bz' o)
        have bm0 : ∀ ob, (w7.alloc ob).cell? ⟨w.heap.size, 0, none⟩ = some (.int .i64 9) := fun ob => (k7.alloc ob).cell m0 (fun e => e)
        have bm3 : ∀ ob, (w7.alloc ob).cell? ⟨w.heap.size, 3, none⟩ = some (.int .i64 (z : Int)) := fun ob => (k7.alloc ob).cell m3 (fun e => e)
        clear m0_ m1_ m3_ m4_ b0_ b1_ b2_ bz_ z0_ z1_ z2_ m0 m1 m3 m4 b0' b1' b2' bz' o0 o1 o2 n0 n1 n2
        go_wp2_with fail
        rw [← hw8, ← hw9]
        clear bb0 bb1 bb2 bbz bm0 bm3
        clear hw8 hw9 c0_ c1_ c2_
        have N0 := ks_cell N0_
        have N1 := ks_cell N1_
        have N2 := ks_cell N2_
        have B0 := ks_cell r0
        have B1 := ks_cell r1
        have B2 := ks_cell r2
        have hNE : Nonempty (KS w9) := ⟨⟨w9, Keeps.refl _ w9⟩⟩
        go_wp2_with fail
        refine wp_region_ks (by kernel_rfl) (by kernel_rfl) ?_
        repeat (go_big_quiet_step (fail))
        refine wpQuiet_nil ?_
        rintro _ ⟨U, rfl⟩
        have KU : Keeps (fun _ => False) w1 U.val := (hk.trans KAB.out).trans' ((K6.trans K8).trans' (K9.trans' U.property (U := fun g => g = wr.heap.size) (fun _ _ e => e) (fun _ _ e => e.elim)) (U := fun g => g = wr.heap.size) (fun _ _ e => e.elim) (fun _ _ e => e)) (fun _ _ e => e) (fun x hx e => absurd e (by have := hk.size; omega))
        clear N0 N1 N2 B0 B1 B2 hNE
        generalize U.val = wu at *
        go_wp2_with fail
        go_roundw
        case rel => exact ⟨i + 1, by omega, by go_num, KU⟩
        case measure => simp [intOf]; omega
      · have e1 : ((i : Int) == (x : Int)) = false := by simp; omega
        have e2 : (i == x) = false := by simp; omega
        have e3 : decide ((i : Int) = (x : Int)) = false := by simp; omega
        have e4 : decide (i = x) = false := by simp; omega
        go_wp2_with fail
        rw [← hwB]
        refine hcf.mono ?_
        clear hcf hwB x0 x1 x2
        rintro e wB' ⟨rfl, ewB⟩
        subst ewB
        go_wp2_with fail
        refine hlo.mono ?_
        clear hlo
        rintro e w5 ⟨rfl, k5⟩
        obtain ⟨w6, hw6⟩ : ∃ w6, w6 = w5.alloc (.cells #[.int .i64 (L.owner : Int), .int .i64 (L.old : Int), .int .i64 (L.new : Int)] 68) := ⟨_, rfl⟩
        have K6 : Keeps (fun _ => False) wB w6 := by rw [hw6]; exact k5.alloc _
        have l5 := k5.size
        have m0 := K6.cell G0 (fun e => e)
        have m1 := K6.cell G1 (fun e => e)
        have m3 := K6.cell G3 (fun e => e)
        have m4 := K6.cell T1 (fun e => e)
        have n0 := K6.cell Y0 (fun e => e)
        have n1 := K6.cell Y1 (fun e => e)
        have n2 := K6.cell Y2 (fun e => e)
        have b0' := K6.cell b0 (fun e => e)
        have b1' := K6.cell b1 (fun e => e)
        have b2' := K6.cell b2 (fun e => e)
        have bz' : ∀ o, w6.frozen? ⟨wr.heap.size, o, none⟩ = false := fun o => (K6.frozen (p := ⟨wr.heap.size, o, none⟩) lB (fun e => e)).trans (bz o)
        have o0 : w6.cell? ⟨w5.heap.size, 0, none⟩ = some (.int .i64 (L.owner : Int)) := by rw [hw6]; simp
        have o1 : w6.cell? ⟨w5.heap.size, 1, none⟩ = some (.int .i64 (L.old : Int)) := by rw [hw6]; simp
        have o2 : w6.cell? ⟨w5.heap.size, 2, none⟩ = some (.int .i64 (L.new : Int)) := by rw [hw6]; simp
        clear G0 G1 G3 T1 Y0 Y1 Y2 b0 b1 b2 bz CB
        go_wp2_with fail
        rw [← hw6]
        clear hw6
        refine (num_of _ _).mono ?_
        rintro e w6' ⟨rfl, ew6⟩
        subst ew6
        obtain rfl : wv = V := by have h1 := (hMV i HI.out).2 ho; have h2 := hwv.out; have h3 := hV.out; rw [← h2, ← h3]; exact h1.symm
        have N0 := ks_cell n0
        have N1 := ks_cell n1
        have N2 := ks_cell n2
        have B0 := ks_cell b0'
        have B1 := ks_cell b1'
        have B2 := ks_cell b2'
        have hNE : Nonempty (KS w6) := ⟨⟨w6, Keeps.refl _ w6⟩⟩
        go_wp2_with fail
        refine wp_region_ks (by kernel_rfl) (by kernel_rfl) ?_
        repeat (go_big_quiet_step (fail))
        refine wpQuiet_nil ?_
        rintro _ ⟨U, rfl⟩
        have KU : Keeps (fun _ => False) w1 U.val := (hk.trans KAB.out).trans' (K6.trans' U.property (U := fun _ => False) (fun _ _ e => e) (fun _ _ e => e)) (fun _ _ e => e) (fun x hx e => e)
        clear N0 N1 N2 B0 B1 B2 hNE
        generalize U.val = wu at *
        go_wp2_with fail
        go_roundw
        case rel => exact ⟨i + 1, by omega, by go_num, KU⟩
        case measure => simp [intOf]; omega
    · have hltI : ¬ (i : Int) < (s.objs.length : Int) := by omega
      go_wp2_with fail
      go_ret
      exact ⟨rfl, K0.trans (k1.trans hk)⟩
end
end Go.Proofs.Ytdldhblhbbgloaa
