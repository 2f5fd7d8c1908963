import Derived.Test.YthchbcfecconbaaGreatDoorG05
namespace Go.Proofs.YthchbcfecconbaaGreatDoor
open Go.RowKit
attribute [local go_sem] Oper.semAt_some run_store_nf run_store_f
set_option maxHeartbeats 1000000 in
set_option maxRecDepth 1000000 in
theorem do_let {w : World} {B : Nat} {a ag : Option Addr} {cap cg : Nat} {os : List Int} {gs : List (Bool × Int)} {s : Rs} (hS : DoS w B a ag cap cg os gs s) (q : Ins) {N : Int} (hcan : q.can N = true) (hc : q.code = 5) : Calls Tryz.prog 33 #[.pointer (some ⟨B, 0, none⟩), .agg q.cells.toArray] w fun e w' => e = .returned (.tuple #[]) ∧ RM w' B (.slice a os.length cap) (.slice ag gs.length cg) (s.inc.setReg q.dst.toNat (s.inc.sv q.xR q.xN)) ∧ Keeps (fun k => k = B) w w' := by
  obtain ⟨cd, dst, oR, oN, xR, xN, yR, yN, op, rel, to⟩ := q
  simp only at hc
  subst hc
  obtain ⟨h, hO, hG, h16, hrd, hp⟩ := hS
  obtain ⟨W1, hW1⟩ : ∃ W1, W1 = (w.setCell ⟨B, 51, none⟩ (.int .i64 (s.pl + 1))).alloc (.cells #[.int .i64 5, .int .i64 dst, .bool oR, .int .i64 oN, .bool xR, .int .i64 xN, .bool yR, .int .i64 yN, .int .i64 op, .int .i64 rel, .int .i64 to] 69) := ⟨_, rfl⟩
  have K1 : Keeps (fun k => k = B) w W1 := by rw [hW1]; exact ((Keeps.refl _ w).setA 51 _).alloc _
  have H1 : RM W1 B (.slice a os.length cap) (.slice ag gs.length cg) s.inc := by
    rw [hW1]; exact (h.setP (s.pl + 1)).keep (S := fun _ => False) ((Keeps.refl _ _).alloc _) (fun e => e)
  have m1 : CL W1 w.heap.size (⟨5, dst, oR, oN, xR, xN, yR, yN, op, rel, to⟩ : Ins).cells := by
    rw [hW1]
    have := CL.made (w.setCell ⟨B, 51, none⟩ (.int .i64 (s.pl + 1))) (⟨5, dst, oR, oN, xR, xN, yR, yN, op, rel, to⟩ : Ins).cells 69
    rw [show (w.setCell ⟨B, 51, none⟩ (.int .i64 (s.pl + 1))).heap.size = w.heap.size by simp] at this
    exact this
  have HW : Hid (_ = _) := hW1
  clear hW1
  have hlt := h.lt
  have nb1 : ¬ w.heap.size = B := by omega
  have nb2 : ¬ B = w.heap.size := by omega
  have c51 := h.p
  have z51 := h.z 51 (by decide)
  have hwp : IntKind.i64.wrap (s.pl + 1) = s.pl + 1 := by rw [IntKind.wrap_i64]; omega
  have hp0 := hp.1
  have hp1 := hp.2
  have hO1 := hO.keep K1
  have hG1 := hG.keep K1
  clear hp hO hG
  show Calls Tryz.prog 33 #[.pointer (some ⟨B, 0, none⟩), .agg #[.int .i64 5, .int .i64 dst, .bool oR, .int .i64 oN, .bool xR, .int .i64 xN, .bool yR, .int .i64 yN, .int .i64 op, .int .i64 rel, .int .i64 to]] w _
  obtain ⟨dk, rfl⟩ : ∃ dk : Nat, dst = (dk : Int) := ⟨dst.toNat, by have := can_dst hcan rfl; simp only at this; omega⟩
  have hd16 : dk < 16 := by have := can_dst hcan rfl; simp only at this; omega
  have hd0 : (0 : Int) ≤ (dk : Int) := by omega
  have hd1 : (dk : Int) < 16 := by omega
  have hs := msource (H1.keep (S := fun _ => False) (Keeps.refl _ W1).drew (fun e => e)) xR xN (can_x hcan rfl)
  clear hcan
  have x1 := m1.c 1 _ rfl
  have x4 := m1.c 4 _ rfl
  have x5 := m1.c 5 _ rfl
  have KD : Keeps (fun _ => False) W1 W1.drew := (Keeps.refl _ W1).drew
  go_enter Tryz.func33, Tryz.ntmps33
  go_wp2_with fail
  rw [← HW.out]
  clear HW
  go_region_held3 (fun w' => w'.cell? ⟨w.heap.size, 1, none⟩ = some (.int .i64 (dk : Int)) ∧ w'.cell? ⟨w.heap.size, 4, none⟩ = some (.bool xR) ∧ w'.cell? ⟨w.heap.size, 5, none⟩ = some (.int .i64 xN)) (go_keep) (first | (go_at_call 53; refine hs.mono ?_; clear hs; rintro e w2 ⟨rfl, k2⟩; have K2 := KD.trans k2; have d1 := K2.cell x1 (fun e => e); have d4 := K2.cell x4 (fun e => e); have d5 := K2.cell x5 (fun e => e); have H2 := H1.keep K2 (fun e => e); have r2 := H2.r dk hd16; have z2 := H2.z (2 + dk) (by omega)))
  all_goals
    go_wp2_with fail
    go_end0
    exact ⟨rfl, H2.setR (i := dk) hd16 (s.inc.sv xR xN), (K1.trans (K2.mono (fun _ _ e => e.elim))).setA (2 + dk) _⟩
end Go.Proofs.YthchbcfecconbaaGreatDoor

namespace Go.Proofs.YthchbcfecconbaaGreatDoor
open Go.RowKit
attribute [local go_sem] Oper.semAt_some run_store_nf run_store_f
set_option maxHeartbeats 1000000 in
set_option maxRecDepth 1000000 in
theorem do_get {w : World} {B : Nat} {a ag : Option Addr} {cap cg : Nat} {os : List Int} {gs : List (Bool × Int)} {s : Rs} (hS : DoS w B a ag cap cg os gs s) (q : Ins) {N : Int} (hcan : q.can N = true) (hc : q.code = 1) {x : Nat} (hx : s.sv q.oR q.oN = (x : Int)) (hxl : x < os.length) : Calls Tryz.prog 33 #[.pointer (some ⟨B, 0, none⟩), .agg q.cells.toArray] w fun e w' => e = .returned (.tuple #[]) ∧ RM w' B (.slice a os.length cap) (.slice ag gs.length cg) ((s.inc.rdo os gs x).setReg q.dst.toNat ((s.inc.rdo os gs x).nm x)) ∧ Keeps (fun k => k = B) w w' := by
  obtain ⟨cd, dst, oR, oN, xR, xN, yR, yN, op, rel, to⟩ := q
  simp only at hc
  subst hc
  obtain ⟨h, hO, hG, h16, hrd, hp⟩ := hS
  obtain ⟨W1, hW1⟩ : ∃ W1, W1 = (w.setCell ⟨B, 51, none⟩ (.int .i64 (s.pl + 1))).alloc (.cells #[.int .i64 1, .int .i64 dst, .bool oR, .int .i64 oN, .bool xR, .int .i64 xN, .bool yR, .int .i64 yN, .int .i64 op, .int .i64 rel, .int .i64 to] 69) := ⟨_, rfl⟩
  have K1 : Keeps (fun k => k = B) w W1 := by rw [hW1]; exact ((Keeps.refl _ w).setA 51 _).alloc _
  have H1 : RM W1 B (.slice a os.length cap) (.slice ag gs.length cg) s.inc := by
    rw [hW1]; exact (h.setP (s.pl + 1)).keep (S := fun _ => False) ((Keeps.refl _ _).alloc _) (fun e => e)
  have m1 : CL W1 w.heap.size (⟨1, dst, oR, oN, xR, xN, yR, yN, op, rel, to⟩ : Ins).cells := by
    rw [hW1]
    have := CL.made (w.setCell ⟨B, 51, none⟩ (.int .i64 (s.pl + 1))) (⟨1, dst, oR, oN, xR, xN, yR, yN, op, rel, to⟩ : Ins).cells 69
    rw [show (w.setCell ⟨B, 51, none⟩ (.int .i64 (s.pl + 1))).heap.size = w.heap.size by simp] at this
    exact this
  have HW : Hid (_ = _) := hW1
  clear hW1
  have hlt := h.lt
  have nb1 : ¬ w.heap.size = B := by omega
  have nb2 : ¬ B = w.heap.size := by omega
  have c51 := h.p
  have z51 := h.z 51 (by decide)
  have hwp : IntKind.i64.wrap (s.pl + 1) = s.pl + 1 := by rw [IntKind.wrap_i64]; omega
  have hp0 := hp.1
  have hp1 := hp.2
  have hO1 := hO.keep K1
  have hG1 := hG.keep K1
  clear hp hO hG
  show Calls Tryz.prog 33 #[.pointer (some ⟨B, 0, none⟩), .agg #[.int .i64 1, .int .i64 dst, .bool oR, .int .i64 oN, .bool xR, .int .i64 xN, .bool yR, .int .i64 yN, .int .i64 op, .int .i64 rel, .int .i64 to]] w _
  obtain ⟨dk, rfl⟩ : ∃ dk : Nat, dst = (dk : Int) := ⟨dst.toNat, by have := can_dst hcan rfl; simp only at this; omega⟩
  have hd16 : dk < 16 := by have := can_dst hcan rfl; simp only at this; omega
  have hd0 : (0 : Int) ≤ (dk : Int) := by omega
  have hd1 : (dk : Int) < 16 := by omega
  have hob := mobj_ok H1 oR oN (can_obj hcan rfl) (by show 0 ≤ s.sv oR oN ∧ s.sv oR oN < os.length; simp only at hx; rw [hx]; omega)
  rw [show s.inc.sv oR oN = (x : Int) from hx] at hob
  have hx0 : (0 : Int) ≤ (x : Int) := by omega
  have hx16 : (x : Int) < 16 := by omega
  have x1 := m1.c 1 _ rfl
  have x2 := m1.c 2 _ rfl
  have x3 := m1.c 3 _ rfl
  have KDf : ∀ W : World, Keeps (fun _ => False) W W.drew := fun W => (Keeps.refl _ W).drew
  have KDb : ∀ W : World, Keeps (fun k => k = B) W W.drew := fun W => (Keeps.refl _ W).drew
  clear hcan
  go_enter Tryz.func33, Tryz.ntmps33
  go_wp2_with (go_at_call 50; rw [← HW.out]; refine hob.mono ?_; clear hob; rintro e w2 ⟨rfl, k2⟩; have d1 := k2.cell x1 (fun e => e); have d2 := k2.cell x2 (fun e => e); have d3 := k2.cell x3 (fun e => e); have H2 := H1.keep k2 (fun e => e); have O2 := hO1.keep (k2.mono (fun _ _ e => e.elim)); have G2 := hG1.keep (k2.mono (fun _ _ e => e.elim)); have K2 := K1.trans (k2.mono (fun _ _ e => e.elim)))
  have hr := mread (H2.keep (KDf w2) (fun e => e)) (O2.keep (KDb w2)) (G2.keep (KDb w2)) hxl h16 hrd
  clear HW
  go_region_held3 (fun w' => w'.cell? ⟨w.heap.size, 1, none⟩ = some (.int .i64 (dk : Int))) (go_keep) (first | (go_at_call 51; refine hr.mono ?_; clear hr; rintro e w3 ⟨rfl, H3, k3⟩; have K3 := (K2.trans (KDb _)).trans k3; have f1 := ((KDb _).trans k3).cell d1 nb1; have r3 := H3.r dk hd16; have z3 := H3.z (2 + dk) (by omega)))
  all_goals
    go_wp2_with fail
    go_end0
    exact ⟨rfl, H3.setR (i := dk) hd16 _, K3.setA (2 + dk) _⟩
end Go.Proofs.YthchbcfecconbaaGreatDoor

namespace Go.Proofs.YthchbcfecconbaaGreatDoor
open Go.RowKit
attribute [local go_sem] Oper.semAt_some run_store_nf run_store_f
set_option maxHeartbeats 1000000 in
set_option maxRecDepth 1000000 in
theorem do_take {w : World} {B : Nat} {a ag : Option Addr} {cap cg : Nat} {os : List Int} {gs : List (Bool × Int)} {s : Rs} (hS : DoS w B a ag cap cg os gs s) (q : Ins) {N : Int} (hcan : q.can N = true) (hc : q.code = 2) {x : Nat} (hx : s.sv q.oR q.oN = (x : Int)) (hxl : x < os.length) : Calls Tryz.prog 33 #[.pointer (some ⟨B, 0, none⟩), .agg q.cells.toArray] w fun e w' => e = .returned (.tuple #[]) ∧ RM w' B (.slice a os.length cap) (.slice ag gs.length cg) ((s.inc.wro os x).setReg q.dst.toNat ((s.inc.wro os x).nm x)) ∧ Keeps (fun k => k = B) w w' := by
  obtain ⟨cd, dst, oR, oN, xR, xN, yR, yN, op, rel, to⟩ := q
  simp only at hc
  subst hc
  obtain ⟨h, hO, hG, h16, hrd, hp⟩ := hS
  obtain ⟨W1, hW1⟩ : ∃ W1, W1 = (w.setCell ⟨B, 51, none⟩ (.int .i64 (s.pl + 1))).alloc (.cells #[.int .i64 2, .int .i64 dst, .bool oR, .int .i64 oN, .bool xR, .int .i64 xN, .bool yR, .int .i64 yN, .int .i64 op, .int .i64 rel, .int .i64 to] 69) := ⟨_, rfl⟩
  have K1 : Keeps (fun k => k = B) w W1 := by rw [hW1]; exact ((Keeps.refl _ w).setA 51 _).alloc _
  have H1 : RM W1 B (.slice a os.length cap) (.slice ag gs.length cg) s.inc := by
    rw [hW1]; exact (h.setP (s.pl + 1)).keep (S := fun _ => False) ((Keeps.refl _ _).alloc _) (fun e => e)
  have m1 : CL W1 w.heap.size (⟨2, dst, oR, oN, xR, xN, yR, yN, op, rel, to⟩ : Ins).cells := by
    rw [hW1]
    have := CL.made (w.setCell ⟨B, 51, none⟩ (.int .i64 (s.pl + 1))) (⟨2, dst, oR, oN, xR, xN, yR, yN, op, rel, to⟩ : Ins).cells 69
    rw [show (w.setCell ⟨B, 51, none⟩ (.int .i64 (s.pl + 1))).heap.size = w.heap.size by simp] at this
    exact this
  have HW : Hid (_ = _) := hW1
  clear hW1
  have hlt := h.lt
  have nb1 : ¬ w.heap.size = B := by omega
  have nb2 : ¬ B = w.heap.size := by omega
  have c51 := h.p
  have z51 := h.z 51 (by decide)
  have hwp : IntKind.i64.wrap (s.pl + 1) = s.pl + 1 := by rw [IntKind.wrap_i64]; omega
  have hp0 := hp.1
  have hp1 := hp.2
  have hO1 := hO.keep K1
  have hG1 := hG.keep K1
  clear hp hO hG
  show Calls Tryz.prog 33 #[.pointer (some ⟨B, 0, none⟩), .agg #[.int .i64 2, .int .i64 dst, .bool oR, .int .i64 oN, .bool xR, .int .i64 xN, .bool yR, .int .i64 yN, .int .i64 op, .int .i64 rel, .int .i64 to]] w _
  obtain ⟨dk, rfl⟩ : ∃ dk : Nat, dst = (dk : Int) := ⟨dst.toNat, by have := can_dst hcan rfl; simp only at this; omega⟩
  have hd16 : dk < 16 := by have := can_dst hcan rfl; simp only at this; omega
  have hd0 : (0 : Int) ≤ (dk : Int) := by omega
  have hd1 : (dk : Int) < 16 := by omega
  have hob := mobj_ok H1 oR oN (can_obj hcan rfl) (by show 0 ≤ s.sv oR oN ∧ s.sv oR oN < os.length; simp only at hx; rw [hx]; omega)
  rw [show s.inc.sv oR oN = (x : Int) from hx] at hob
  have hx0 : (0 : Int) ≤ (x : Int) := by omega
  have hx16 : (x : Int) < 16 := by omega
  have x1 := m1.c 1 _ rfl
  have x2 := m1.c 2 _ rfl
  have x3 := m1.c 3 _ rfl
  have KDf : ∀ W : World, Keeps (fun _ => False) W W.drew := fun W => (Keeps.refl _ W).drew
  have KDb : ∀ W : World, Keeps (fun k => k = B) W W.drew := fun W => (Keeps.refl _ W).drew
  clear hcan
  go_enter Tryz.func33, Tryz.ntmps33
  go_wp2_with (go_at_call 50; rw [← HW.out]; refine hob.mono ?_; clear hob; rintro e w2 ⟨rfl, k2⟩; have d1 := k2.cell x1 (fun e => e); have d2 := k2.cell x2 (fun e => e); have d3 := k2.cell x3 (fun e => e); have H2 := H1.keep k2 (fun e => e); have O2 := hO1.keep (k2.mono (fun _ _ e => e.elim)); have G2 := hG1.keep (k2.mono (fun _ _ e => e.elim)); have K2 := K1.trans (k2.mono (fun _ _ e => e.elim)))
  have hr := mwrite (H2.keep (KDf w2) (fun e => e)) (O2.keep (KDb w2)) hxl h16
  clear HW
  go_region_held3 (fun w' => w'.cell? ⟨w.heap.size, 1, none⟩ = some (.int .i64 (dk : Int))) (go_keep) (first | (go_at_call 52; refine hr.mono ?_; clear hr; rintro e w3 ⟨rfl, H3, k3⟩; have K3 := (K2.trans (KDb _)).trans k3; have f1 := ((KDb _).trans k3).cell d1 nb1; have r3 := H3.r dk hd16; have z3 := H3.z (2 + dk) (by omega)))
  all_goals
    go_wp2_with fail
    go_end0
    exact ⟨rfl, H3.setR (i := dk) hd16 _, K3.setA (2 + dk) _⟩
end Go.Proofs.YthchbcfecconbaaGreatDoor

namespace Go.Proofs.YthchbcfecconbaaGreatDoor
open Go.RowKit
attribute [local go_sem] Oper.semAt_some run_store_nf run_store_f
set_option maxHeartbeats 1000000 in
set_option maxRecDepth 1000000 in
theorem do_get_no {w : World} {B : Nat} {a ag : Option Addr} {cap cg : Nat} {os : List Int} {gs : List (Bool × Int)} {s : Rs} (hS : DoS w B a ag cap cg os gs s) (q : Ins) {N : Int} (hcan : q.can N = true) (hc : q.code = 1) (hx : s.sv q.oR q.oN < 0 ∨ os.length ≤ s.sv q.oR q.oN) : Calls Tryz.prog 33 #[.pointer (some ⟨B, 0, none⟩), .agg q.cells.toArray] w fun e w' => e = .returned (.tuple #[]) ∧ RM w' B (.slice a os.length cap) (.slice ag gs.length cg) (s.inc.bad) ∧ Keeps (fun k => k = B) w w' := by
  obtain ⟨cd, dst, oR, oN, xR, xN, yR, yN, op, rel, to⟩ := q
  simp only at hc
  subst hc
  obtain ⟨h, hO, hG, h16, hrd, hp⟩ := hS
  obtain ⟨W1, hW1⟩ : ∃ W1, W1 = (w.setCell ⟨B, 51, none⟩ (.int .i64 (s.pl + 1))).alloc (.cells #[.int .i64 1, .int .i64 dst, .bool oR, .int .i64 oN, .bool xR, .int .i64 xN, .bool yR, .int .i64 yN, .int .i64 op, .int .i64 rel, .int .i64 to] 69) := ⟨_, rfl⟩
  have K1 : Keeps (fun k => k = B) w W1 := by rw [hW1]; exact ((Keeps.refl _ w).setA 51 _).alloc _
  have H1 : RM W1 B (.slice a os.length cap) (.slice ag gs.length cg) s.inc := by
    rw [hW1]; exact (h.setP (s.pl + 1)).keep (S := fun _ => False) ((Keeps.refl _ _).alloc _) (fun e => e)
  have m1 : CL W1 w.heap.size (⟨1, dst, oR, oN, xR, xN, yR, yN, op, rel, to⟩ : Ins).cells := by
    rw [hW1]
    have := CL.made (w.setCell ⟨B, 51, none⟩ (.int .i64 (s.pl + 1))) (⟨1, dst, oR, oN, xR, xN, yR, yN, op, rel, to⟩ : Ins).cells 69
    rw [show (w.setCell ⟨B, 51, none⟩ (.int .i64 (s.pl + 1))).heap.size = w.heap.size by simp] at this
    exact this
  have HW : Hid (_ = _) := hW1
  clear hW1
  have hlt := h.lt
  have nb1 : ¬ w.heap.size = B := by omega
  have nb2 : ¬ B = w.heap.size := by omega
  have c51 := h.p
  have z51 := h.z 51 (by decide)
  have hwp : IntKind.i64.wrap (s.pl + 1) = s.pl + 1 := by rw [IntKind.wrap_i64]; omega
  have hp0 := hp.1
  have hp1 := hp.2
  have hO1 := hO.keep K1
  have hG1 := hG.keep K1
  clear hp hO hG
  show Calls Tryz.prog 33 #[.pointer (some ⟨B, 0, none⟩), .agg #[.int .i64 1, .int .i64 dst, .bool oR, .int .i64 oN, .bool xR, .int .i64 xN, .bool yR, .int .i64 yN, .int .i64 op, .int .i64 rel, .int .i64 to]] w _
  have hob := mobj_no H1 oR oN (can_obj hcan rfl) hx
  clear hcan
  have x2 := m1.c 2 _ rfl
  have x3 := m1.c 3 _ rfl
  go_enter Tryz.func33, Tryz.ntmps33
  go_wp2_with (go_at_call 50; rw [← HW.out]; refine hob.mono ?_; clear hob; rintro e w2 ⟨rfl, H2, k2⟩)
  go_end0
  exact ⟨rfl, H2, K1.trans k2⟩
set_option maxHeartbeats 1000000 in
set_option maxRecDepth 1000000 in
theorem do_take_no {w : World} {B : Nat} {a ag : Option Addr} {cap cg : Nat} {os : List Int} {gs : List (Bool × Int)} {s : Rs} (hS : DoS w B a ag cap cg os gs s) (q : Ins) {N : Int} (hcan : q.can N = true) (hc : q.code = 2) (hx : s.sv q.oR q.oN < 0 ∨ os.length ≤ s.sv q.oR q.oN) : Calls Tryz.prog 33 #[.pointer (some ⟨B, 0, none⟩), .agg q.cells.toArray] w fun e w' => e = .returned (.tuple #[]) ∧ RM w' B (.slice a os.length cap) (.slice ag gs.length cg) (s.inc.bad) ∧ Keeps (fun k => k = B) w w' := by
  obtain ⟨cd, dst, oR, oN, xR, xN, yR, yN, op, rel, to⟩ := q
  simp only at hc
  subst hc
  obtain ⟨h, hO, hG, h16, hrd, hp⟩ := hS
  obtain ⟨W1, hW1⟩ : ∃ W1, W1 = (w.setCell ⟨B, 51, none⟩ (.int .i64 (s.pl + 1))).alloc (.cells #[.int .i64 2, .int .i64 dst, .bool oR, .int .i64 oN, .bool xR, .int .i64 xN, .bool yR, .int .i64 yN, .int .i64 op, .int .i64 rel, .int .i64 to] 69) := ⟨_, rfl⟩
  have K1 : Keeps (fun k => k = B) w W1 := by rw [hW1]; exact ((Keeps.refl _ w).setA 51 _).alloc _
  have H1 : RM W1 B (.slice a os.length cap) (.slice ag gs.length cg) s.inc := by
    rw [hW1]; exact (h.setP (s.pl + 1)).keep (S := fun _ => False) ((Keeps.refl _ _).alloc _) (fun e => e)
  have m1 : CL W1 w.heap.size (⟨2, dst, oR, oN, xR, xN, yR, yN, op, rel, to⟩ : Ins).cells := by
    rw [hW1]
    have := CL.made (w.setCell ⟨B, 51, none⟩ (.int .i64 (s.pl + 1))) (⟨2, dst, oR, oN, xR, xN, yR, yN, op, rel, to⟩ : Ins).cells 69
    rw [show (w.setCell ⟨B, 51, none⟩ (.int .i64 (s.pl + 1))).heap.size = w.heap.size by simp] at this
    exact this
  have HW : Hid (_ = _) := hW1
  clear hW1
  have hlt := h.lt
  have nb1 : ¬ w.heap.size = B := by omega
  have nb2 : ¬ B = w.heap.size := by omega
  have c51 := h.p
  have z51 := h.z 51 (by decide)
  have hwp : IntKind.i64.wrap (s.pl + 1) = s.pl + 1 := by rw [IntKind.wrap_i64]; omega
  have hp0 := hp.1
  have hp1 := hp.2
  have hO1 := hO.keep K1
  have hG1 := hG.keep K1
  clear hp hO hG
  show Calls Tryz.prog 33 #[.pointer (some ⟨B, 0, none⟩), .agg #[.int .i64 2, .int .i64 dst, .bool oR, .int .i64 oN, .bool xR, .int .i64 xN, .bool yR, .int .i64 yN, .int .i64 op, .int .i64 rel, .int .i64 to]] w _
  have hob := mobj_no H1 oR oN (can_obj hcan rfl) hx
  clear hcan
  have x2 := m1.c 2 _ rfl
  have x3 := m1.c 3 _ rfl
  go_enter Tryz.func33, Tryz.ntmps33
  go_wp2_with (go_at_call 50; rw [← HW.out]; refine hob.mono ?_; clear hob; rintro e w2 ⟨rfl, H2, k2⟩)
  go_end0
  exact ⟨rfl, H2, K1.trans k2⟩
set_option maxHeartbeats 1000000 in
set_option maxRecDepth 1000000 in
theorem do_put_no {w : World} {B : Nat} {a ag : Option Addr} {cap cg : Nat} {os : List Int} {gs : List (Bool × Int)} {s : Rs} (hS : DoS w B a ag cap cg os gs s) (q : Ins) {N : Int} (hcan : q.can N = true) (hc : q.code = 3) (hx : s.sv q.oR q.oN < 0 ∨ os.length ≤ s.sv q.oR q.oN) : Calls Tryz.prog 33 #[.pointer (some ⟨B, 0, none⟩), .agg q.cells.toArray] w fun e w' => e = .returned (.tuple #[]) ∧ RM w' B (.slice a os.length cap) (.slice ag gs.length cg) (s.inc.bad) ∧ Keeps (fun k => k = B) w w' := by
  obtain ⟨cd, dst, oR, oN, xR, xN, yR, yN, op, rel, to⟩ := q
  simp only at hc
  subst hc
  obtain ⟨h, hO, hG, h16, hrd, hp⟩ := hS
  obtain ⟨W1, hW1⟩ : ∃ W1, W1 = (w.setCell ⟨B, 51, none⟩ (.int .i64 (s.pl + 1))).alloc (.cells #[.int .i64 3, .int .i64 dst, .bool oR, .int .i64 oN, .bool xR, .int .i64 xN, .bool yR, .int .i64 yN, .int .i64 op, .int .i64 rel, .int .i64 to] 69) := ⟨_, rfl⟩
  have K1 : Keeps (fun k => k = B) w W1 := by rw [hW1]; exact ((Keeps.refl _ w).setA 51 _).alloc _
  have H1 : RM W1 B (.slice a os.length cap) (.slice ag gs.length cg) s.inc := by
    rw [hW1]; exact (h.setP (s.pl + 1)).keep (S := fun _ => False) ((Keeps.refl _ _).alloc _) (fun e => e)
  have m1 : CL W1 w.heap.size (⟨3, dst, oR, oN, xR, xN, yR, yN, op, rel, to⟩ : Ins).cells := by
    rw [hW1]
    have := CL.made (w.setCell ⟨B, 51, none⟩ (.int .i64 (s.pl + 1))) (⟨3, dst, oR, oN, xR, xN, yR, yN, op, rel, to⟩ : Ins).cells 69
    rw [show (w.setCell ⟨B, 51, none⟩ (.int .i64 (s.pl + 1))).heap.size = w.heap.size by simp] at this
    exact this
  have HW : Hid (_ = _) := hW1
  clear hW1
  have hlt := h.lt
  have nb1 : ¬ w.heap.size = B := by omega
  have nb2 : ¬ B = w.heap.size := by omega
  have c51 := h.p
  have z51 := h.z 51 (by decide)
  have hwp : IntKind.i64.wrap (s.pl + 1) = s.pl + 1 := by rw [IntKind.wrap_i64]; omega
  have hp0 := hp.1
  have hp1 := hp.2
  have hO1 := hO.keep K1
  have hG1 := hG.keep K1
  clear hp hO hG
  show Calls Tryz.prog 33 #[.pointer (some ⟨B, 0, none⟩), .agg #[.int .i64 3, .int .i64 dst, .bool oR, .int .i64 oN, .bool xR, .int .i64 xN, .bool yR, .int .i64 yN, .int .i64 op, .int .i64 rel, .int .i64 to]] w _
  have hob := mobj_no H1 oR oN (can_obj hcan rfl) hx
  clear hcan
  have x2 := m1.c 2 _ rfl
  have x3 := m1.c 3 _ rfl
  go_enter Tryz.func33, Tryz.ntmps33
  go_wp2_with (go_at_call 50; rw [← HW.out]; refine hob.mono ?_; clear hob; rintro e w2 ⟨rfl, H2, k2⟩)
  go_end0
  exact ⟨rfl, H2, K1.trans k2⟩
set_option maxHeartbeats 1000000 in
set_option maxRecDepth 1000000 in
theorem do_drop_no {w : World} {B : Nat} {a ag : Option Addr} {cap cg : Nat} {os : List Int} {gs : List (Bool × Int)} {s : Rs} (hS : DoS w B a ag cap cg os gs s) (q : Ins) {N : Int} (hcan : q.can N = true) (hc : q.code = 4) (hx : s.sv q.oR q.oN < 0 ∨ os.length ≤ s.sv q.oR q.oN) : Calls Tryz.prog 33 #[.pointer (some ⟨B, 0, none⟩), .agg q.cells.toArray] w fun e w' => e = .returned (.tuple #[]) ∧ RM w' B (.slice a os.length cap) (.slice ag gs.length cg) (s.inc.bad) ∧ Keeps (fun k => k = B) w w' := by
  obtain ⟨cd, dst, oR, oN, xR, xN, yR, yN, op, rel, to⟩ := q
  simp only at hc
  subst hc
  obtain ⟨h, hO, hG, h16, hrd, hp⟩ := hS
  obtain ⟨W1, hW1⟩ : ∃ W1, W1 = (w.setCell ⟨B, 51, none⟩ (.int .i64 (s.pl + 1))).alloc (.cells #[.int .i64 4, .int .i64 dst, .bool oR, .int .i64 oN, .bool xR, .int .i64 xN, .bool yR, .int .i64 yN, .int .i64 op, .int .i64 rel, .int .i64 to] 69) := ⟨_, rfl⟩
  have K1 : Keeps (fun k => k = B) w W1 := by rw [hW1]; exact ((Keeps.refl _ w).setA 51 _).alloc _
  have H1 : RM W1 B (.slice a os.length cap) (.slice ag gs.length cg) s.inc := by
    rw [hW1]; exact (h.setP (s.pl + 1)).keep (S := fun _ => False) ((Keeps.refl _ _).alloc _) (fun e => e)
  have m1 : CL W1 w.heap.size (⟨4, dst, oR, oN, xR, xN, yR, yN, op, rel, to⟩ : Ins).cells := by
    rw [hW1]
    have := CL.made (w.setCell ⟨B, 51, none⟩ (.int .i64 (s.pl + 1))) (⟨4, dst, oR, oN, xR, xN, yR, yN, op, rel, to⟩ : Ins).cells 69
    rw [show (w.setCell ⟨B, 51, none⟩ (.int .i64 (s.pl + 1))).heap.size = w.heap.size by simp] at this
    exact this
  have HW : Hid (_ = _) := hW1
  clear hW1
  have hlt := h.lt
  have nb1 : ¬ w.heap.size = B := by omega
  have nb2 : ¬ B = w.heap.size := by omega
  have c51 := h.p
  have z51 := h.z 51 (by decide)
  have hwp : IntKind.i64.wrap (s.pl + 1) = s.pl + 1 := by rw [IntKind.wrap_i64]; omega
  have hp0 := hp.1
  have hp1 := hp.2
  have hO1 := hO.keep K1
  have hG1 := hG.keep K1
  clear hp hO hG
  show Calls Tryz.prog 33 #[.pointer (some ⟨B, 0, none⟩), .agg #[.int .i64 4, .int .i64 dst, .bool oR, .int .i64 oN, .bool xR, .int .i64 xN, .bool yR, .int .i64 yN, .int .i64 op, .int .i64 rel, .int .i64 to]] w _
  have hob := mobj_no H1 oR oN (can_obj hcan rfl) hx
  clear hcan
  have x2 := m1.c 2 _ rfl
  have x3 := m1.c 3 _ rfl
  go_enter Tryz.func33, Tryz.ntmps33
  go_wp2_with (go_at_call 50; rw [← HW.out]; refine hob.mono ?_; clear hob; rintro e w2 ⟨rfl, H2, k2⟩)
  go_end0
  exact ⟨rfl, H2, K1.trans k2⟩
end Go.Proofs.YthchbcfecconbaaGreatDoor

namespace Go.Proofs.YthchbcfecconbaaGreatDoor
open Go.RowKit
attribute [local go_sem] Oper.semAt_some run_store_nf run_store_f
set_option maxHeartbeats 1000000 in
set_option maxRecDepth 1000000 in
theorem do_put {w : World} {B : Nat} {a ag : Option Addr} {cap cg : Nat} {os : List Int} {gs : List (Bool × Int)} {s : Rs} (hS : DoS w B a ag cap cg os gs s) (q : Ins) {N : Int} (hcan : q.can N = true) (hc : q.code = 3) {x : Nat} (hx : s.sv q.oR q.oN = (x : Int)) (hxl : x < os.length) : Calls Tryz.prog 33 #[.pointer (some ⟨B, 0, none⟩), .agg q.cells.toArray] w fun e w' => e = .returned (.tuple #[]) ∧ RM w' B (.slice a os.length cap) (.slice ag gs.length cg) ({ s.inc.wro os x with nm := fun k => if k = x then (s.inc.wro os x).sv q.xR q.xN else (s.inc.wro os x).nm k }) ∧ Keeps (fun k => k = B) w w' := by
  obtain ⟨cd, dst, oR, oN, xR, xN, yR, yN, op, rel, to⟩ := q
  simp only at hc
  subst hc
  obtain ⟨h, hO, hG, h16, hrd, hp⟩ := hS
  obtain ⟨W1, hW1⟩ : ∃ W1, W1 = (w.setCell ⟨B, 51, none⟩ (.int .i64 (s.pl + 1))).alloc (.cells #[.int .i64 3, .int .i64 dst, .bool oR, .int .i64 oN, .bool xR, .int .i64 xN, .bool yR, .int .i64 yN, .int .i64 op, .int .i64 rel, .int .i64 to] 69) := ⟨_, rfl⟩
  have K1 : Keeps (fun k => k = B) w W1 := by rw [hW1]; exact ((Keeps.refl _ w).setA 51 _).alloc _
  have H1 : RM W1 B (.slice a os.length cap) (.slice ag gs.length cg) s.inc := by
    rw [hW1]; exact (h.setP (s.pl + 1)).keep (S := fun _ => False) ((Keeps.refl _ _).alloc _) (fun e => e)
  have m1 : CL W1 w.heap.size (⟨3, dst, oR, oN, xR, xN, yR, yN, op, rel, to⟩ : Ins).cells := by
    rw [hW1]
    have := CL.made (w.setCell ⟨B, 51, none⟩ (.int .i64 (s.pl + 1))) (⟨3, dst, oR, oN, xR, xN, yR, yN, op, rel, to⟩ : Ins).cells 69
    rw [show (w.setCell ⟨B, 51, none⟩ (.int .i64 (s.pl + 1))).heap.size = w.heap.size by simp] at this
    exact this
  have HW : Hid (_ = _) := hW1
  clear hW1
  have hlt := h.lt
  have nb1 : ¬ w.heap.size = B := by omega
  have nb2 : ¬ B = w.heap.size := by omega
  have c51 := h.p
  have z51 := h.z 51 (by decide)
  have hwp : IntKind.i64.wrap (s.pl + 1) = s.pl + 1 := by rw [IntKind.wrap_i64]; omega
  have hp0 := hp.1
  have hp1 := hp.2
  have hO1 := hO.keep K1
  have hG1 := hG.keep K1
  clear hp hO hG
  show Calls Tryz.prog 33 #[.pointer (some ⟨B, 0, none⟩), .agg #[.int .i64 3, .int .i64 dst, .bool oR, .int .i64 oN, .bool xR, .int .i64 xN, .bool yR, .int .i64 yN, .int .i64 op, .int .i64 rel, .int .i64 to]] w _
  have hob := mobj_ok H1 oR oN (can_obj hcan rfl) (by show 0 ≤ s.sv oR oN ∧ s.sv oR oN < os.length; simp only at hx; rw [hx]; omega)
  rw [show s.inc.sv oR oN = (x : Int) from hx] at hob
  have hx0 : (0 : Int) ≤ (x : Int) := by omega
  have hx16 : (x : Int) < 16 := by omega
  have x2 := m1.c 2 _ rfl
  have x3 := m1.c 3 _ rfl
  have x4 := m1.c 4 _ rfl
  have x5 := m1.c 5 _ rfl
  have KDf : ∀ W : World, Keeps (fun _ => False) W W.drew := fun W => (Keeps.refl _ W).drew
  have KDb : ∀ W : World, Keeps (fun k => k = B) W W.drew := fun W => (Keeps.refl _ W).drew
  have hxo := can_x hcan rfl
  clear hcan
  go_enter Tryz.func33, Tryz.ntmps33
  go_wp2_with (first | (go_at_call 50; rw [← HW.out]; refine hob.mono ?_; clear hob; rintro e w2 ⟨rfl, k2⟩; have d2 := k2.cell x2 (fun e => e); have d3 := k2.cell x3 (fun e => e); have d4 := k2.cell x4 (fun e => e); have d5 := k2.cell x5 (fun e => e); have H2 := H1.keep k2 (fun e => e); have O2 := hO1.keep (k2.mono (fun _ _ e => e.elim)); have G2 := hG1.keep (k2.mono (fun _ _ e => e.elim)); have K2 := K1.trans (k2.mono (fun _ _ e => e.elim))) | (go_at_call 52; refine (mwrite H2 O2 hxl h16).mono ?_; rintro e w3 ⟨rfl, H3, k3⟩; have K3 := K2.trans k3; have f4 := k3.cell d4 nb1; have f5 := k3.cell d5 nb1))
  have hr := msource (H3.keep (KDf w3) (fun e => e)) xR xN hxo
  clear HW
  go_region_held3 (fun w' => w'.cell? ⟨w.heap.size, 4, none⟩ = some (.bool xR) ∧ w'.cell? ⟨w.heap.size, 5, none⟩ = some (.int .i64 xN)) (go_keep) (first | (go_at_call 53; refine hr.mono ?_; clear hr; rintro e w4 ⟨rfl, k4⟩; have KE := (KDf _).trans k4; have H4 := H3.keep KE (fun e => e); have g4 := KE.cell f4 (fun e => e); have g5 := KE.cell f5 (fun e => e); have n4 := H4.n x (by omega); have z4 := H4.z (18 + x * 2 + 1) (by omega); have K4 := K3.trans (KE.mono (fun _ _ e => e.elim))))
  all_goals
    go_wp2_with fail
    go_end0
    exact ⟨rfl, H4.setN (i := x) (by omega) _, K4.setA (18 + x * 2 + 1) _⟩
end Go.Proofs.YthchbcfecconbaaGreatDoor

namespace Go.Proofs.YthchbcfecconbaaGreatDoor
open Go.RowKit
attribute [local go_sem] Oper.semAt_some run_store_nf run_store_f
set_option maxHeartbeats 1000000 in
set_option maxRecDepth 1000000 in
theorem do_drop {w : World} {B : Nat} {a ag : Option Addr} {cap cg : Nat} {os : List Int} {gs : List (Bool × Int)} {s : Rs} (hS : DoS w B a ag cap cg os gs s) (q : Ins) {N : Int} (hcan : q.can N = true) (hc : q.code = 4) {x : Nat} (hx : s.sv q.oR q.oN = (x : Int)) (hxl : x < os.length) : Calls Tryz.prog 33 #[.pointer (some ⟨B, 0, none⟩), .agg q.cells.toArray] w fun e w' => e = .returned (.tuple #[]) ∧ RM w' B (.slice a os.length cap) (.slice ag gs.length cg) (if s.st x = 1 then { s.inc with st := fun k => if k = x then 0 else s.st k, nm := fun k => if k = x then 0 else s.nm k } else s.inc) ∧ Keeps (fun k => k = B) w w' := by
  obtain ⟨cd, dst, oR, oN, xR, xN, yR, yN, op, rel, to⟩ := q
  simp only at hc
  subst hc
  obtain ⟨h, hO, hG, h16, hrd, hp⟩ := hS
  obtain ⟨W1, hW1⟩ : ∃ W1, W1 = (w.setCell ⟨B, 51, none⟩ (.int .i64 (s.pl + 1))).alloc (.cells #[.int .i64 4, .int .i64 dst, .bool oR, .int .i64 oN, .bool xR, .int .i64 xN, .bool yR, .int .i64 yN, .int .i64 op, .int .i64 rel, .int .i64 to] 69) := ⟨_, rfl⟩
  have K1 : Keeps (fun k => k = B) w W1 := by rw [hW1]; exact ((Keeps.refl _ w).setA 51 _).alloc _
  have H1 : RM W1 B (.slice a os.length cap) (.slice ag gs.length cg) s.inc := by
    rw [hW1]; exact (h.setP (s.pl + 1)).keep (S := fun _ => False) ((Keeps.refl _ _).alloc _) (fun e => e)
  have m1 : CL W1 w.heap.size (⟨4, dst, oR, oN, xR, xN, yR, yN, op, rel, to⟩ : Ins).cells := by
    rw [hW1]
    have := CL.made (w.setCell ⟨B, 51, none⟩ (.int .i64 (s.pl + 1))) (⟨4, dst, oR, oN, xR, xN, yR, yN, op, rel, to⟩ : Ins).cells 69
    rw [show (w.setCell ⟨B, 51, none⟩ (.int .i64 (s.pl + 1))).heap.size = w.heap.size by simp] at this
    exact this
  have HW : Hid (_ = _) := hW1
  clear hW1
  have hlt := h.lt
  have nb1 : ¬ w.heap.size = B := by omega
  have nb2 : ¬ B = w.heap.size := by omega
  have c51 := h.p
  have z51 := h.z 51 (by decide)
  have hwp : IntKind.i64.wrap (s.pl + 1) = s.pl + 1 := by rw [IntKind.wrap_i64]; omega
  have hp0 := hp.1
  have hp1 := hp.2
  have hO1 := hO.keep K1
  have hG1 := hG.keep K1
  clear hp hO hG
  show Calls Tryz.prog 33 #[.pointer (some ⟨B, 0, none⟩), .agg #[.int .i64 4, .int .i64 dst, .bool oR, .int .i64 oN, .bool xR, .int .i64 xN, .bool yR, .int .i64 yN, .int .i64 op, .int .i64 rel, .int .i64 to]] w _
  have hob := mobj_ok H1 oR oN (can_obj hcan rfl) (by show 0 ≤ s.sv oR oN ∧ s.sv oR oN < os.length; simp only at hx; rw [hx]; omega)
  rw [show s.inc.sv oR oN = (x : Int) from hx] at hob
  have hx0 : (0 : Int) ≤ (x : Int) := by omega
  have hx16 : (x : Int) < 16 := by omega
  have x2 := m1.c 2 _ rfl
  have x3 := m1.c 3 _ rfl
  clear hcan
  by_cases hs : s.st x = 1
  · rw [if_pos hs]
    go_enter Tryz.func33, Tryz.ntmps33
    go_wp2_with (go_at_call 50; rw [← HW.out]; refine hob.mono ?_; clear hob; rintro e w2 ⟨rfl, k2⟩; have d2 := k2.cell x2 (fun e => e); have d3 := k2.cell x3 (fun e => e); have t2 := (H1.keep k2 (fun e => e)).t x (by omega); have n2 := (H1.keep k2 (fun e => e)).n x (by omega); have zt := (H1.keep k2 (fun e => e)).z (18 + x * 2) (by omega); have zn := (H1.keep k2 (fun e => e)).z (18 + x * 2 + 1) (by omega); rw [show s.inc.st x = 1 from hs] at t2; have H2 := H1.keep k2 (fun e => e); have O2 := hO1.keep (k2.mono (fun _ _ e => e.elim)); have G2 := hG1.keep (k2.mono (fun _ _ e => e.elim)); have K2 := K1.trans (k2.mono (fun _ _ e => e.elim)))
    go_end0
    exact ⟨rfl, (H2.setT (i := x) (by omega) 0).setN (i := x) (by omega) 0, (K2.setA (18 + x * 2) _).setA (18 + x * 2 + 1) _⟩
  · rw [if_neg hs]
    have hb : (s.st x == 1) = false := by simpa using hs
    go_enter Tryz.func33, Tryz.ntmps33
    go_wp2_with (go_at_call 50; rw [← HW.out]; refine hob.mono ?_; clear hob; rintro e w2 ⟨rfl, k2⟩; have d2 := k2.cell x2 (fun e => e); have d3 := k2.cell x3 (fun e => e); have t2 : w2.cell? ⟨B, 18 + x * 2, none⟩ = some (.int .i64 (s.st x)) := (H1.keep k2 (fun e => e)).t x (by omega); have H2 := H1.keep k2 (fun e => e); have O2 := hO1.keep (k2.mono (fun _ _ e => e.elim)); have G2 := hG1.keep (k2.mono (fun _ _ e => e.elim)); have K2 := K1.trans (k2.mono (fun _ _ e => e.elim)))
    go_end0
    exact ⟨rfl, H2, K2⟩
end Go.Proofs.YthchbcfecconbaaGreatDoor

namespace Go.Proofs.YthchbcfecconbaaGreatDoor
open Go.RowKit
attribute [local go_sem] Oper.semAt_some run_store_nf run_store_f
set_option maxHeartbeats 1000000 in
set_option maxRecDepth 1000000 in
theorem do_calc {w : World} {B : Nat} {a ag : Option Addr} {cap cg : Nat} {os : List Int} {gs : List (Bool × Int)} {s : Rs} (hS : DoS w B a ag cap cg os gs s) (q : Ins) {N : Int} (hcan : q.can N = true) (hc : q.code = 6) : Calls Tryz.prog 33 #[.pointer (some ⟨B, 0, none⟩), .agg q.cells.toArray] w fun e w' => e = .returned (.tuple #[]) ∧ RM w' B (.slice a os.length cap) (.slice ag gs.length cg) (s.inc.setReg q.dst.toNat (ap q.op (s.inc.sv q.xR q.xN) (s.inc.sv q.yR q.yN))) ∧ Keeps (fun k => k = B) w w' := by
  obtain ⟨cd, dst, oR, oN, xR, xN, yR, yN, op, rel, to⟩ := q
  simp only at hc
  subst hc
  obtain ⟨h, hO, hG, h16, hrd, hp⟩ := hS
  obtain ⟨W1, hW1⟩ : ∃ W1, W1 = (w.setCell ⟨B, 51, none⟩ (.int .i64 (s.pl + 1))).alloc (.cells #[.int .i64 6, .int .i64 dst, .bool oR, .int .i64 oN, .bool xR, .int .i64 xN, .bool yR, .int .i64 yN, .int .i64 op, .int .i64 rel, .int .i64 to] 69) := ⟨_, rfl⟩
  have K1 : Keeps (fun k => k = B) w W1 := by rw [hW1]; exact ((Keeps.refl _ w).setA 51 _).alloc _
  have H1 : RM W1 B (.slice a os.length cap) (.slice ag gs.length cg) s.inc := by
    rw [hW1]; exact (h.setP (s.pl + 1)).keep (S := fun _ => False) ((Keeps.refl _ _).alloc _) (fun e => e)
  have m1 : CL W1 w.heap.size (⟨6, dst, oR, oN, xR, xN, yR, yN, op, rel, to⟩ : Ins).cells := by
    rw [hW1]
    have := CL.made (w.setCell ⟨B, 51, none⟩ (.int .i64 (s.pl + 1))) (⟨6, dst, oR, oN, xR, xN, yR, yN, op, rel, to⟩ : Ins).cells 69
    rw [show (w.setCell ⟨B, 51, none⟩ (.int .i64 (s.pl + 1))).heap.size = w.heap.size by simp] at this
    exact this
  have HW : Hid (_ = _) := hW1
  clear hW1
  have hlt := h.lt
  have nb1 : ¬ w.heap.size = B := by omega
  have nb2 : ¬ B = w.heap.size := by omega
  have c51 := h.p
  have z51 := h.z 51 (by decide)
  have hwp : IntKind.i64.wrap (s.pl + 1) = s.pl + 1 := by rw [IntKind.wrap_i64]; omega
  have hp0 := hp.1
  have hp1 := hp.2
  have hO1 := hO.keep K1
  have hG1 := hG.keep K1
  clear hp hO hG
  show Calls Tryz.prog 33 #[.pointer (some ⟨B, 0, none⟩), .agg #[.int .i64 6, .int .i64 dst, .bool oR, .int .i64 oN, .bool xR, .int .i64 xN, .bool yR, .int .i64 yN, .int .i64 op, .int .i64 rel, .int .i64 to]] w _
  obtain ⟨dk, rfl⟩ : ∃ dk : Nat, dst = (dk : Int) := ⟨dst.toNat, by have := can_dst hcan rfl; simp only at this; omega⟩
  have hd16 : dk < 16 := by have := can_dst hcan rfl; simp only at this; omega
  have hd0 : (0 : Int) ≤ (dk : Int) := by omega
  have hd1 : (dk : Int) < 16 := by omega
  have x1 := m1.c 1 _ rfl
  have x4 := m1.c 4 _ rfl
  have x5 := m1.c 5 _ rfl
  have x6 := m1.c 6 _ rfl
  have x7 := m1.c 7 _ rfl
  have x8 := m1.c 8 _ rfl
  have KDf : ∀ W : World, Keeps (fun _ => False) W W.drew := fun W => (Keeps.refl _ W).drew
  have KDb : ∀ W : World, Keeps (fun k => k = B) W W.drew := fun W => (Keeps.refl _ W).drew
  have hsx := msource (H1.keep (KDf _) (fun e => e)) xR xN (can_x hcan rfl)
  have hyo := can_y hcan rfl
  have hop := can_op hcan rfl
  clear hcan
  go_enter Tryz.func33, Tryz.ntmps33
  go_wp2_with fail
  rw [← HW.out]
  clear HW
  go_region_held3 (fun w' => w'.cell? ⟨w.heap.size, 1, none⟩ = some (.int .i64 (dk : Int)) ∧ w'.cell? ⟨w.heap.size, 4, none⟩ = some (.bool xR) ∧ w'.cell? ⟨w.heap.size, 5, none⟩ = some (.int .i64 xN) ∧ w'.cell? ⟨w.heap.size, 6, none⟩ = some (.bool yR) ∧ w'.cell? ⟨w.heap.size, 7, none⟩ = some (.int .i64 yN) ∧ w'.cell? ⟨w.heap.size, 8, none⟩ = some (.int .i64 op)) (go_keep) (first | (go_at_call 53; refine hsy.mono ?_; clear hsy; rintro e w4 ⟨rfl, k4⟩; have K4 := KX.trans k4; have g1 := K4.cell x1 (fun e => e); have g4 := K4.cell x4 (fun e => e); have g5 := K4.cell x5 (fun e => e); have g6 := K4.cell x6 (fun e => e); have g7 := K4.cell x7 (fun e => e); have g8 := K4.cell x8 (fun e => e); have H4 := H1.keep K4 (fun e => e)) | (go_at_call 53; refine hsx.mono ?_; clear hsx; rintro e w3 ⟨rfl, k3⟩; have KX := (KDf _).trans k3; have f1 := KX.cell x1 (fun e => e); have f4 := KX.cell x4 (fun e => e); have f5 := KX.cell x5 (fun e => e); have f6 := KX.cell x6 (fun e => e); have f7 := KX.cell x7 (fun e => e); have f8 := KX.cell x8 (fun e => e); have hsy := msource (H1.keep KX (fun e => e)) yR yN hyo) | (go_at_call 54; refine (apply_any op _ _ hop _).mono ?_; rintro e w5 ⟨rfl, b5⟩; have K5 := K4.trans ⟨b5.os, b5.tape, b5.output, b5.size, fun k hk _ => b5.block k hk⟩; have l1 := K5.cell x1 (fun e => e); have l4 := K5.cell x4 (fun e => e); have l5 := K5.cell x5 (fun e => e); have l6 := K5.cell x6 (fun e => e); have l7 := K5.cell x7 (fun e => e); have l8 := K5.cell x8 (fun e => e); have H5 := H1.keep K5 (fun e => e); have r5 := H5.r dk hd16; have z5 := H5.z (2 + dk) (by omega)))
  all_goals
    go_wp2_with fail
    go_end0
    exact ⟨rfl, H5.setR (i := dk) hd16 _, (K1.trans (K5.mono (fun _ _ e => e.elim))).setA (2 + dk) _⟩
end Go.Proofs.YthchbcfecconbaaGreatDoor

namespace Go.Proofs.YthchbcfecconbaaGreatDoor
open Go.RowKit
attribute [local go_sem] Oper.semAt_some run_store_nf run_store_f
set_option maxHeartbeats 1000000 in
set_option maxRecDepth 1000000 in
theorem do_if {w : World} {B : Nat} {a ag : Option Addr} {cap cg : Nat} {os : List Int} {gs : List (Bool × Int)} {s : Rs} (hS : DoS w B a ag cap cg os gs s) (q : Ins) {N : Int} (hcan : q.can N = true) (hc : q.code = 7) : Calls Tryz.prog 33 #[.pointer (some ⟨B, 0, none⟩), .agg q.cells.toArray] w fun e w' => e = .returned (.tuple #[]) ∧ RM w' B (.slice a os.length cap) (.slice ag gs.length cg) (if hl q.rel (s.inc.sv q.xR q.xN) (s.inc.sv q.yR q.yN) = true then { s.inc with pl := q.to } else s.inc) ∧ Keeps (fun k => k = B) w w' := by
  obtain ⟨cd, dst, oR, oN, xR, xN, yR, yN, op, rel, to⟩ := q
  simp only at hc
  subst hc
  obtain ⟨h, hO, hG, h16, hrd, hp⟩ := hS
  obtain ⟨W1, hW1⟩ : ∃ W1, W1 = (w.setCell ⟨B, 51, none⟩ (.int .i64 (s.pl + 1))).alloc (.cells #[.int .i64 7, .int .i64 dst, .bool oR, .int .i64 oN, .bool xR, .int .i64 xN, .bool yR, .int .i64 yN, .int .i64 op, .int .i64 rel, .int .i64 to] 69) := ⟨_, rfl⟩
  have K1 : Keeps (fun k => k = B) w W1 := by rw [hW1]; exact ((Keeps.refl _ w).setA 51 _).alloc _
  have H1 : RM W1 B (.slice a os.length cap) (.slice ag gs.length cg) s.inc := by
    rw [hW1]; exact (h.setP (s.pl + 1)).keep (S := fun _ => False) ((Keeps.refl _ _).alloc _) (fun e => e)
  have m1 : CL W1 w.heap.size (⟨7, dst, oR, oN, xR, xN, yR, yN, op, rel, to⟩ : Ins).cells := by
    rw [hW1]
    have := CL.made (w.setCell ⟨B, 51, none⟩ (.int .i64 (s.pl + 1))) (⟨7, dst, oR, oN, xR, xN, yR, yN, op, rel, to⟩ : Ins).cells 69
    rw [show (w.setCell ⟨B, 51, none⟩ (.int .i64 (s.pl + 1))).heap.size = w.heap.size by simp] at this
    exact this
  have HW : Hid (_ = _) := hW1
  clear hW1
  have hlt := h.lt
  have nb1 : ¬ w.heap.size = B := by omega
  have nb2 : ¬ B = w.heap.size := by omega
  have c51 := h.p
  have z51 := h.z 51 (by decide)
  have hwp : IntKind.i64.wrap (s.pl + 1) = s.pl + 1 := by rw [IntKind.wrap_i64]; omega
  have hp0 := hp.1
  have hp1 := hp.2
  have hO1 := hO.keep K1
  have hG1 := hG.keep K1
  clear hp hO hG
  show Calls Tryz.prog 33 #[.pointer (some ⟨B, 0, none⟩), .agg #[.int .i64 7, .int .i64 dst, .bool oR, .int .i64 oN, .bool xR, .int .i64 xN, .bool yR, .int .i64 yN, .int .i64 op, .int .i64 rel, .int .i64 to]] w _
  have x4 := m1.c 4 _ rfl
  have x5 := m1.c 5 _ rfl
  have x6 := m1.c 6 _ rfl
  have x7 := m1.c 7 _ rfl
  have x9 := m1.c 9 _ rfl
  have x10 := m1.c 10 _ rfl
  have KDf : ∀ W : World, Keeps (fun _ => False) W W.drew := fun W => (Keeps.refl _ W).drew
  have KDb : ∀ W : World, Keeps (fun k => k = B) W W.drew := fun W => (Keeps.refl _ W).drew
  have hsx := msource (H1.keep (KDf _) (fun e => e)) xR xN (can_x hcan rfl)
  have hyo := can_y hcan rfl
  clear hcan
  generalize hv : hl rel (s.inc.sv xR xN) (s.inc.sv yR yN) = v
  cases v
  · go_enter Tryz.func33, Tryz.ntmps33
    go_wp2_with fail
    rw [← HW.out]
    clear HW
    go_region_held3 (fun w' => w'.cell? ⟨w.heap.size, 4, none⟩ = some (.bool xR) ∧ w'.cell? ⟨w.heap.size, 5, none⟩ = some (.int .i64 xN) ∧ w'.cell? ⟨w.heap.size, 6, none⟩ = some (.bool yR) ∧ w'.cell? ⟨w.heap.size, 7, none⟩ = some (.int .i64 yN) ∧ w'.cell? ⟨w.heap.size, 9, none⟩ = some (.int .i64 rel) ∧ w'.cell? ⟨w.heap.size, 10, none⟩ = some (.int .i64 to)) (go_keep) (first | (go_at_call 53; refine hsy.mono ?_; clear hsy; rintro e w4 ⟨rfl, k4⟩; have K4 := KX.trans k4; have g4 := K4.cell x4 (fun e => e); have g5 := K4.cell x5 (fun e => e); have g6 := K4.cell x6 (fun e => e); have g7 := K4.cell x7 (fun e => e); have g9 := K4.cell x9 (fun e => e); have g10 := K4.cell x10 (fun e => e); have H4 := H1.keep K4 (fun e => e)) | (go_at_call 53; refine hsx.mono ?_; clear hsx; rintro e w3 ⟨rfl, k3⟩; have KX := (KDf _).trans k3; have f4 := KX.cell x4 (fun e => e); have f5 := KX.cell x5 (fun e => e); have f6 := KX.cell x6 (fun e => e); have f7 := KX.cell x7 (fun e => e); have f9 := KX.cell x9 (fun e => e); have f10 := KX.cell x10 (fun e => e); have hsy := msource (H1.keep KX (fun e => e)) yR yN hyo) | (go_at_call 55; refine (holds_any rel _ _ _).mono ?_; rintro e w5 ⟨rfl, e5⟩; subst w5; rw [hv]))
    all_goals
      go_wp2_with fail
      go_end0
      exact ⟨rfl, H4, K1.trans (K4.mono (fun _ _ e => e.elim))⟩
  · go_enter Tryz.func33, Tryz.ntmps33
    go_wp2_with fail
    rw [← HW.out]
    clear HW
    go_region_held3 (fun w' => w'.cell? ⟨w.heap.size, 4, none⟩ = some (.bool xR) ∧ w'.cell? ⟨w.heap.size, 5, none⟩ = some (.int .i64 xN) ∧ w'.cell? ⟨w.heap.size, 6, none⟩ = some (.bool yR) ∧ w'.cell? ⟨w.heap.size, 7, none⟩ = some (.int .i64 yN) ∧ w'.cell? ⟨w.heap.size, 9, none⟩ = some (.int .i64 rel) ∧ w'.cell? ⟨w.heap.size, 10, none⟩ = some (.int .i64 to)) (go_keep) (first | (go_at_call 53; refine hsy.mono ?_; clear hsy; rintro e w4 ⟨rfl, k4⟩; have K4 := KX.trans k4; have g4 := K4.cell x4 (fun e => e); have g5 := K4.cell x5 (fun e => e); have g6 := K4.cell x6 (fun e => e); have g7 := K4.cell x7 (fun e => e); have g9 := K4.cell x9 (fun e => e); have g10 := K4.cell x10 (fun e => e); have H4 := H1.keep K4 (fun e => e)) | (go_at_call 53; refine hsx.mono ?_; clear hsx; rintro e w3 ⟨rfl, k3⟩; have KX := (KDf _).trans k3; have f4 := KX.cell x4 (fun e => e); have f5 := KX.cell x5 (fun e => e); have f6 := KX.cell x6 (fun e => e); have f7 := KX.cell x7 (fun e => e); have f9 := KX.cell x9 (fun e => e); have f10 := KX.cell x10 (fun e => e); have hsy := msource (H1.keep KX (fun e => e)) yR yN hyo) | (go_at_call 55; refine (holds_any rel _ _ _).mono ?_; rintro e w5 ⟨rfl, e5⟩; subst w5; rw [hv]))
    all_goals
      have p5 := H4.p
      have z5 := H4.z 51 (by decide)
      go_wp2_with fail
      go_end0
      exact ⟨rfl, H4.setP to, (K1.trans (K4.mono (fun _ _ e => e.elim))).setA 51 _⟩
end Go.Proofs.YthchbcfecconbaaGreatDoor

