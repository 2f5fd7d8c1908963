import Derived.Test.YtblcjohhelokkabGreatDoorMdC
import Derived.Test.YtblcjohhelokkabGreatDoorLgS
import Derived.Test.YtblcjohhelokkabGreatDoorApplied
import Derived.Test.YtblcjohhelokkabGreatDoorHolds
namespace Go.Proofs.YtblcjohhelokkabGreatDoor
open Go.RowKit
attribute [local go_sem] Oper.semAt_some run_store_nf run_store_f
def Rs.inc (s : Rs) : Rs := { s with pl := s.pl + 1 }
def Rs.setReg (s : Rs) (d : Nat) (v : Int) : Rs := { s with regs := fun k => if k = d then v else s.regs k }
def Rs.bad (s : Rs) : Rs := { s with oc := 3 }
/-- Is an object named? -/
def Rs.isO (s : Rs) (os : List Int) (q : Ins) : Prop := 0 ≤ s.sv q.oR q.oN ∧ s.sv q.oR q.oN < os.length
theorem can_obj {q : Ins} {n : Int} (h : q.can n = true) (hk : kdO q.code = true) : opk q.oR q.oN = true := by
  unfold Ins.can at h
  rw [hk] at h
  simp only [Bool.and_eq_true] at h
  have := h.2.1.1
  unfold fts at this
  simpa using this
theorem can_x {q : Ins} {n : Int} (h : q.can n = true) (hk : kdX q.code = true) : opk q.xR q.xN = true := by
  unfold Ins.can at h
  rw [hk] at h
  simp only [Bool.and_eq_true] at h
  have := h.2.1.2
  unfold fts at this
  simpa using this
theorem can_y {q : Ins} {n : Int} (h : q.can n = true) (hk : kdY q.code = true) : opk q.yR q.yN = true := by
  unfold Ins.can at h
  rw [hk] at h
  simp only [Bool.and_eq_true] at h
  have := h.2.2
  unfold fts at this
  simpa using this
theorem can_dst {q : Ins} {n : Int} (h : q.can n = true) (hk : kdD q.code = true) : 0 ≤ q.dst ∧ q.dst ≤ 15 := by
  unfold Ins.can at h
  rw [hk] at h
  simp only [Bool.and_eq_true] at h
  have := h.1.2.1.1.1
  unfold btw at this
  simpa using this
theorem can_op {q : Ins} {n : Int} (h : q.can n = true) (hk : q.code = 6) : 1 ≤ q.op ∧ q.op ≤ 12 := by
  unfold Ins.can at h
  simp only [Bool.and_eq_true] at h
  have := h.1.2.2
  rw [hk] at this
  unfold btw at this
  simpa using this
theorem can_rel {q : Ins} {n : Int} (h : q.can n = true) (hk : q.code = 7) : 1 ≤ q.rel ∧ q.rel ≤ 6 := by
  unfold Ins.can at h
  simp only [Bool.and_eq_true] at h
  have := h.1.2.1.1.2
  rw [hk] at this
  unfold btw kdR at this
  simpa using this
/-- Where an instruction is begun. -/
structure DoS (w : World) (B : Nat) (a ag : Option Addr) (cap cg : Nat) (os : List Int) (gs : List (Bool × Int)) (s : Rs) : Prop where
  m : RM w B (.slice a os.length cap) (.slice ag gs.length cg) s
  o : OBJ w B a os
  g : GIV w B ag gs
  n : os.length ≤ 16
  r : s.rd < 1000000
  p : 0 ≤ s.pl ∧ s.pl ≤ 64
set_option maxHeartbeats 1000000 in
set_option maxRecDepth 1000000 in
theorem do_goto {w : World} {B : Nat} {a ag : Option Addr} {cap cg : Nat} {os : List Int} {gs : List (Bool × Int)} {s : Rs} (hS : DoS w B a ag cap cg os gs s) (q : Ins) {N : Int} (hcan : q.can N = true) (hc : q.code = 8) : Calls Tryz.prog 23 #[.pointer (some ⟨B, 0, none⟩), .agg q.cells.toArray] w fun e w' => e = .returned (.tuple #[]) ∧ RM w' B (.slice a os.length cap) (.slice ag gs.length cg) ({ s.inc with pl := q.to }) ∧ Keeps (fun k => k = B) w w' := by
  obtain ⟨cd, dst, oR, oN, xR, xN, yR, yN, op, rel, to⟩ := q
  simp only at hc
  subst hc
  obtain ⟨h, hO, hG, h16, hrd, hp⟩ := hS
  obtain ⟨W1, hW1⟩ : ∃ W1, W1 = (w.setCell ⟨B, 51, none⟩ (.int .i64 (s.pl + 1))).alloc (.cells #[.int .i64 8, .int .i64 dst, .bool oR, .int .i64 oN, .bool xR, .int .i64 xN, .bool yR, .int .i64 yN, .int .i64 op, .int .i64 rel, .int .i64 to] 52) := ⟨_, rfl⟩
  have K1 : Keeps (fun k => k = B) w W1 := by rw [hW1]; exact ((Keeps.refl _ w).setA 51 _).alloc _
  have H1 : RM W1 B (.slice a os.length cap) (.slice ag gs.length cg) s.inc := by
    rw [hW1]; exact (h.setP (s.pl + 1)).keep (S := fun _ => False) ((Keeps.refl _ _).alloc _) (fun e => e)
  have m1 : CL W1 w.heap.size (⟨8, dst, oR, oN, xR, xN, yR, yN, op, rel, to⟩ : Ins).cells := by
    rw [hW1]
    have := CL.made (w.setCell ⟨B, 51, none⟩ (.int .i64 (s.pl + 1))) (⟨8, dst, oR, oN, xR, xN, yR, yN, op, rel, to⟩ : Ins).cells 52
    rw [show (w.setCell ⟨B, 51, none⟩ (.int .i64 (s.pl + 1))).heap.size = w.heap.size by simp] at this
    exact this
  have HW : Hid (_ = _) := hW1
  clear hW1
  have hlt := h.lt
  have nb1 : ¬ w.heap.size = B := by omega
  have nb2 : ¬ B = w.heap.size := by omega
  have c51 := h.p
  have z51 := h.z 51 (by decide)
  have hwp : IntKind.i64.wrap (s.pl + 1) = s.pl + 1 := by rw [IntKind.wrap_i64]; omega
  have hp0 := hp.1
  have hp1 := hp.2
  have hO1 := hO.keep K1
  have hG1 := hG.keep K1
  clear hp hO hG
  show Calls Tryz.prog 23 #[.pointer (some ⟨B, 0, none⟩), .agg #[.int .i64 8, .int .i64 dst, .bool oR, .int .i64 oN, .bool xR, .int .i64 xN, .bool yR, .int .i64 yN, .int .i64 op, .int .i64 rel, .int .i64 to]] w _
  clear hcan
  have t10 := m1.c 10 _ rfl
  have z1 := H1.z 51 (by decide)
  have p1 := H1.p
  go_enter Tryz.func23, Tryz.ntmps23
  go_wp2_with fail
  go_end0
  exact ⟨rfl, ((h.setP (s.pl + 1)).setP to).keep (S := fun _ => False) ((Keeps.refl _ _).alloc _) (fun e => e), (((Keeps.refl _ w).setA 51 _).setA 51 _).alloc _⟩
set_option maxHeartbeats 1000000 in
set_option maxRecDepth 1000000 in
theorem do_quit {w : World} {B : Nat} {a ag : Option Addr} {cap cg : Nat} {os : List Int} {gs : List (Bool × Int)} {s : Rs} (hS : DoS w B a ag cap cg os gs s) (q : Ins) {N : Int} (hcan : q.can N = true) (hc : q.code = 9) : Calls Tryz.prog 23 #[.pointer (some ⟨B, 0, none⟩), .agg q.cells.toArray] w fun e w' => e = .returned (.tuple #[]) ∧ RM w' B (.slice a os.length cap) (.slice ag gs.length cg) ({ s.inc with oc := 2 }) ∧ Keeps (fun k => k = B) w w' := by
  obtain ⟨cd, dst, oR, oN, xR, xN, yR, yN, op, rel, to⟩ := q
  simp only at hc
  subst hc
  obtain ⟨h, hO, hG, h16, hrd, hp⟩ := hS
  obtain ⟨W1, hW1⟩ : ∃ W1, W1 = (w.setCell ⟨B, 51, none⟩ (.int .i64 (s.pl + 1))).alloc (.cells #[.int .i64 9, .int .i64 dst, .bool oR, .int .i64 oN, .bool xR, .int .i64 xN, .bool yR, .int .i64 yN, .int .i64 op, .int .i64 rel, .int .i64 to] 52) := ⟨_, rfl⟩
  have K1 : Keeps (fun k => k = B) w W1 := by rw [hW1]; exact ((Keeps.refl _ w).setA 51 _).alloc _
  have H1 : RM W1 B (.slice a os.length cap) (.slice ag gs.length cg) s.inc := by
    rw [hW1]; exact (h.setP (s.pl + 1)).keep (S := fun _ => False) ((Keeps.refl _ _).alloc _) (fun e => e)
  have m1 : CL W1 w.heap.size (⟨9, dst, oR, oN, xR, xN, yR, yN, op, rel, to⟩ : Ins).cells := by
    rw [hW1]
    have := CL.made (w.setCell ⟨B, 51, none⟩ (.int .i64 (s.pl + 1))) (⟨9, dst, oR, oN, xR, xN, yR, yN, op, rel, to⟩ : Ins).cells 52
    rw [show (w.setCell ⟨B, 51, none⟩ (.int .i64 (s.pl + 1))).heap.size = w.heap.size by simp] at this
    exact this
  have HW : Hid (_ = _) := hW1
  clear hW1
  have hlt := h.lt
  have nb1 : ¬ w.heap.size = B := by omega
  have nb2 : ¬ B = w.heap.size := by omega
  have c51 := h.p
  have z51 := h.z 51 (by decide)
  have hwp : IntKind.i64.wrap (s.pl + 1) = s.pl + 1 := by rw [IntKind.wrap_i64]; omega
  have hp0 := hp.1
  have hp1 := hp.2
  have hO1 := hO.keep K1
  have hG1 := hG.keep K1
  clear hp hO hG
  show Calls Tryz.prog 23 #[.pointer (some ⟨B, 0, none⟩), .agg #[.int .i64 9, .int .i64 dst, .bool oR, .int .i64 oN, .bool xR, .int .i64 xN, .bool yR, .int .i64 yN, .int .i64 op, .int .i64 rel, .int .i64 to]] w _
  clear hcan
  have c52 := h.c
  have z52 := h.z 52 (by decide)
  go_enter Tryz.func23, Tryz.ntmps23
  go_wp2_with fail
  go_end0
  exact ⟨rfl, ((h.setP (s.pl + 1)).setC 2).keep (S := fun _ => False) ((Keeps.refl _ _).alloc _) (fun e => e), (((Keeps.refl _ w).setA 51 _).setA 52 _).alloc _⟩
end Go.Proofs.YtblcjohhelokkabGreatDoor
