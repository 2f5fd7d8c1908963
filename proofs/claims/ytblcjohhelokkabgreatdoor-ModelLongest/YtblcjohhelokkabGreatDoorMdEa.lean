import Derived.Test.YtblcjohhelokkabGreatDoorMdD
namespace Go.Proofs.YtblcjohhelokkabGreatDoor
open Go.RowKit
attribute [local go_sem] Oper.semAt_some run_store_nf run_store_f
set_option maxHeartbeats 1000000 in
set_option maxRecDepth 1000000 in
theorem do_let {w : World} {B : Nat} {a ag : Option Addr} {cap cg : Nat} {os : List Int} {gs : List (Bool × Int)} {s : Rs} (hS : DoS w B a ag cap cg os gs s) (q : Ins) {N : Int} (hcan : q.can N = true) (hc : q.code = 5) : Calls Tryz.prog 23 #[.pointer (some ⟨B, 0, none⟩), .agg q.cells.toArray] w fun e w' => e = .returned (.tuple #[]) ∧ RM w' B (.slice a os.length cap) (.slice ag gs.length cg) (s.inc.setReg q.dst.toNat (s.inc.sv q.xR q.xN)) ∧ Keeps (fun k => k = B) w w' := by
  obtain ⟨cd, dst, oR, oN, xR, xN, yR, yN, op, rel, to⟩ := q
  simp only at hc
  subst hc
  obtain ⟨h, hO, hG, h16, hrd, hp⟩ := hS
  obtain ⟨W1, hW1⟩ : ∃ W1, W1 = (w.setCell ⟨B, 51, none⟩ (.int .i64 (s.pl + 1))).alloc (.cells #[.int .i64 5, .int .i64 dst, .bool oR, .int .i64 oN, .bool xR, .int .i64 xN, .bool yR, .int .i64 yN, .int .i64 op, .int .i64 rel, .int .i64 to] 52) := ⟨_, rfl⟩
  have K1 : Keeps (fun k => k = B) w W1 := by rw [hW1]; exact ((Keeps.refl _ w).setA 51 _).alloc _
  have H1 : RM W1 B (.slice a os.length cap) (.slice ag gs.length cg) s.inc := by
    rw [hW1]; exact (h.setP (s.pl + 1)).keep (S := fun _ => False) ((Keeps.refl _ _).alloc _) (fun e => e)
  have m1 : CL W1 w.heap.size (⟨5, dst, oR, oN, xR, xN, yR, yN, op, rel, to⟩ : Ins).cells := by
    rw [hW1]
    have := CL.made (w.setCell ⟨B, 51, none⟩ (.int .i64 (s.pl + 1))) (⟨5, dst, oR, oN, xR, xN, yR, yN, op, rel, to⟩ : Ins).cells 52
    rw [show (w.setCell ⟨B, 51, none⟩ (.int .i64 (s.pl + 1))).heap.size = w.heap.size by simp] at this
    exact this
  have HW : Hid (_ = _) := hW1
  clear hW1
  have hlt := h.lt
  have nb1 : ¬ w.heap.size = B := by omega
  have nb2 : ¬ B = w.heap.size := by omega
  have c51 := h.p
  have z51 := h.z 51 (by decide)
  have hwp : IntKind.i64.wrap (s.pl + 1) = s.pl + 1 := by rw [IntKind.wrap_i64]; omega
  have hp0 := hp.1
  have hp1 := hp.2
  have hO1 := hO.keep K1
  have hG1 := hG.keep K1
  clear hp hO hG
  show Calls Tryz.prog 23 #[.pointer (some ⟨B, 0, none⟩), .agg #[.int .i64 5, .int .i64 dst, .bool oR, .int .i64 oN, .bool xR, .int .i64 xN, .bool yR, .int .i64 yN, .int .i64 op, .int .i64 rel, .int .i64 to]] w _
  obtain ⟨dk, rfl⟩ : ∃ dk : Nat, dst = (dk : Int) := ⟨dst.toNat, by have := can_dst hcan rfl; simp only at this; omega⟩
  have hd16 : dk < 16 := by have := can_dst hcan rfl; simp only at this; omega
  have hd0 : (0 : Int) ≤ (dk : Int) := by omega
  have hd1 : (dk : Int) < 16 := by omega
  have hs := msource (H1.keep (S := fun _ => False) (Keeps.refl _ W1).drew (fun e => e)) xR xN (can_x hcan rfl)
  clear hcan
  have x1 := m1.c 1 _ rfl
  have x4 := m1.c 4 _ rfl
  have x5 := m1.c 5 _ rfl
  have KD : Keeps (fun _ => False) W1 W1.drew := (Keeps.refl _ W1).drew
  go_enter Tryz.func23, Tryz.ntmps23
  go_wp2_with fail
  rw [← HW.out]
  clear HW
  go_region_held3 (fun w' => w'.cell? ⟨w.heap.size, 1, none⟩ = some (.int .i64 (dk : Int)) ∧ w'.cell? ⟨w.heap.size, 4, none⟩ = some (.bool xR) ∧ w'.cell? ⟨w.heap.size, 5, none⟩ = some (.int .i64 xN)) (go_keep) (first | (go_at_call 37; refine hs.mono ?_; clear hs; rintro e w2 ⟨rfl, k2⟩; have K2 := KD.trans k2; have d1 := K2.cell x1 (fun e => e); have d4 := K2.cell x4 (fun e => e); have d5 := K2.cell x5 (fun e => e); have H2 := H1.keep K2 (fun e => e); have r2 := H2.r dk hd16; have z2 := H2.z (2 + dk) (by omega)))
  all_goals
    go_wp2_with fail
    go_end0
    exact ⟨rfl, H2.setR (i := dk) hd16 (s.inc.sv xR xN), (K1.trans (K2.mono (fun _ _ e => e.elim))).setA (2 + dk) _⟩
end Go.Proofs.YtblcjohhelokkabGreatDoor
