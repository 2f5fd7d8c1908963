import Derived.Test.YtaikngpgmcpecaaGreatRefCelP
import Derived.Test.YtaikngpgmcpecaaGreatRefCelB
namespace Go.Proofs.YtaikngpgmcpecaaGreat
open Go.RowKit

set_option maxHeartbeats 1600000 in
set_option maxRecDepth 1000000 in
theorem raccess_not {w : World} {rb : Nat} {s : Mm} {B : Nat → Prop} (h : RI w rb s B) {c : Int} (kn : Int) (hc : s.there c = false) :
    Calls Tryz.prog 101 #[.pointer (some ⟨rb, 0, none⟩), .int .i64 kn, .int .i64 c] w fun e w' =>
      e = .returned (.tuple #[.agg #[.int .i64 0, .int .i64 0, .int .i64 0, .int .i64 0, .int .i64 0, .int .i64 0, .bool false], .int .i64 30]) ∧ Keeps (fun _ => False) w w' := by
  have K0 : ∀ o, Keeps (fun _ => False) w (w.alloc o) := fun o => (Keeps.refl _ w).alloc _
  have hh := fun o => rthere_any (h.new (K0 o)) c
  rw [hc] at hh
  clear h
  go_enter Tryz.func101, Tryz.ntmps101
  go_wp2_with (go_at_call 105; refine (hh _).mono ?_; rintro e w' ⟨rfl, rfl⟩)
  (try simp only [Exit.inBlock, Exit.then])
  refine bodyPost_ret (v := .tuple #[.agg #[.int .i64 0, .int .i64 0, .int .i64 0, .int .i64 0, .int .i64 0, .int .i64 0, .bool false], .int .i64 30]) ?_ rfl ⟨rfl, ?_⟩
  · rw [results_cell_tmp rfl]
    go_simp
  · exact K0 _

set_option maxHeartbeats 1600000 in
set_option maxRecDepth 1000000 in
theorem raccess_closed {w : World} {rb : Nat} {s : Mm} {B : Nat → Prop} (h : RI w rb s B) {c : Int} (kn : Int) (hc : s.there c = true) (hf : s.free = false) :
    Calls Tryz.prog 101 #[.pointer (some ⟨rb, 0, none⟩), .int .i64 kn, .int .i64 c] w fun e w' =>
      e = .returned (.tuple #[.agg #[.int .i64 0, .int .i64 0, .int .i64 0, .int .i64 0, .int .i64 0, .int .i64 0, .bool false], .int .i64 31]) ∧ Keeps (fun _ => False) w w' := by
  have K0 : ∀ o, Keeps (fun _ => False) w (w.alloc o) := fun o => (Keeps.refl _ w).alloc _
  have hh := fun o => rthere_any (h.new (K0 o)) c
  rw [hc] at hh
  obtain ⟨vf, vr, vg, rvs, ρ, h, _, _, rfl⟩ := h
  have f5 : ∀ o, (w.alloc o).cell? ⟨rb, 5, none⟩ = some (.bool true) := fun o => by have := (h.new (K0 o)).f5; rw [hf] at this; exact this
  clear h
  go_enter Tryz.func101, Tryz.ntmps101
  go_wp2_with (go_at_call 105; refine (hh _).mono ?_; rintro e w' ⟨rfl, rfl⟩)
  (try simp only [Exit.inBlock, Exit.then])
  refine bodyPost_ret (v := .tuple #[.agg #[.int .i64 0, .int .i64 0, .int .i64 0, .int .i64 0, .int .i64 0, .int .i64 0, .bool false], .int .i64 31]) ?_ rfl ⟨rfl, ?_⟩
  · rw [results_cell_tmp rfl]
    go_simp
  · exact K0 _

set_option maxHeartbeats 3200000 in
set_option maxRecDepth 1000000 in
theorem raccess_ok {w : World} {rb : Nat} {s : Mm} {B : Nat → Prop} (h : RI w rb s B) {c : Nat} (kn : Int) (hc : c < s.cells.length) (hf : s.free = true) (hb : s.begun = true) (hl : s.log.length ≤ 4611686018427387903) :
    Calls Tryz.prog 101 #[.pointer (some ⟨rb, 0, none⟩), .int .i64 kn, .int .i64 (c : Int)] w fun e w' =>
      e = .returned (.tuple #[.agg #[.int .i64 s.step, .int .i64 s.thread, .int .i64 kn, .int .i64 (c : Int), .int .i64 (behv s c (ix s.log c).length), .int .i64 0, .bool true], .int .i64 0]) ∧ Keeps (fun _ => False) w w' := by
  obtain ⟨w0, hw0⟩ : ∃ w0, w0 = w.alloc (.cells #[.int .i64 0, .int .i64 0, .int .i64 0, .int .i64 0, .int .i64 0, .int .i64 0, .bool false] 93) := ⟨_, rfl⟩
  have K0 : Keeps (fun _ => False) w w0 := by rw [hw0]; exact (Keeps.refl _ w).alloc _
  have B0 : RowAt w0 w.heap.size 0 rw0 := by rw [hw0]; constructor <;> simp [rw0]
  have Z0 : ∀ o, w0.frozen? ⟨w.heap.size, o, none⟩ = false := fun o => by rw [hw0]; simp
  have lW : w.heap.size < w0.heap.size := by rw [hw0]; simp
  have ht := rthere_any (h.new K0) (c : Int)
  rw [there_ok hc] at ht
  have hh := rheld_any ((h.new K0).new ((Keeps.refl (fun _ => False) w0).drew)) hc hl
  obtain ⟨vf, vr, vg, rvs, ρ, h, _, _, rfl⟩ := h
  have f3 := (h.new K0).f3
  have f4 := (h.new K0).f4
  have f5 := (h.new K0).f5
  rw [hf] at f5
  rw [hb] at f3
  simp only [Bool.not_true] at f5
  simp only [if_true] at f3
  have b0 := B0.r0
  have b1 := B0.r1
  have b2 := B0.r2
  have b3 := B0.r3
  have b4 := B0.r4
  have b5 := B0.r5
  have b6 := B0.r6
  simp only [rw0, Nat.zero_add] at b0 b1 b2 b3 b4 b5 b6
  have nb1 : ¬ w.heap.size = rb := by have := h.ltb; omega
  have nb2 : ¬ rb = w.heap.size := Ne.symm nb1
  clear h B0
  generalize behv s c (ix s.log c).length = v at *
  have HK : Hid (Keeps (fun _ => False) w w0) := K0
  go_enter Tryz.func101, Tryz.ntmps101
  go_wp2_with fail
  rw [← hw0]
  clear hw0
  go_wp2_with (go_at_call 105; refine ht.mono ?_; clear ht; rintro e w0 ⟨rfl, rfl⟩)
  go_region_held3 (fun w' => w'.cell? ⟨rb, 3, none⟩ = some (.int .i64 s.step) ∧ w'.cell? ⟨rb, 4, none⟩ = some (.int .i64 s.thread)) (go_keep) ((go_at_call 106; refine hh.mono ?_; clear hh; rintro e w2 ⟨rfl, k⟩; have k' : Keeps (fun _ => False) w0 w2 := (⟨k.os, k.tape, k.output, k.size, k.block⟩); have c3 := k'.cell f3 (fun e => e); have c4 := k'.cell f4 (fun e => e); have z2 := fun o => (k'.frozen (p := ⟨w.heap.size, o, none⟩) lW (fun e => e)).trans (Z0 o); have d0 := k'.cell b0 (fun e => e); have d1 := k'.cell b1 (fun e => e); have d2 := k'.cell b2 (fun e => e); have d3 := k'.cell b3 (fun e => e); have d4 := k'.cell b4 (fun e => e); have d5 := k'.cell b5 (fun e => e); have d6 := k'.cell b6 (fun e => e)))
  all_goals
    go_wp2_with fail
    (try simp only [Exit.inBlock, Exit.then])
    refine bodyPost_ret (v := .tuple #[.agg #[.int .i64 s.step, .int .i64 s.thread, .int .i64 kn, .int .i64 (c : Int), .int .i64 v, .int .i64 0, .bool true], .int .i64 0]) ?_ rfl ⟨rfl, ?_⟩
    · rw [results_cell_tmp rfl]
      go_simp
    · have K7 := keeps_set7 w2 w.heap.size (.int .i64 s.step) (.int .i64 s.thread) (.int .i64 kn) (.int .i64 (c : Int)) (.int .i64 v) (.int .i64 0) (.bool true)
      exact (HK.out.trans k').trans' K7 (fun _ _ e => e) (fun k hk e => by omega)
end Go.Proofs.YtaikngpgmcpecaaGreat
