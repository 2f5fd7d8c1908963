import Derived.Test.YtkkldbellngalaaRefCelT
namespace Go.Proofs.Ytkkldbellngalaa
open Go.RowKit

set_option maxHeartbeats 3200000 in
set_option maxRecDepth 1000000 in
theorem took_any {w : World} {mb : Nat} {s : Mm} {B : List Nat} (h : MI w mb s B) (hh : s.had) (hl : s.log.length ≤ 4611686018427387903) :
    Calls Try.prog 34 #[.pointer (some ⟨mb, 0, none⟩)] w fun e w' => e = .returned (.agg #[.int .i64 s.took.step, .int .i64 s.took.thread, .int .i64 s.took.kind, .int .i64 s.took.cell, .int .i64 s.took.seen, .int .i64 s.took.wrote, .bool s.took.done]) ∧ Keeps (fun _ => False) w w' := by
  obtain ⟨vc, vl, h, rfl⟩ := h
  have hpq := peq mb
  have K0 : ∀ o, Keeps (fun _ => False) w (w.alloc o) := fun o => (Keeps.refl _ w).alloc o
  have f3 : ∀ o, (w.alloc o).cell? ⟨mb, 4, none⟩ = some (.bool s.begun) := fun o => (K0 o).cell h.f4 (fun e => e)
  have f5 : ∀ o, (w.alloc o).cell? ⟨mb, 5, none⟩ = some (.bool s.free) := fun o => (K0 o).cell h.f5 (fun e => e)
  cases hb : s.begun with
  | false =>
    have e : s.took = rw0 := by simp [Mm.took, hb]
    rw [e]
    rw [hb] at f3
    clear h f5 hh
    go_enter Try.func34, Try.ntmps34
    go_wp2_with fail
    (try simp only [Exit.inBlock, Exit.then])
    refine bodyPost_ret (v := .agg #[.int .i64 0, .int .i64 0, .int .i64 0, .int .i64 0, .int .i64 0, .int .i64 0, .bool false]) ?_ rfl ⟨rfl, K0 _⟩
    simp [results, Try.f34, go_sem]
  | true =>
    rw [hb] at f3
    cases hf : s.free with
    | true =>
      have e : s.took = rw0 := by simp [Mm.took, hf]
      rw [e]
      rw [hf] at f5
      clear h hh
      go_enter Try.func34, Try.ntmps34
      go_wp2_with fail
      (try simp only [Exit.inBlock, Exit.then])
      refine bodyPost_ret (v := .agg #[.int .i64 0, .int .i64 0, .int .i64 0, .int .i64 0, .int .i64 0, .int .i64 0, .bool false]) ?_ rfl ⟨rfl, K0 _⟩
      simp [results, Try.f34, go_sem]
    | false =>
      have hp := hh hb hf
      have e : s.took = ra s.log (s.log.length - 1) := by simp [Mm.took, hb, hf]
      rw [e]
      rw [hf] at f5
      obtain ⟨ag, cg, hvg, hsg⟩ := owns_slice h.rl
      obtain ⟨gg, hag, hgg⟩ := hsg hp
      have f2 : ∀ o, (w.alloc o).cell? ⟨mb, 1, none⟩ = some (.slice (some ⟨gg, 0, none⟩) s.log.length cg) := fun o => by
        have := (K0 o).cell h.f1 (fun e => e); rw [hvg, hag] at this; exact this
      have R := owns_row h.rl hgg (i := s.log.length - 1) (by omega)
      obtain ⟨w0, hw0⟩ : ∃ w0, w0 = w.alloc (.cells #[.int .i64 0, .int .i64 0, .int .i64 0, .int .i64 0, .int .i64 0, .int .i64 0, .bool false] 70) := ⟨_, rfl⟩
      have R0 : RowAt w0 gg ((s.log.length - 1) * 7) (ra s.log (s.log.length - 1)) := by rw [hw0]; exact R.keep (K0 _) (fun e => e)
      have B0 : RowAt w0 w.heap.size 0 rw0 := by rw [hw0]; constructor <;> simp [rw0]
      have Z0 : ∀ o, w0.frozen? ⟨w.heap.size, o, none⟩ = false := fun o => by rw [hw0]; simp
      have KW : Keeps (fun _ => False) w w0 := by rw [hw0]; exact K0 _
      have g2 : w0.cell? ⟨mb, 1, none⟩ = some (.slice (some ⟨gg, 0, none⟩) s.log.length cg) := by rw [hw0]; exact f2 _
      have lg : gg < w.heap.size := owns_lt' h.rl gg hgg
      have r0 := R0.r0
      have r1 := R0.r1
      have r2 := R0.r2
      have r3 := R0.r3
      have r4 := R0.r4
      have r5 := R0.r5
      have r6 := R0.r6
      have b0' := B0.r0
      have b1 := B0.r1
      have b2 := B0.r2
      have b3 := B0.r3
      have b4 := B0.r4
      have b5 := B0.r5
      have b6 := B0.r6
      simp only [rw0, Nat.zero_add] at b0' b1 b2 b3 b4 b5 b6
      have hne : (s.log.length == 0) = false := beq_eq_false_iff_ne.2 (by omega)
      have hneI : ((s.log.length : Int) == 0) = false := beq_eq_false_iff_ne.2 (by omega)
      have hpw : IntKind.i64.wrap ((s.log.length : Int) - 1) = (s.log.length : Int) - 1 := by rw [IntKind.wrap_i64]; omega
      have hpn : ((s.log.length : Int) - 1).toNat = s.log.length - 1 := by omega
      have hp0 : (0 : Int) ≤ (s.log.length : Int) - 1 := by omega
      have hp1 : (s.log.length : Int) - 1 < (s.log.length : Int) := by omega
      have hq1 : (1 : Int) ≤ (s.log.length : Int) := by omega
      have hp2 : s.log.length - 1 < s.log.length := by omega
      have hm1 : 1 ≤ s.log.length := by omega
      have nn : ¬ gg = w.heap.size := by omega
      generalize ra s.log (s.log.length - 1) = r at *
      generalize s.log.length = nl at *
      clear h hh R R0 B0 hvg hag hgg hb hf e
      go_enter Try.func34, Try.ntmps34
      go_wp2_with fail
      rw [← hw0]
      clear hw0 f2 f3 f5
      go_region
      all_goals
        (try simp only [Exit.then])
        go_wp2_with fail
        (try simp only [Exit.inBlock, Exit.then])
        refine bodyPost_ret (v := .agg #[.int .i64 r.step, .int .i64 r.thread, .int .i64 r.kind, .int .i64 r.cell, .int .i64 r.seen, .int .i64 r.wrote, .bool r.done]) ?_ rfl ⟨rfl, ?_⟩
        · simp [results, Try.f34, go_sem, b0', b1, b2, b3, b4, b5, b6]
        · exact (KW.trans' (keeps_set7 w0 w.heap.size (.int .i64 r.step) (.int .i64 r.thread) (.int .i64 r.kind) (.int .i64 r.cell) (.int .i64 r.seen) (.int .i64 r.wrote) (.bool r.done)) (fun _ _ e => e) (fun i hi e => by omega)).drew
end Go.Proofs.Ytkkldbellngalaa
