import Derived.Test.YtdeiochjkbogpaaLocT1
import Derived.Test.YtdeiochjkbogpaaLocT2
import Derived.Test.YtdeiochjkbogpaaLocT3
import Derived.Test.YtdeiochjkbogpaaLocT4
namespace Go.Proofs.Ytdeiochjkbogpaa
open Go.RowKit
section
variable {w w' : World} {ρ ρ' : Nat → Nat} {u j q rb wb mb : Nat} {s : Ws} {m : Mm} {k : Nat}
set_option maxHeartbeats 3200000 in
set_option maxRecDepth 1000000 in
theorem does_idle (h : Rs w ρ u j q rb wb mb s m k) (o : Oq) (ho : ¬ (o.kind = 1 ∨ o.kind = 3 ∨ o.kind = 6 ∨ (8 ≤ o.kind ∧ o.kind ≤ 14))) :
    Calls Try.prog 21 #[.pointer (some ⟨rb, 0, none⟩), opv o] w fun e w' => ∃ er d n, e = .returned (.agg #[.int .i64 er, .bool d, .int .i64 n]) ∧ Done w ρ u j q rb wb mb s m k o w' er d n := by
  have HO : Hid (¬ (o.kind = 1 ∨ o.kind = 3 ∨ o.kind = 6 ∨ (8 ≤ o.kind ∧ o.kind ≤ 14))) := ho
  obtain ⟨kd, a, b, c, v, sh⟩ := o
  obtain ⟨w0, hw0⟩ : ∃ w0, w0 = (w.alloc (.cells #[.int .i64 kd, .int .i64 a, .int .i64 b, .int .i64 c, .int .i64 v.num, .int .i64 v.next, .bool v.dead, .bool sh] 70)).alloc (.cells #[.int .i64 0, .bool false, .int .i64 0] 67) := ⟨_, rfl⟩
  have K0 : Keeps (fun _ => False) w w0 := by rw [hw0]; exact ((Keeps.refl _ w).alloc _).alloc _
  have b0 : B8 w0 ρ w.heap.size ⟨kd, a, b, c, v, sh⟩ := by
    refine ⟨h.st.bnd _ (Nat.le_refl _), ?_, ?_, ?_, ?_, ?_, ?_, ?_, ?_⟩ <;> rw [hw0] <;> simp
  have r0 : R3 w0 ρ (w.heap.size + 1) := by
    refine ⟨h.st.bnd _ (by omega), ?_, ?_, ?_, fun o => ?_⟩ <;> rw [hw0] <;> simp
  have h0 := (h.new K0).1
  have X0 := (h.new K0).2
  have OP : Opn m k ⟨kd, a, b, c, v, sh⟩ m k := .inr ⟨by simp only [acc]; have : ¬ (8 ≤ kd ∧ kd ≤ 14) := fun e => ho (.inr (.inr (.inr e))); rw [← Bool.decide_and, decide_eq_false this]; rfl, rfl, rfl⟩
  have HD : Did w0 ρ u j wb mb s m ⟨kd, a, b, c, v, sh⟩ w0 0 false 0 := ⟨ρ, s, m, .idle ho, h0.st, Ext.refl _ _ h0.st.bnd⟩
  have FIN := done_end OP X0 h0 HD (B := w.heap.size + 1) (by omega) r0.lt r0.r (.int .i64 0) (.bool false) (.int .i64 0)
  have z0 := b0.c0
  have y0 := r0.c0
  have y1 := r0.c1
  have y2 := r0.c2
  have yz0 := r0.z 0
  have yz1 := r0.z 1
  have yz2 := r0.z 2
  simp only [] at ho
  have t1 : (kd == 1) = false := beq_eq_false_iff_ne.2 (by omega)
  have t3 : (kd == 3) = false := beq_eq_false_iff_ne.2 (by omega)
  have t6 : (kd == 6) = false := beq_eq_false_iff_ne.2 (by omega)
  have t8 : (kd == 8) = false := beq_eq_false_iff_ne.2 (by omega)
  have t9 : (kd == 9) = false := beq_eq_false_iff_ne.2 (by omega)
  have ta : (kd == 10) = false := beq_eq_false_iff_ne.2 (by omega)
  have tb : (kd == 11) = false := beq_eq_false_iff_ne.2 (by omega)
  have tc : (kd == 12) = false := beq_eq_false_iff_ne.2 (by omega)
  have td : (kd == 13) = false := beq_eq_false_iff_ne.2 (by omega)
  have te : (kd == 14) = false := beq_eq_false_iff_ne.2 (by omega)
  have p1 : decide (kd = 1) = false := decide_eq_false (by omega)
  have p3 : decide (kd = 3) = false := decide_eq_false (by omega)
  have p6 : decide (kd = 6) = false := decide_eq_false (by omega)
  have p8 : decide (kd = 8) = false := decide_eq_false (by omega)
  have p9 : decide (kd = 9) = false := decide_eq_false (by omega)
  have pa : decide (kd = 10) = false := decide_eq_false (by omega)
  have pb : decide (kd = 11) = false := decide_eq_false (by omega)
  have pc : decide (kd = 12) = false := decide_eq_false (by omega)
  have pd : decide (kd = 13) = false := decide_eq_false (by omega)
  have pe : decide (kd = 14) = false := decide_eq_false (by omega)
  simp only [opv]
  have FI : Hid (Done w ρ u j q rb wb mb s m k ⟨kd, a, b, c, v, sh⟩ (((w0.setCell ⟨w.heap.size + 1, 0, none⟩ (.int .i64 0)).setCell ⟨w.heap.size + 1, 1, none⟩ (.bool false)).setCell ⟨w.heap.size + 1, 2, none⟩ (.int .i64 0)) 0 false 0) := FIN
  clear FIN HD OP X0 h0 b0 r0 K0 h
  rcases Int.lt_or_le kd 8 with l8 | l8
  · have q1 : decide (8 ≤ kd) = false := decide_eq_false (by omega)
    clear ho l8
    go_enter Try.func21, Try.ntmps21
    go_wp2_with fail
    rw [← hw0]
    clear hw0
    refine (num_of _ _).mono ?_
    rintro e w' ⟨rfl, rfl⟩
    go_wp2_with fail
    (try simp only [Exit.inBlock, Exit.then])
    refine bodyPost_ret (v := .agg #[.int .i64 0, .bool false, .int .i64 0]) ?_ rfl ⟨0, false, 0, rfl, FI.out⟩
    simp [results, Try.f21, go_sem, y0, y1, y2]
  · have q1 : decide (8 ≤ kd) = true := decide_eq_true l8
    have q2 : decide (kd ≤ 14) = false := decide_eq_false (by omega)
    clear ho l8
    go_enter Try.func21, Try.ntmps21
    go_wp2_with fail
    rw [← hw0]
    clear hw0
    refine (num_of _ _).mono ?_
    rintro e w' ⟨rfl, rfl⟩
    go_wp2_with fail
    (try simp only [Exit.inBlock, Exit.then])
    refine bodyPost_ret (v := .agg #[.int .i64 0, .bool false, .int .i64 0]) ?_ rfl ⟨0, false, 0, rfl, FI.out⟩
    simp [results, Try.f21, go_sem, y0, y1, y2]
/-- Whatever is done. -/
theorem does_any (h : Rs w ρ u j q rb wb mb s m k) (hk : k ≤ 2499999999999) (o : Oq) :
    Calls Try.prog 21 #[.pointer (some ⟨rb, 0, none⟩), opv o] w fun e w' => ∃ er d n, e = .returned (.agg #[.int .i64 er, .bool d, .int .i64 n]) ∧ Done w ρ u j q rb wb mb s m k o w' er d n := by
  by_cases ho : o.kind = 1 ∨ o.kind = 3 ∨ o.kind = 6 ∨ (8 ≤ o.kind ∧ o.kind ≤ 14)
  · obtain ⟨kd, a, b, c, v, sh⟩ := o
    have e : kd = 1 ∨ kd = 3 ∨ kd = 6 ∨ kd = 8 ∨ kd = 9 ∨ kd = 10 ∨ kd = 11 ∨ kd = 12 ∨ kd = 13 ∨ kd = 14 := by simp only [] at ho; omega
    rcases e with rfl | rfl | rfl | rfl | rfl | rfl | rfl | rfl | rfl | rfl <;> cases sh
    · exact does_1_false h hk a b c v
    · exact does_1_true h hk a b c v
    · exact does_3_false h hk a b c v
    · exact does_3_true h hk a b c v
    · exact does_6_false h hk a b c v
    · exact does_6_true h hk a b c v
    · exact does_8_false h hk a b c v
    · exact does_8_true h hk a b c v
    · exact does_9_false h hk a b c v
    · exact does_9_true h hk a b c v
    · exact does_10_false h hk a b c v
    · exact does_10_true h hk a b c v
    · exact does_11_false h hk a b c v
    · exact does_11_true h hk a b c v
    · exact does_12_false h hk a b c v
    · exact does_12_true h hk a b c v
    · exact does_13_false h hk a b c v
    · exact does_13_true h hk a b c v
    · exact does_14_false h hk a b c v
    · exact does_14_true h hk a b c v
  · exact does_idle h o ho
end
end Go.Proofs.Ytdeiochjkbogpaa
