import Derived.Test.YtaikngpgmcpecaaGreatRefCelSt
namespace Go.Proofs.YtaikngpgmcpecaaGreat
open Go.RowKit

theorem int64Info : (Tryz.prog.info? 2).map (fun i => (i.zero, i.size, i.bytes)) = some (some (.int .i64 0), 1, 8) := by kernel_rfl
theorem intInfo : (Tryz.prog.info? 3).map (fun i => (i.zero, i.size, i.bytes)) = some (some (.int .i64 0), 1, 8) := by kernel_rfl
theorem intsInfo : (Tryz.prog.info? 67).map (fun i => (i.zero, i.size, i.bytes)) = some (some (.slice none 0 0), 1, 24) := by kernel_rfl
theorem rrowInfo : (Tryz.prog.info? 93).map (fun i => (i.zero, i.size, i.bytes)) = some (some (rv rw0), 7, 56) := by kernel_rfl
theorem underInt64s : Tryz.prog.underlying 89 = some (.slice 2) := by kernel_rfl
theorem underInts : Tryz.prog.underlying 67 = some (.slice 3) := by kernel_rfl
theorem underIntss : Tryz.prog.underlying 90 = some (.slice 67) := by kernel_rfl
theorem underRRows : Tryz.prog.underlying 42 = some (.slice 93) := by kernel_rfl

set_option maxHeartbeats 800000 in
set_option maxRecDepth 1000000 in
theorem rnew_any (w : World) : Calls Tryz.prog 23 #[] w fun e w' => e = .returned (.pointer (some ⟨w.heap.size, 0, none⟩)) ∧ RI w' w.heap.size Mm.new (fun k => k = w.heap.size) ∧ Keeps (fun _ => False) w w' := by
  go_enter Tryz.func23, Tryz.ntmps23
  go_wp2
  go_ret
  refine ⟨rfl, ⟨.slice none 0 0, .slice none 0 0, .slice none 0 0, [], fun _ => 0, ⟨by simp, by simp, by simp, by simp [Mm.new], by simp [Mm.new], by simp [Mm.new], fun o _ => by simp, World.ownsRow_nil _ _ _ _, World.ownsRow_nil _ _ _ _, World.ownsRow_nil _ _ _ _, (fun c hc => by cases hc), rfl, (fun g e => by cases e), (fun g e => by cases e), (fun g e => by cases e), (fun c hc => by cases hc)⟩, rfl, (fun c _ => rfl), ?_⟩, (Keeps.refl _ w).alloc _⟩
  funext k
  simp [RB, Value.ownBlock]

set_option maxHeartbeats 800000 in
set_option maxRecDepth 1000000 in
theorem rsize_any {w : World} {rb : Nat} {s : Mm} {B : Nat → Prop} (h : RI w rb s B) : Calls Tryz.prog 12 #[.pointer (some ⟨rb, 0, none⟩)] w fun e w' => e = .returned (.int .i64 s.cells.length) ∧ w' = w := by
  obtain ⟨vf, vr, vg, rvs, ρ, h, hn, hi, rfl⟩ := h
  obtain ⟨a, cap, rfl, _⟩ := owns_slice h.rf
  have f0 := h.f0
  go_enter Tryz.func12, Tryz.ntmps12
  go_wp2
  go_ret
  exact ⟨rfl, rfl⟩
set_option maxHeartbeats 800000 in
set_option maxRecDepth 1000000 in
theorem rthere_any {w : World} {rb : Nat} {s : Mm} {B : Nat → Prop} (h : RI w rb s B) (c : Int) : Calls Tryz.prog 105 #[.pointer (some ⟨rb, 0, none⟩), .int .i64 c] w fun e w' => e = .returned (.bool (s.there c)) ∧ w' = w := by
  obtain ⟨vf, vr, vg, rvs, ρ, h, hn, hi, rfl⟩ := h
  obtain ⟨a, cap, rfl, _⟩ := owns_slice h.rf
  have f0 := h.f0
  clear h
  by_cases h0 : 0 ≤ c
  · have h0' : decide (0 ≤ c) = true := by simp [h0]
    have e : s.there c = decide (c < (s.cells.length : Int)) := by simp [Mm.there, h0]
    rw [e]
    clear e h0
    go_enter Tryz.func105, Tryz.ntmps105
    go_wp2_with fail
    go_ret
    exact ⟨rfl, rfl⟩
  · have h0' : decide (0 ≤ c) = false := by simp [h0]
    have e : s.there c = false := by simp [Mm.there]; omega
    rw [e]
    go_enter Tryz.func105, Tryz.ntmps105
    go_wp2_with fail
    go_ret
    exact ⟨rfl, rfl⟩

set_option maxHeartbeats 1600000 in
set_option maxRecDepth 1000000 in
theorem rmake_full {w : World} {rb : Nat} {s : Mm} {B : Nat → Prop} (h : RI w rb s B) (x : Int) (hl : 65536 ≤ s.cells.length) :
    Calls Tryz.prog 72 #[.pointer (some ⟨rb, 0, none⟩), .int .i64 x] w fun e w' => e = .returned (.tuple #[.int .i64 0, .int .i64 33]) ∧ w' = w := by
  obtain ⟨vf, vr, vg, rvs, ρ, h, hn, hi, rfl⟩ := h
  obtain ⟨a, cap, rfl, _⟩ := owns_slice h.rf
  have f0 := h.f0
  have hlI' : (65536 : Int) ≤ (s.cells.length : Int) := by omega
  clear h hn hi
  go_enter Tryz.func72, Tryz.ntmps72
  go_wp2_with fail
  go_ret2
  exact ⟨rfl, rfl⟩

/-- Steps are never below 0. -/
def Mm.sane (s : Mm) : Prop := s.begun = true → 0 ≤ s.step

set_option maxHeartbeats 1600000 in
set_option maxRecDepth 1000000 in
theorem rbegin_ok {w : World} {rb : Nat} {s : Mm} {B : Nat → Prop} (h : RI w rb s B) (st th : Int) (hm : s.may st th = true) :
    Calls Tryz.prog 28 #[.pointer (some ⟨rb, 0, none⟩), .int .i64 st, .int .i64 th] w fun e w' => e = .returned (.int .i64 0) ∧ RI w' rb (s.begin st th) B ∧ LeftP w w' B B := by
  obtain ⟨vf, vr, vg, rvs, ρ, h, hn, hi, rfl⟩ := h
  have c3 := h.f3
  have c4 := h.f4
  have c5 := h.f5
  have z3 := h.z 3 (by omega)
  have z4 := h.z 4 (by omega)
  have z5 := h.z 5 (by omega)
  have h1 := h.field (s' := { s with step := st, begun := true }) 3 (.int .i64 st) (by omega) rfl (fun _ => by simp) (fun e => absurd rfl e) (fun e => by omega) (fun _ => rfl) (fun e => by omega) (fun _ => rfl)
  have h2 := h1.field (s' := { s with step := st, begun := true, thread := th }) 4 (.int .i64 th) (by omega) rfl (fun e => by omega) (fun _ => rfl) (fun _ => rfl) (fun e => absurd rfl e) (fun e => by omega) (fun _ => rfl)
  have h3 := h2.field (s' := s.begin st th) 5 (.bool false) (by omega) rfl (fun e => by omega) (fun _ => rfl) (fun e => by omega) (fun _ => rfl) (fun _ => rfl) (fun e => absurd rfl e)
  have k3 : Keeps (fun k => k = rb) w (((w.setCell ⟨rb, 3, none⟩ (.int .i64 st)).setCell ⟨rb, 4, none⟩ (.int .i64 th)).setCell ⟨rb, 5, none⟩ (.bool false)) := ((keeps_set _ _ _ _).trans (keeps_set _ _ _ _)).trans (keeps_set _ _ _ _)
  have FI : Hid (RI (((w.setCell ⟨rb, 3, none⟩ (.int .i64 st)).setCell ⟨rb, 4, none⟩ (.int .i64 th)).setCell ⟨rb, 5, none⟩ (.bool false)) rb (s.begin st th) (RB rb vf vr vg rvs) ∧ LeftP w (((w.setCell ⟨rb, 3, none⟩ (.int .i64 st)).setCell ⟨rb, 4, none⟩ (.int .i64 th)).setCell ⟨rb, 5, none⟩ (.bool false)) (RB rb vf vr vg rvs) (RB rb vf vr vg rvs)) :=
    ⟨⟨vf, vr, vg, rvs, ρ, h3, hn, hi, rfl⟩, k3.mono (fun _ _ e => .inl e), fun _ e => .inl e⟩
  clear h h1 h2 h3 k3 hn hi
  simp only [Mm.may, Bool.and_eq_true, decide_eq_true_eq] at hm
  obtain ⟨⟨m1, m2⟩, m3⟩ := hm
  have b1 : decide (st < 0) = false := by simp; omega
  have b2 : decide (th < 0) = false := by simp; omega
  have b3 : decide (st ≤ (if s.begun then s.step else -1)) = false := by
    cases hb : s.begun with
    | false => simp; omega
    | true => rw [hb] at m3; simpa using m3
  clear m1 m2 m3
  generalize (if s.begun then s.step else -1) = sp at *
  go_enter Tryz.func28, Tryz.ntmps28
  go_wp2_with fail
  go_ret
  exact ⟨rfl, FI.out⟩
set_option maxHeartbeats 1600000 in
set_option maxRecDepth 1000000 in
theorem rbegin_not {w : World} {rb : Nat} {s : Mm} {B : Nat → Prop} (h : RI w rb s B) (st th : Int) (hm : s.may st th = false) :
    Calls Tryz.prog 28 #[.pointer (some ⟨rb, 0, none⟩), .int .i64 st, .int .i64 th] w fun e w' => e = .returned (.int .i64 32) ∧ w' = w := by
  obtain ⟨vf, vr, vg, rvs, ρ, h, hn, hi, rfl⟩ := h
  have c3 := h.f3
  clear h hn hi
  by_cases m1 : 0 ≤ st
  · have b1 : decide (st < 0) = false := by simp; omega
    by_cases m2 : 0 ≤ th
    · have b2 : decide (th < 0) = false := by simp; omega
      simp only [Mm.may, m1, m2, decide_true, Bool.true_and, Bool.not_eq_false', Bool.and_eq_true, decide_eq_true_eq] at hm
      obtain ⟨e, m3⟩ := hm
      rw [e] at c3
      simp only [if_true] at c3
      have b3 : decide (st ≤ s.step) = true := by simp [m3]
      clear m1 m2 m3
      go_enter Tryz.func28, Tryz.ntmps28
      go_wp2_with fail
      go_ret
      exact ⟨rfl, rfl⟩
    · have b2 : decide (th < 0) = true := by simp; omega
      clear m1 m2 hm
      go_enter Tryz.func28, Tryz.ntmps28
      go_wp2_with fail
      go_ret
      exact ⟨rfl, rfl⟩
  · have b1 : decide (st < 0) = true := by simp; omega
    clear m1 hm
    go_enter Tryz.func28, Tryz.ntmps28
    go_wp2_with fail
    go_ret
    exact ⟨rfl, rfl⟩
end Go.Proofs.YtaikngpgmcpecaaGreat
