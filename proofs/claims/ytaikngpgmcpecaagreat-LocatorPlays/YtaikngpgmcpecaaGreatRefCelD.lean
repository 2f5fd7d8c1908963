import Derived.Test.YtaikngpgmcpecaaGreatRefCelC
namespace Go.Proofs.YtaikngpgmcpecaaGreat
open Go.RowKit

set_option maxHeartbeats 3200000 in
set_option maxRecDepth 1000000 in
theorem rload_ok {w : World} {rb : Nat} {s : Mm} {B : Nat → Prop} (h : RI w rb s B) {c : Nat} (hc : c < s.cells.length) (hf : s.free = true) (hb : s.begun = true) (hl : (s.log.length + 1) * 56 ≤ 140737488355328) :
    Calls Tryz.prog 83 #[.pointer (some ⟨rb, 0, none⟩), .int .i64 (c : Int)] w fun e w' =>
      e = .returned (.tuple #[.int .i64 (behv s c (ix s.log c).length), .int .i64 0]) ∧ ∃ B', RI w' rb { s with log := s.log ++ [⟨s.step, s.thread, 1, (c : Int), behv s c (ix s.log c).length, (behv s c (ix s.log c).length), true⟩], free := false } B' ∧ LeftP w w' B B' := by
  have ha := raccess_ok h 1 hc hf hb (by omega)
  generalize behv s c (ix s.log c).length = v at *
  have HP : Hid (∀ (W : World) (_ : Keeps (fun _ => False) w W), Calls Tryz.prog 102 #[.pointer (some ⟨rb, 0, none⟩), .agg #[.int .i64 s.step, .int .i64 s.thread, .int .i64 1, .int .i64 (c : Int), .int .i64 v, .int .i64 v, .bool true]] W fun e w' =>
      e = .returned (.tuple #[]) ∧ ∃ B', RI w' rb { s with log := s.log ++ [⟨s.step, s.thread, 1, (c : Int), v, v, true⟩], free := false } B' ∧ LeftP W w' B B') := fun W K => rput_any (h.new K) ⟨s.step, s.thread, 1, (c : Int), v, v, true⟩ hc rfl hl
  have HL : Hid (∀ k, B k → k < w.heap.size) := fun k hk => RI.lt h hk
  clear h hf hb
  go_enter Tryz.func83, Tryz.ntmps83
  go_wp2_with (go_at_call 101; refine ha.mono ?_; clear ha; rintro e w1 ⟨rfl, k1⟩)
  go_at_call 102
  have l1 := k1.size
  refine (HP.out _ (k1.alloc _)).mono ?_
  rintro e w2 ⟨rfl, B', H2, L2⟩
  have c4 := L2.keeps.cell (p := ⟨w1.heap.size, 4, none⟩) (v := .int .i64 v) (by simp) (fun e => by have := HL.out _ e; simp at this; omega)
  have L3 : Hid (LeftP w w2 B B') := (LeftP.new (k1.alloc _)).trans L2
  clear L2 HP
  go_wp2_with fail
  go_ret2
  exact ⟨rfl, B', H2, L3.out⟩

set_option maxHeartbeats 3200000 in
set_option maxRecDepth 1000000 in
theorem rswap_ok {w : World} {rb : Nat} {s : Mm} {B : Nat → Prop} (h : RI w rb s B) {c : Nat} (hc : c < s.cells.length) (hf : s.free = true) (hb : s.begun = true) (hl : (s.log.length + 1) * 56 ≤ 140737488355328) (next : Int) :
    Calls Tryz.prog 98 #[.pointer (some ⟨rb, 0, none⟩), .int .i64 (c : Int), .int .i64 (behv s c (ix s.log c).length), .int .i64 next] w fun e w' =>
      e = .returned (.tuple #[.bool true, .int .i64 0]) ∧ ∃ B', RI w' rb { s with log := s.log ++ [⟨s.step, s.thread, 2, (c : Int), behv s c (ix s.log c).length, next, true⟩], free := false } B' ∧ LeftP w w' B B' := by
  have ha := raccess_ok h 2 hc hf hb (by omega)
  generalize behv s c (ix s.log c).length = v at *
  have HP : Hid (∀ (W : World) (_ : Keeps (fun _ => False) w W), Calls Tryz.prog 102 #[.pointer (some ⟨rb, 0, none⟩), .agg #[.int .i64 s.step, .int .i64 s.thread, .int .i64 2, .int .i64 (c : Int), .int .i64 v, .int .i64 next, .bool true]] W fun e w' =>
      e = .returned (.tuple #[]) ∧ ∃ B', RI w' rb { s with log := s.log ++ [⟨s.step, s.thread, 2, (c : Int), v, next, true⟩], free := false } B' ∧ LeftP W w' B B') := fun W K => rput_any (h.new K) ⟨s.step, s.thread, 2, (c : Int), v, next, true⟩ hc rfl hl
  have HL : Hid (∀ k, B k → k < w.heap.size) := fun k hk => RI.lt h hk
  clear h hf hb
  go_enter Tryz.func98, Tryz.ntmps98
  go_wp2_with (go_at_call 101; refine ha.mono ?_; clear ha; rintro e w1 ⟨rfl, k1⟩)
  go_at_call 102
  have l1 := k1.size
  refine (HP.out _ (k1.alloc _)).mono ?_
  rintro e w2 ⟨rfl, B', H2, L2⟩
  have c4 := L2.keeps.cell (p := ⟨w1.heap.size, 6, none⟩) (v := .bool true) (by simp) (fun e => by have := HL.out _ e; simp at this; omega)
  have L3 : Hid (LeftP w w2 B B') := (LeftP.new (k1.alloc _)).trans L2
  clear L2 HP
  go_wp2_with fail
  go_ret2
  exact ⟨rfl, B', H2, L3.out⟩

set_option maxHeartbeats 3200000 in
set_option maxRecDepth 1000000 in
theorem rswap_no {w : World} {rb : Nat} {s : Mm} {B : Nat → Prop} (h : RI w rb s B) {c : Nat} (hc : c < s.cells.length) (hf : s.free = true) (hb : s.begun = true) (hl : (s.log.length + 1) * 56 ≤ 140737488355328) (old next : Int) (hne : ¬ behv s c (ix s.log c).length = old) :
    Calls Tryz.prog 98 #[.pointer (some ⟨rb, 0, none⟩), .int .i64 (c : Int), .int .i64 old, .int .i64 next] w fun e w' =>
      e = .returned (.tuple #[.bool false, .int .i64 0]) ∧ ∃ B', RI w' rb { s with log := s.log ++ [⟨s.step, s.thread, 2, (c : Int), behv s c (ix s.log c).length, (behv s c (ix s.log c).length), false⟩], free := false } B' ∧ LeftP w w' B B' := by
  have ha := raccess_ok h 2 hc hf hb (by omega)
  generalize behv s c (ix s.log c).length = v at *
  have HP : Hid (∀ (W : World) (_ : Keeps (fun _ => False) w W), Calls Tryz.prog 102 #[.pointer (some ⟨rb, 0, none⟩), .agg #[.int .i64 s.step, .int .i64 s.thread, .int .i64 2, .int .i64 (c : Int), .int .i64 v, .int .i64 v, .bool false]] W fun e w' =>
      e = .returned (.tuple #[]) ∧ ∃ B', RI w' rb { s with log := s.log ++ [⟨s.step, s.thread, 2, (c : Int), v, v, false⟩], free := false } B' ∧ LeftP W w' B B') := fun W K => rput_any (h.new K) ⟨s.step, s.thread, 2, (c : Int), v, v, false⟩ hc rfl hl
  have HL : Hid (∀ k, B k → k < w.heap.size) := fun k hk => RI.lt h hk
  clear h hf hb
  go_enter Tryz.func98, Tryz.ntmps98
  go_wp2_with (go_at_call 101; refine ha.mono ?_; clear ha; rintro e w1 ⟨rfl, k1⟩)
  go_at_call 102
  have l1 := k1.size
  refine (HP.out _ (k1.alloc _)).mono ?_
  rintro e w2 ⟨rfl, B', H2, L2⟩
  have c4 := L2.keeps.cell (p := ⟨w1.heap.size, 6, none⟩) (v := .bool false) (by simp) (fun e => by have := HL.out _ e; simp at this; omega)
  have L3 : Hid (LeftP w w2 B B') := (LeftP.new (k1.alloc _)).trans L2
  clear L2 HP
  go_wp2_with fail
  go_ret2
  exact ⟨rfl, B', H2, L3.out⟩
end Go.Proofs.YtaikngpgmcpecaaGreat
