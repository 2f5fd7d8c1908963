import Derived.Test.YtdeiochjkbogpaaLocV
import Derived.Test.YtdeiochjkbogpaaLocFA
namespace Go.Proofs.Ytdeiochjkbogpaa
open Go.RowKit
section
variable {w w' : World} {ρ ρ' : Nat → Nat} {u j q rb wb mb : Nat} {s s' : Ws} {m m' : Mm} {k : Nat}
set_option maxHeartbeats 1600000 in
set_option maxRecDepth 1000000 in
/-- What an object's cell holds. -/
theorem cellOf_ok (h : Rs w ρ u j q rb wb mb s m k) {x : Nat} (hx : x < s.objs.length) :
    Calls Try.prog 67 #[.pointer (some ⟨rb, 0, none⟩), .int .i64 (x : Int)] w fun e w' => e = .returned (.int .i64 (m.val (s.ob x))) ∧ w = w' := by
  have ho := OCell_ok h.st hx
  have hp := speek h.st (h.iv.co x hx)
  have c0 := h.c0
  have c1 := h.c1
  show Calls _ _ _ _ fun e w' => e = .returned (.int .i64 (ca m.cells (s.ob x)).2) ∧ w = w'
  generalize (ca m.cells (s.ob x)).2 = y at *
  generalize s.ob x = O at *
  clear h
  go_enter Try.func67, Try.ntmps67
  go_wp2_with (first | (go_at_call 39; refine ho.mono ?_; clear ho; rintro e w' ⟨rfl, rfl⟩) | (go_at_call 43; refine hp.mono ?_; clear hp; rintro e w' ⟨rfl, rfl⟩) | (go_at_call 12; refine (num_of _ _).mono ?_; rintro e w' ⟨rfl, rfl⟩))
  go_ret
  exact ⟨rfl, rfl⟩
set_option maxHeartbeats 1600000 in
set_option maxRecDepth 1000000 in
theorem cellOf_no (h : Rs w ρ u j q rb wb mb s m k) {x : Int} (hx : x < 0 ∨ (s.objs.length : Int) ≤ x) :
    Calls Try.prog 67 #[.pointer (some ⟨rb, 0, none⟩), .int .i64 x] w fun e w' => e = .returned (.int .i64 (-1)) ∧ w = w' := by
  have ho := OCell_no h.st hx
  have c1 := h.c1
  clear h
  go_enter Try.func67, Try.ntmps67
  go_wp2_with (first | (go_at_call 39; refine ho.mono ?_; clear ho; rintro e w' ⟨rfl, rfl⟩) | (go_at_call 12; refine (num_of _ _).mono ?_; rintro e w' ⟨rfl, rfl⟩))
  go_ret
  exact ⟨rfl, rfl⟩
/-- Either way a number is told. -/
theorem cellOf_any (h : Rs w ρ u j q rb wb mb s m k) (x : Int) :
    Calls Try.prog 67 #[.pointer (some ⟨rb, 0, none⟩), .int .i64 x] w fun e w' => ∃ y : Int, e = .returned (.int .i64 y) ∧ w = w' ∧ ∀ i : Nat, x = i → i < s.objs.length → y = m.val (s.ob i) := by
  rcases nat_or x s.objs.length with hb | ⟨i, rfl, hi⟩
  · refine (cellOf_no h hb).mono ?_
    rintro e w' ⟨rfl, rfl⟩
    exact ⟨_, rfl, rfl, fun i e hi => by omega⟩
  · refine (cellOf_ok h hi).mono ?_
    rintro e w' ⟨rfl, rfl⟩
    exact ⟨_, rfl, rfl, fun i' e _ => by have : i = i' := by omega
                                         rw [this]⟩
end
end Go.Proofs.Ytdeiochjkbogpaa
