import Derived.Test.YthmoimilhbmagabRefApply
import Derived.Test.YthmoimilhbmagabDo
import Derived.Test.YthmoimilhbmagabSums
namespace Go.Proofs.Ythmoimilhbmagab
open Go.ChangeShapes Go.WideShapes Go.ChangeAt Go.RowKit

theorem apply_all (op a b : Int) (w : World) :
    Calls Try.prog 18 #[.int .i64 op, .int .i64 a, .int .i64 b] w fun e w' => e = .returned (.tuple #[.int .i64 (ap op a b), .int .i64 (ae op)]) ∧ Below w.heap.size w w' := by
  by_cases h : 1 ≤ op ∧ op ≤ 12
  · rw [show ae op = 0 from if_pos h]; exact apply_any op a b h w
  · rw [show ae op = 10 from if_neg h, ap_bad op a b (by omega)]
    refine (apply_bad op a b (by omega) w).mono ?_
    rintro e w' ⟨rfl, rfl⟩
    exact ⟨rfl, Below.refl _ _⟩

set_option maxHeartbeats 1000000 in
theorem appliesLaw_some (b off len cap : Nat) (w : World) (hbs : b < w.heap.size) (hlen : len ≤ 9223372036854775807)
    (hc : Hid (∀ i, i < len → ∃ o x y : Int, In64 o ∧ In64 x ∧ In64 y ∧ w.cell? ⟨b, off + i * 3, none⟩ = some (.int .i64 o) ∧ w.cell? ⟨b, off + i * 3 + 1, none⟩ = some (.int .i64 x) ∧ w.cell? ⟨b, off + i * 3 + 2, none⟩ = some (.int .i64 y))) :
    Calls Try.prog 6 #[.slice (some ⟨b, off, none⟩) len cap] w fun e w' => e = .returned (.bool true) ∧ Below w.heap.size w w' := by
  go_enter Try.func6, Try.ntmps6
  go_wp2
  go_loopw [3] (fun i wr => ∃ k : Nat, k ≤ len ∧ i = .int .i64 k ∧ Below w.heap.size w wr) (fun i _ => len - (intOf i).toNat)
  case atStart => exact ⟨0, Nat.zero_le _, rfl, Below.refl _ _⟩
  case round =>
    obtain ⟨k, hk, rfl, hb⟩ := hrel
    by_cases hlt : k < len
    · obtain ⟨o, x, y, _, ix, iy, d0, d1, d2⟩ := hc.out k hlt
      have e0 := (hb.cell (p := ⟨b, off + k * 3, none⟩) hbs).trans d0
      have e1 := (hb.cell (p := ⟨b, off + k * 3 + 1, none⟩) hbs).trans d1
      have e2 := (hb.cell (p := ⟨b, off + k * 3 + 2, none⟩) hbs).trans d2
      have hz := hb.size
      have s1 : (ap o x y != ap o x y) = false := by simp
      have s2 : (ae o != ae o) = false := by simp
      clear d0 d1 d2
      go_wp2_with fail
      refine (apply_all _ _ _ _).mono ?_
      rintro e w1 ⟨rfl, hb1⟩
      have q0 : w1.cell? ⟨wr.heap.size, 0, none⟩ = some (.int .i64 o) := by rw [hb1.cell (by simp)]; simp
      have q1 : w1.cell? ⟨wr.heap.size, 1, none⟩ = some (.int .i64 x) := by rw [hb1.cell (by simp)]; simp
      have q2 : w1.cell? ⟨wr.heap.size, 2, none⟩ = some (.int .i64 y) := by rw [hb1.cell (by simp)]; simp
      have HB : Hid (Below w.heap.size w w1) := (hb.alloc hz _).trans (hb1.mono (by simp; omega))
      clear hb1
      go_wp2_with (go_at_call 19; refine (refApply_any _ _ _ (by assumption) (by assumption) _).mono ?_; rintro e w' ⟨rfl, rfl⟩)
      go_roundw
      case rel => exact ⟨k + 1, by omega, by go_num, HB.out⟩
      case measure => simp [intOf]; omega
    · have hkk : Kept w.heap.size w wr := ⟨hb, hb.size⟩
      go_wp2_with (go_at_call 17; refine (fixed_any hkk).mono ?_; rintro e w' ⟨rfl, hk2⟩)
      go_ret
      exact ⟨rfl, hk2.1⟩
theorem appliesLaw_walk (a : Option Addr) (len cap : Nat) (w : World) (h : IsSums w a len) :
    Calls Try.prog 6 #[.slice a len cap] w fun e w' => e = .returned (.bool true) ∧ Below w.heap.size w w' := by
  rcases h with rfl | ⟨b, off, rfl, hbs, hlen, hc⟩
  · go_enter Try.func6, Try.ntmps6
    go_wp2
    go_loopw [3] (fun i wr => i = .int .i64 0 ∧ wr = w) (fun _ _ => 0)
    case atStart => exact ⟨rfl, rfl⟩
    case round =>
      obtain ⟨rfl, rfl⟩ := hrel
      have hkk : Kept wr.heap.size wr wr := ⟨Below.refl _ _, Nat.le_refl _⟩
      go_wp2_with (go_at_call 17; refine (fixed_any hkk).mono ?_; rintro e w' ⟨rfl, hk2⟩)
      go_ret
      exact ⟨rfl, hk2.1⟩
  · exact appliesLaw_some b off len cap w hbs hlen hc
end Go.Proofs.Ythmoimilhbmagab
