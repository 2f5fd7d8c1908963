import Derived.Test.YthmoimilhbmagaaHolds
import Derived.Test.YthmoimilhbmagaaRefHolds
import Derived.Test.YthmoimilhbmagaaSums
namespace Go.Proofs.Ythmoimilhbmagaa
open Go.ChangeShapes Go.WideShapes Go.ChangeAt Go.RowKit

set_option maxHeartbeats 1000000 in
theorem holdsLaw_some (b off len cap : Nat) (w : World) (hbs : b < w.heap.size) (hlen : len ≤ 9223372036854775807)
    (hc : Hid (∀ i, i < len → ∃ o x y : Int, In64 o ∧ In64 x ∧ In64 y ∧ w.cell? ⟨b, off + i * 3, none⟩ = some (.int .i64 o) ∧ w.cell? ⟨b, off + i * 3 + 1, none⟩ = some (.int .i64 x) ∧ w.cell? ⟨b, off + i * 3 + 2, none⟩ = some (.int .i64 y))) :
    Calls Try.prog 3 #[.slice (some ⟨b, off, none⟩) len cap] w fun e w' => e = .returned (.bool true) ∧ Below w.heap.size w w' := by
  have g1 : hl 6 (-3) (-3) = true := by decide +kernel
  have g2 : he 6 = 0 := by decide +kernel
  go_enter Try.func3, Try.ntmps3
  go_wp2
  go_loopw [3] (fun i wr => ∃ k : Nat, k ≤ len ∧ i = .int .i64 k ∧ Below w.heap.size w wr) (fun i _ => len - (intOf i).toNat)
  case atStart => exact ⟨0, Nat.zero_le _, rfl, Below.refl _ _⟩
  case round =>
    obtain ⟨k, hk, rfl, hb⟩ := hrel
    by_cases hlt : k < len
    · obtain ⟨o, x, y, _, _, _, d0, d1, d2⟩ := hc.out k hlt
      have e0 := (hb.cell (p := ⟨b, off + k * 3, none⟩) hbs).trans d0
      have e1 := (hb.cell (p := ⟨b, off + k * 3 + 1, none⟩) hbs).trans d1
      have e2 := (hb.cell (p := ⟨b, off + k * 3 + 2, none⟩) hbs).trans d2
      have hz := hb.size
      have s1 : (hl o x y != hl o x y) = false := by simp
      have s2 : (he o != he o) = false := by simp
      clear d0 d1 d2
      go_wp2_with (first | (go_at_call 9; refine (holds_any _ _ _ _).mono ?_; rintro e w' ⟨rfl, rfl⟩) | (go_at_call 10; refine (refHolds_any _ _ _ _).mono ?_; rintro e w' ⟨rfl, rfl⟩))
      go_roundw
      case rel => exact ⟨k + 1, by omega, by go_num, hb.alloc (by omega) _⟩
      case measure => simp [intOf]; omega
    · go_wp2_with (go_at_call 9; refine (holds_any _ _ _ _).mono ?_; rintro e w' ⟨rfl, rfl⟩)
      go_ret
      exact ⟨rfl, hb⟩
theorem holdsLaw_walk (a : Option Addr) (len cap : Nat) (w : World) (h : IsSums w a len) :
    Calls Try.prog 3 #[.slice a len cap] w fun e w' => e = .returned (.bool true) ∧ Below w.heap.size w w' := by
  rcases h with rfl | ⟨b, off, rfl, hbs, hlen, hc⟩
  · have g1 : hl 6 (-3) (-3) = true := by decide +kernel
    have g2 : he 6 = 0 := by decide +kernel
    go_enter Try.func3, Try.ntmps3
    go_wp2
    go_loopw [3] (fun i wr => i = .int .i64 0 ∧ wr = w) (fun _ _ => 0)
    case atStart => exact ⟨rfl, rfl⟩
    case round =>
      obtain ⟨rfl, rfl⟩ := hrel
      go_wp2_with (go_at_call 9; refine (holds_any _ _ _ _).mono ?_; rintro e w' ⟨rfl, rfl⟩)
      go_ret
      exact ⟨rfl, Below.refl _ _⟩
  · exact holdsLaw_some b off len cap w hbs hlen hc
end Go.Proofs.Ythmoimilhbmagaa
