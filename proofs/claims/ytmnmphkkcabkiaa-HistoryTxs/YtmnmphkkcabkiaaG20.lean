import Derived.Test.YtmnmphkkcabkiaaG19
import Derived.Shelf.SlSortCmp.NoneTotal
namespace Go.Proofs.Ytmnmphkkcabkiaa
open Go.RowKit
set_option maxHeartbeats 1000000 in
set_option maxRecDepth 100000 in
theorem htxs_any (hN0 : SortNone) {w : World} {a : Option Addr} {cap : Nat} {l : List Rw} (hl : RSL w a l) (h64 : ∀ q ∈ l, R64 q) (hn : l.length ≤ 733007751829) (hz : a = none → cap = 0) : Calls Try.prog 4 #[.slice a l.length cap] w fun e w' => e = .returned (.bool true) ∧ Below w.heap.size w w' := by
  have hlf := life_any w
  have HCk : Hid (∀ W, Keeps (fun _ => False) w W → Calls Try.prog 8 #[.slice a l.length cap] W fun e w' => e = .returned (.bool true) ∧ Keeps (fun _ => False) W w') := fun W k => told_any hN0 (hl.keep k) hz (by omega) (fun k hk => ⟨(r64_at h64 k hk).o, (r64_at h64 k hk).e⟩)
  clear hl hn hz h64
  generalize l.length = N at *
  go_enter Try.func4, Try.ntmps4
  go_wp2_with (first | (go_at_call 7; refine hlf.mono ?_; clear hlf; rintro e w1 ⟨l1, a1, cap1, rfl, ⟨hl6, hl7⟩, hr1, hz1, k1⟩; have hck := told_any hN0 hr1 hz1 (by omega) (fun k hk => by rw [hl7] at hk ⊢; exact ⟨(r64_at life64 k hk).o, (r64_at life64 k hk).e⟩); clear hl6 hl7 hr1 hz1; generalize l1.length = M at *) | (go_at_call 8; refine hck.mono ?_; clear hck; rintro e w2 ⟨rfl, k2⟩; have hck2 := HCk.out w2 (k1.trans k2)) | (go_at_call 8; refine hck2.mono ?_; clear hck2; rintro e w3 ⟨rfl, k3⟩))
  go_ret
  exact ⟨rfl, ((k1.trans k2).trans k3).below (Nat.le_refl _) (fun _ _ e => e)⟩
end Go.Proofs.Ytmnmphkkcabkiaa

namespace Go.Proofs.Ytmnmphkkcabkiaa
open Go.RowKit
theorem sortNone : SortNone := fun w => AnyF.slices_SortFunc_none Try.sortW none 0 _ w
theorem htxs_all {w : World} {a : Option Addr} {cap : Nat} {l : List Rw} (hl : RSL w a l) (h64 : ∀ q ∈ l, R64 q) (hn : l.length ≤ 733007751829) (hz : a = none → cap = 0) : Calls Try.prog 4 #[.slice a l.length cap] w fun e w' => e = .returned (.bool true) ∧ Below w.heap.size w w' := htxs_any sortNone hl h64 hn hz
end Go.Proofs.Ytmnmphkkcabkiaa

