import Derived.Test.YtkkldbellngalaaRefCelC
namespace Go.Proofs.Ytkkldbellngalaa
open Go.RowKit

set_option maxHeartbeats 1600000 in
set_option maxRecDepth 1000000 in
theorem rload_not {w : World} {rb : Nat} {s : Mm} {B : Nat → Prop} (h : RI w rb s B) {c : Int} (hc : s.there c = false) :
    Calls Try.prog 28 #[.pointer (some ⟨rb, 0, none⟩), .int .i64 c] w fun e w' =>
      e = .returned (.tuple #[.int .i64 0, .int .i64 30]) ∧ Keeps (fun _ => False) w w' := by
  have ha := raccess_not h 1 hc
  clear h
  go_enter Try.func28, Try.ntmps28
  go_wp2_with (go_at_call 43; refine ha.mono ?_; clear ha; rintro e w1 ⟨rfl, k1⟩)
  go_ret2
  exact ⟨rfl, k1.alloc _⟩

set_option maxHeartbeats 1600000 in
set_option maxRecDepth 1000000 in
theorem rload_closed {w : World} {rb : Nat} {s : Mm} {B : Nat → Prop} (h : RI w rb s B) {c : Int} (hc : s.there c = true) (hf : s.free = false) :
    Calls Try.prog 28 #[.pointer (some ⟨rb, 0, none⟩), .int .i64 c] w fun e w' =>
      e = .returned (.tuple #[.int .i64 0, .int .i64 31]) ∧ Keeps (fun _ => False) w w' := by
  have ha := raccess_closed h 1 hc hf
  clear h
  go_enter Try.func28, Try.ntmps28
  go_wp2_with (go_at_call 43; refine ha.mono ?_; clear ha; rintro e w1 ⟨rfl, k1⟩)
  go_ret2
  exact ⟨rfl, k1.alloc _⟩

set_option maxHeartbeats 1600000 in
set_option maxRecDepth 1000000 in
theorem radd_not {w : World} {rb : Nat} {s : Mm} {B : Nat → Prop} (h : RI w rb s B) {c : Int} (hc : s.there c = false) (by_ : Int) :
    Calls Try.prog 32 #[.pointer (some ⟨rb, 0, none⟩), .int .i64 c, .int .i64 by_] w fun e w' =>
      e = .returned (.tuple #[.int .i64 0, .int .i64 30]) ∧ Keeps (fun _ => False) w w' := by
  have ha := raccess_not h 3 hc
  clear h
  go_enter Try.func32, Try.ntmps32
  go_wp2_with (go_at_call 43; refine ha.mono ?_; clear ha; rintro e w1 ⟨rfl, k1⟩)
  go_ret2
  exact ⟨rfl, k1.alloc _⟩

set_option maxHeartbeats 1600000 in
set_option maxRecDepth 1000000 in
theorem radd_closed {w : World} {rb : Nat} {s : Mm} {B : Nat → Prop} (h : RI w rb s B) {c : Int} (hc : s.there c = true) (hf : s.free = false) (by_ : Int) :
    Calls Try.prog 32 #[.pointer (some ⟨rb, 0, none⟩), .int .i64 c, .int .i64 by_] w fun e w' =>
      e = .returned (.tuple #[.int .i64 0, .int .i64 31]) ∧ Keeps (fun _ => False) w w' := by
  have ha := raccess_closed h 3 hc hf
  clear h
  go_enter Try.func32, Try.ntmps32
  go_wp2_with (go_at_call 43; refine ha.mono ?_; clear ha; rintro e w1 ⟨rfl, k1⟩)
  go_ret2
  exact ⟨rfl, k1.alloc _⟩

set_option maxHeartbeats 1600000 in
set_option maxRecDepth 1000000 in
theorem rswap_not {w : World} {rb : Nat} {s : Mm} {B : Nat → Prop} (h : RI w rb s B) {c : Int} (hc : s.there c = false) (old next : Int) :
    Calls Try.prog 30 #[.pointer (some ⟨rb, 0, none⟩), .int .i64 c, .int .i64 old, .int .i64 next] w fun e w' =>
      e = .returned (.tuple #[.bool false, .int .i64 30]) ∧ Keeps (fun _ => False) w w' := by
  have ha := raccess_not h 2 hc
  clear h
  go_enter Try.func30, Try.ntmps30
  go_wp2_with (go_at_call 43; refine ha.mono ?_; clear ha; rintro e w1 ⟨rfl, k1⟩)
  go_ret2
  exact ⟨rfl, k1.alloc _⟩

set_option maxHeartbeats 1600000 in
set_option maxRecDepth 1000000 in
theorem rswap_closed {w : World} {rb : Nat} {s : Mm} {B : Nat → Prop} (h : RI w rb s B) {c : Int} (hc : s.there c = true) (hf : s.free = false) (old next : Int) :
    Calls Try.prog 30 #[.pointer (some ⟨rb, 0, none⟩), .int .i64 c, .int .i64 old, .int .i64 next] w fun e w' =>
      e = .returned (.tuple #[.bool false, .int .i64 31]) ∧ Keeps (fun _ => False) w w' := by
  have ha := raccess_closed h 2 hc hf
  clear h
  go_enter Try.func30, Try.ntmps30
  go_wp2_with (go_at_call 43; refine ha.mono ?_; clear ha; rintro e w1 ⟨rfl, k1⟩)
  go_ret2
  exact ⟨rfl, k1.alloc _⟩
end Go.Proofs.Ytkkldbellngalaa
