import Derived.Test.YtaikngpgmcpecaaGreatRefCelC
namespace Go.Proofs.YtaikngpgmcpecaaGreat
open Go.RowKit

set_option maxHeartbeats 1600000 in
set_option maxRecDepth 1000000 in
theorem rload_not {w : World} {rb : Nat} {s : Mm} {B : Nat → Prop} (h : RI w rb s B) {c : Int} (hc : s.there c = false) :
    Calls Tryz.prog 83 #[.pointer (some ⟨rb, 0, none⟩), .int .i64 c] w fun e w' =>
      e = .returned (.tuple #[.int .i64 0, .int .i64 30]) ∧ Keeps (fun _ => False) w w' := by
  have ha := raccess_not h 1 hc
  clear h
  go_enter Tryz.func83, Tryz.ntmps83
  go_wp2_with (go_at_call 101; refine ha.mono ?_; clear ha; rintro e w1 ⟨rfl, k1⟩)
  go_ret2
  exact ⟨rfl, k1.alloc _⟩

set_option maxHeartbeats 1600000 in
set_option maxRecDepth 1000000 in
theorem rload_closed {w : World} {rb : Nat} {s : Mm} {B : Nat → Prop} (h : RI w rb s B) {c : Int} (hc : s.there c = true) (hf : s.free = false) :
    Calls Tryz.prog 83 #[.pointer (some ⟨rb, 0, none⟩), .int .i64 c] w fun e w' =>
      e = .returned (.tuple #[.int .i64 0, .int .i64 31]) ∧ Keeps (fun _ => False) w w' := by
  have ha := raccess_closed h 1 hc hf
  clear h
  go_enter Tryz.func83, Tryz.ntmps83
  go_wp2_with (go_at_call 101; refine ha.mono ?_; clear ha; rintro e w1 ⟨rfl, k1⟩)
  go_ret2
  exact ⟨rfl, k1.alloc _⟩

set_option maxHeartbeats 1600000 in
set_option maxRecDepth 1000000 in
theorem rswap_not {w : World} {rb : Nat} {s : Mm} {B : Nat → Prop} (h : RI w rb s B) {c : Int} (hc : s.there c = false) (old next : Int) :
    Calls Tryz.prog 98 #[.pointer (some ⟨rb, 0, none⟩), .int .i64 c, .int .i64 old, .int .i64 next] w fun e w' =>
      e = .returned (.tuple #[.bool false, .int .i64 30]) ∧ Keeps (fun _ => False) w w' := by
  have ha := raccess_not h 2 hc
  clear h
  go_enter Tryz.func98, Tryz.ntmps98
  go_wp2_with (go_at_call 101; refine ha.mono ?_; clear ha; rintro e w1 ⟨rfl, k1⟩)
  go_ret2
  exact ⟨rfl, k1.alloc _⟩

set_option maxHeartbeats 1600000 in
set_option maxRecDepth 1000000 in
theorem rswap_closed {w : World} {rb : Nat} {s : Mm} {B : Nat → Prop} (h : RI w rb s B) {c : Int} (hc : s.there c = true) (hf : s.free = false) (old next : Int) :
    Calls Tryz.prog 98 #[.pointer (some ⟨rb, 0, none⟩), .int .i64 c, .int .i64 old, .int .i64 next] w fun e w' =>
      e = .returned (.tuple #[.bool false, .int .i64 31]) ∧ Keeps (fun _ => False) w w' := by
  have ha := raccess_closed h 2 hc hf
  clear h
  go_enter Tryz.func98, Tryz.ntmps98
  go_wp2_with (go_at_call 101; refine ha.mono ?_; clear ha; rintro e w1 ⟨rfl, k1⟩)
  go_ret2
  exact ⟨rfl, k1.alloc _⟩
end Go.Proofs.YtaikngpgmcpecaaGreat
