import Derived.Test.YtmcchconnfoffaaCmMoW
namespace Go.Proofs.Ytmcchconnfoffaa
open Go.RowKit
set_option maxHeartbeats 1600000 in
set_option maxRecDepth 1000000 in
theorem more_hi (w : World) {ki m th t d : Int} (ek : bits .and .i64 ki 3 = 3) (hm : -2147483648 ≤ m ∧ m ≤ 2147483647) (hth : -2147483648 ≤ th ∧ th ≤ 2147483647) (ht : I64 t) (hd : I64 d) :
    Calls Try.prog 3 #[.int .i64 ki, .int .i32 m, .int .i32 th, .int .i64 t, .int .i64 d] w fun e w' => e = .returned (.bool true) ∧ Below w.heap.size w w' := by
  have hm1 : Calls Try.prog 7 #[.int .i64 3, .int .i64 4096] w fun e w' => ∃ b, e = .returned (.pointer (some ⟨b, 0, none⟩)) ∧ w.heap.size ≤ b ∧ Mg w' b 3 4096 ∧ Keeps (fun _ => False) w w' := manager_any w (k := 3) (p := 4096) (by omega) ⟨by omega, by omega⟩
  obtain ⟨m1, m2⟩ := hm
  obtain ⟨t1, t2⟩ := hth
  have i0 : In64 m := ⟨by omega, by omega⟩
  have i1 : In64 th := ⟨by omega, by omega⟩
  have hv : judgev 3 4096 (Cf.norm ⟨m, th, m, th, true, t, 0, d⟩) = ⟨true, false, 0⟩ := if_pos (.inr rfl)
  have hj := fun W b (M : Mg W b 3 4096) => judge_x M (show Cf.ok ⟨m, th, m, th, true, t, 0, d⟩ from ⟨i0, i1, i0, i1, ht, ⟨by simp, by simp⟩, hd⟩) hv
  clear hv i0 i1
  go_enter Try.func3, Try.ntmps3
  go_wp2_with (go_at_call 7; refine hm1.mono ?_; clear hm1; rintro e w1 ⟨b, rfl, hb, M1, k1⟩)
  refine (hj _ b (M1.keep ((Keeps.refl _ w1).alloc _))).mono ?_
  rintro e w3 ⟨rfl, k3⟩
  go_wp2_with fail
  go_ret
  exact ⟨rfl, ((k1.alloc _).trans k3).below (Nat.le_refl _) (fun _ _ e => e)⟩
theorem moreWalk (w : World) (ki : Int) (_ : I64 ki) (m : Int) (hm : -2147483648 ≤ m ∧ m ≤ 2147483647) (th : Int) (hth : -2147483648 ≤ th ∧ th ≤ 2147483647) (t : Int) (ht : I64 t) (d : Int) (hd : I64 d) :
    Calls Try.prog 3 #[.int .i64 ki, .int .i32 m, .int .i32 th, .int .i64 t, .int .i64 d] w fun e w' => e = .returned (.bool true) ∧ Below w.heap.size w w' := by
  obtain ⟨K, hK, ek⟩ := and3 ki
  by_cases h3 : K < 3
  · exact more_lo w ek h3 hm hth ht hd
  · obtain rfl : K = 3 := by omega
    exact more_hi w ek hm hth ht hd
end Go.Proofs.Ytmcchconnfoffaa
