import Derived.Test.YtlghfnpaajgneaaGreatDoorIpA
namespace Go.Proofs.YtlghfnpaajgneaaGreatDoor
open Go.RowKit
attribute [local go_sem] Oper.semAt_some run_store_nf run_store_f
theorem jnum (w : World) (k : Int) : Calls Tryz.prog 9 #[.int .i64 k] w fun e w' => e = .returned (.int .i64 k) ∧ w' = w := by
  go_enter Tryz.func9, Tryz.ntmps9
  go_wp2
  go_ret
  exact ⟨rfl, rfl⟩
set_option maxHeartbeats 800000 in
set_option maxRecDepth 1000000 in
theorem jnothing {w : World} {v : Value} (h : NJ w v) : Calls Tryz.prog 4 #[v] w fun e w' => e = .returned (.bool true) ∧ Keeps (fun _ => False) w w' := by
  have heq : ∀ w : World, (binOp .eql 35 (.agg zr.toArray) (.agg #[.int .i64 0, .int .i64 0, .int .i64 0, .int .i64 0, .int .i64 0, .int .i64 0, .int .i64 0, .int .i64 0, .int .i64 0, .int .i64 0, .int .i64 0, .int .i64 0, .int .i64 0, .bool false, .bool false, .bool false, .int .i64 0, .bool false, .int .i64 0, .int .i64 0, .bool false, .bool false, .int .i64 0, .int .i64 0, .bool false, .int .i64 0])).run Tryz.prog w = .ok (.bool true) w := fun _ => rfl
  have hea : ∀ w : World, (binOp .eql 26 (.agg #[.int .i64 0, .int .i64 0, .bool false, .int .i64 0]) (.agg #[.int .i64 0, .int .i64 0, .bool false, .int .i64 0])).run Tryz.prog w = .ok (.bool true) w := fun _ => by kernel_rfl
  have hSt := jStep h
  go_enter Tryz.func4, Tryz.ntmps4
  go_wp2_with fail
  refine hSt.mono ?_
  clear hSt
  rintro e w2 ⟨rfl, k2⟩
  obtain ⟨w3, hw3⟩ : ∃ w3, w3 = w2.alloc (.cells #[.int .i64 0, .int .i64 0, .int .i64 0, .int .i64 0, .int .i64 0, .int .i64 0, .int .i64 0, .int .i64 0, .int .i64 0, .int .i64 0, .int .i64 0, .int .i64 0, .int .i64 0, .bool false, .bool false, .bool false, .int .i64 0, .bool false, .int .i64 0, .int .i64 0, .bool false, .bool false, .int .i64 0, .int .i64 0, .bool false, .int .i64 0] 35) := ⟨_, rfl⟩
  have k3 : Keeps (fun _ => False) w2 w3 := by rw [hw3]; exact (Keeps.refl _ w2).alloc _
  have hc3 : CL w3 w2.heap.size zr := by rw [hw3]; exact CL.made _ zr _
  have K3 : Keeps (fun _ => False) w w3 := k2.trans k3
  go_wp2_with (rw [← hw3]; clear hw3; refine wpList_store_cl rfl 35 _ _ rfl w2.heap.size 0 26 _ rfl rfl rfl hc3 (by show 26 ≤ 26; decide) i46 zr_one ?_; intro w4 hc4 k4 hs4; clear hs4)
  have K4 : Keeps (fun _ => False) w w4 := K3.trans' k4 (fun _ _ e => e) (fun i hi e => by have := k2.size; have e : i = w2.heap.size := e; omega)
  have h4 := h.new K4
  have hc5 : CL w4 w2.heap.size zr := hc4
  clear hc3 hc4 k4 K3 k2 k3 h
  go_wp2_with (go_at_call 6; refine (jOver h4).mono ?_; rintro e wq ⟨rfl, eq⟩; subst wq)
  refine (jAnswer h4).mono ?_
  rintro e w6 ⟨rfl, k6⟩
  have h6 := h4.new k6
  have hc6 := hc5.keep (by show 0 < 26; decide) k6 (fun e => e)
  have hr := run_zr hc6
  have K6 := K4.trans k6
  clear h4 hc5 hc6 k6 K4
  go_wp2_with (first | (go_at_call 8; refine (jPlace h6).mono ?_; rintro e wq ⟨rfl, eq⟩; subst wq) | (refine wpList_load_want rfl 35 _ rfl ⟨w2.heap.size, 0, none⟩ rfl _ hr ?_; clear hr) | (go_at_call 9; refine (jnum _ _).mono ?_; rintro e wq ⟨rfl, eq⟩; subst wq))
  go_ret
  exact ⟨rfl, K6⟩
set_option maxHeartbeats 800000 in
set_option maxRecDepth 1000000 in
theorem inone_walk (w : World) : Calls Tryz.prog 3 #[] w fun e w' => e = .returned (.bool true) ∧ Below w.heap.size w w' := by
  obtain ⟨w0, hw0⟩ : ∃ w0, w0 = w.alloc (.cells #[.pointer none, .slice none 0 0, .int .i64 0, .int .i64 0, .int .i64 0, .int .i64 0, .int .i64 0, .int .i64 0, .int .i64 0, .int .i64 0, .int .i64 0, .int .i64 0, .int .i64 0, .int .i64 0, .int .i64 0, .int .i64 0, .int .i64 0, .int .i64 0, .int .i64 0, .int .i64 0, .int .i64 0, .bool false, .int .i64 0, .int .i64 0, .bool false, .int .i64 0] 28) := ⟨_, rfl⟩
  have k0 : Keeps (fun _ => False) w w0 := by rw [hw0]; exact (Keeps.refl _ w).alloc _
  have c0 : CL w0 w.heap.size [.pointer none, .slice none 0 0, .int .i64 0, .int .i64 0, .int .i64 0, .int .i64 0, .int .i64 0, .int .i64 0, .int .i64 0, .int .i64 0, .int .i64 0, .int .i64 0, .int .i64 0, .int .i64 0, .int .i64 0, .int .i64 0, .int .i64 0, .int .i64 0, .int .i64 0, .int .i64 0, .int .i64 0, .bool false, .int .i64 0, .int .i64 0, .bool false, .int .i64 0] := by rw [hw0]; exact CL.made w [.pointer none, .slice none 0 0, .int .i64 0, .int .i64 0, .int .i64 0, .int .i64 0, .int .i64 0, .int .i64 0, .int .i64 0, .int .i64 0, .int .i64 0, .int .i64 0, .int .i64 0, .int .i64 0, .int .i64 0, .int .i64 0, .int .i64 0, .int .i64 0, .int .i64 0, .int .i64 0, .int .i64 0, .bool false, .int .i64 0, .int .i64 0, .bool false, .int .i64 0] _
  have hz : NJ w0 (.pointer (some ⟨w.heap.size, 0, none⟩)) := ⟨.inr ⟨_, rfl, c0.c 0 _ rfl, c0.c 19 _ rfl, c0.c 21 _ rfl, c0.c 22 _ rfl, c0.c 23 _ rfl, c0.c 24 _ rfl, c0.c 25 _ rfl⟩⟩
  have hn : ∀ W, NJ W (.pointer none) := fun W => ⟨.inl rfl⟩
  clear c0
  go_enter Tryz.func3, Tryz.ntmps3
  go_wp2_with fail
  rw [← hw0]
  clear hw0
  refine (jnothing hz).mono ?_
  rintro e w1 ⟨rfl, k1⟩
  go_wp2_with fail
  refine (jnothing (hn w1)).mono ?_
  rintro e w2 ⟨rfl, k2⟩
  go_wp2_with fail
  refine (jnothing ((hz.new k1).new k2)).mono ?_
  rintro e w3 ⟨rfl, k3⟩
  go_wp2_with fail
  go_ret
  exact ⟨rfl, (((k0.trans k1).trans k2).trans k3).below (Nat.le_refl _) (fun _ _ e => e)⟩
end Go.Proofs.YtlghfnpaajgneaaGreatDoor
