import Derived.Test.YtefnjcdcdfmgpaaGreatDoorRnA
import Derived.Test.YtefnjcdcdfmgpaaGreatDoorCmLaid
import Derived.OpenShut
import Derived.Below
namespace Go.Proofs.YtefnjcdcdfmgpaaGreatDoor
open Go.RowKit Go.ChangeShapes Go.WideShapes Go.ChangeAt
attribute [local go_sem] Oper.semAt_some run_store_nf run_store_f
set_option maxHeartbeats 800000 in
set_option maxRecDepth 1000000 in
theorem num_z (w : World) (k : Int) : Calls Tryz.prog 17 #[.int .i64 k] w fun e w' => e = .returned (.int .i64 k) ∧ w' = w := by
  go_enter Tryz.func17, Tryz.ntmps17
  go_wp2
  go_ret
  exact ⟨rfl, rfl⟩
set_option maxHeartbeats 800000 in
set_option maxRecDepth 1000000 in
theorem nothing_z {w : World} {v : Value} (h : NZ w v) (ob va vb : Int) (vd : Bool) : Calls Tryz.prog 4 #[v, .int .i64 ob, .agg #[.int .i64 va, .int .i64 vb, .bool vd]] w fun e w' => e = .returned (.bool true) ∧ Keeps (fun _ => False) w w' := by
  obtain ⟨w0, hw0⟩ : ∃ w0, w0 = w.alloc (.cells #[.int .i64 va, .int .i64 vb, .bool vd] 23) := ⟨_, rfl⟩
  have k0 : Keeps (fun _ => False) w w0 := by rw [hw0]; exact (Keeps.refl _ w).alloc _
  have hb : CL w0 w.heap.size [.int .i64 va, .int .i64 vb, .bool vd] := by rw [hw0]; exact CL.made _ _ _
  have h0 := h.new k0
  have hne : ∀ w : World, (binOp .neq 42 (.agg zr.toArray) (.agg #[.int .i64 0, .int .i64 0, .int .i64 0, .int .i64 0, .int .i64 0, .int .i64 0, .int .i64 0, .int .i64 0, .int .i64 0, .int .i64 0, .int .i64 0, .int .i64 0, .int .i64 0, .bool false, .bool false, .bool false, .int .i64 0, .bool false, .int .i64 0, .int .i64 0, .bool false, .bool false, .int .i64 0, .int .i64 0, .bool false, .int .i64 0])).run Tryz.prog w = .ok (.bool false) w := fun _ => rfl
  go_enter Tryz.func4, Tryz.ntmps4
  go_wp2_with fail
  rw [← hw0]
  clear hw0
  refine (state_z h0).mono ?_
  rintro e wq ⟨rfl, rfl⟩
  go_wp2_with (first | (go_at_call 6; refine (outcome_z h0).mono ?_; rintro e wq ⟨rfl, rfl⟩) | (go_at_call 7; refine (tries_z h0).mono ?_; rintro e wq ⟨rfl, rfl⟩) | (go_at_call 8; refine (stamp_z h0).mono ?_; rintro e wq ⟨rfl, rfl⟩) | (go_at_call 9; refine (rank_z h0).mono ?_; rintro e wq ⟨rfl, rfl⟩) | (go_at_call 10; refine (number_z h0).mono ?_; rintro e wq ⟨rfl, rfl⟩) | (go_at_call 11; refine (thread_z h0).mono ?_; rintro e wq ⟨rfl, rfl⟩) | (go_at_call 12; refine (job_z h0).mono ?_; rintro e wq ⟨rfl, rfl⟩) | (go_at_call 13; refine (owns_z h0 ob).mono ?_; rintro e wq ⟨rfl, rfl⟩) | (go_at_call 14; refine (reads_z h0).mono ?_; rintro e wq ⟨rfl, rfl⟩))
  refine (step_z h0).mono ?_
  rintro e w2 ⟨rfl, k2⟩
  have hb2 := hb.keep (by show 0 < 3; decide) k2 (fun e => e)
  have lt2 : w.heap.size < w2.heap.size := hb2.lt (by show 0 < 3; decide)
  obtain ⟨w3, hw3⟩ : ∃ w3, w3 = w2.alloc (.cells #[.int .i64 0, .int .i64 0, .int .i64 0, .int .i64 0, .int .i64 0, .int .i64 0, .int .i64 0, .int .i64 0, .int .i64 0, .int .i64 0, .int .i64 0, .int .i64 0, .int .i64 0, .bool false, .bool false, .bool false, .int .i64 0, .bool false, .int .i64 0, .int .i64 0, .bool false, .bool false, .int .i64 0, .int .i64 0, .bool false, .int .i64 0] 42) := ⟨_, rfl⟩
  have k3 : Keeps (fun _ => False) w2 w3 := by rw [hw3]; exact (Keeps.refl _ w2).alloc _
  have hb3 := hb2.keep (by show 0 < 3; decide) k3 (fun e => e)
  have hc3 : CL w3 w2.heap.size zr := by rw [hw3]; exact CL.made _ zr _
  have nb : ¬ w.heap.size = w2.heap.size := by omega
  have K3 : Keeps (fun _ => False) w w3 := (k0.trans k2).trans k3
  have hN : NZ w v := h
  clear h h0 hb hb2 k0 k2 k3
  go_wp2_with (rw [← hw3]; clear hw3; refine wpList_store_cl rfl 42 _ _ rfl w2.heap.size 0 26 _ rfl rfl rfl hc3 (by show 26 ≤ 26; decide) i46 zr_one ?_; intro w4 hc4 k4 hs4; clear hs4)
  have hb4 := hb3.keep (by show 0 < 3; decide) k4 nb
  have K4 : Keeps (fun _ => False) w w4 := K3.trans' k4 (fun _ _ e => e) (fun i hi e => by omega)
  have h4 := hN.new K4
  have hr := run_zr hc4
  have b0 := hb4.c 0 _ rfl
  have b1 := hb4.c 1 _ rfl
  have b2 := hb4.c 2 _ rfl
  clear hc3 hb3 k4 K3
  go_wp2_with (first | (go_at_call 16; refine (release_z h4 ob).mono ?_; rintro e wq ⟨rfl, rfl⟩) | (go_at_call 17; refine (num_z _ _).mono ?_; rintro e wq ⟨rfl, rfl⟩) | (refine wpList_load_want rfl 42 _ rfl ⟨w2.heap.size, 0, none⟩ rfl _ hr ?_; clear hr) | (go_at_call 18; refine (read_z h4 ob).mono ?_; rintro e wq ⟨rfl, rfl⟩) | (go_at_call 19; refine (write_z h4 ob).mono ?_; rintro e wq ⟨rfl, rfl⟩) | (go_at_call 20; refine (put_z h4 ob va vb vd).mono ?_; rintro e w5 ⟨rfl, k5⟩; have h5 := h4.new k5; have K5 := K4.trans k5; clear h4 K4 k5) | (go_at_call 21; refine (finish_z h5).mono ?_; rintro e wq ⟨rfl, rfl⟩) | (go_at_call 22; refine (quit_z h5 ob).mono ?_; rintro e wq ⟨rfl, rfl⟩))
  go_ret
  exact ⟨rfl, K5⟩
set_option maxHeartbeats 800000 in
set_option maxRecDepth 1000000 in
theorem none_walk (w : World) (ob va vb : Int) (vd : Bool) : Calls Tryz.prog 3 #[.int .i64 ob, .agg #[.int .i64 va, .int .i64 vb, .bool vd]] w fun e w' => e = .returned (.bool true) ∧ Keeps (fun _ => False) w w' := by
  obtain ⟨w0, hw0⟩ : ∃ w0, w0 = (w.alloc (.cells #[.int .i64 va, .int .i64 vb, .bool vd] 23)).alloc (.cells #[.pointer none, .pointer none, .pointer none, .pointer none, .pointer none, .int .i64 0, .int .i64 0, .int .i64 0, .int .i64 0, .int .i64 0, .int .i64 0, .int .i64 0, .bool false] 34) := ⟨_, rfl⟩
  have k0 : Keeps (fun _ => False) w w0 := by rw [hw0]; exact ((Keeps.refl _ w).alloc _).alloc _
  have hb : CL w0 w.heap.size [.int .i64 va, .int .i64 vb, .bool vd] := by rw [hw0]; exact (CL.made _ _ _).alloc (by show 0 < 3; decide) _
  have hz : NZ w0 (.pointer (some ⟨w.heap.size + 1, 0, none⟩)) := ⟨.inr ⟨_, rfl, by rw [hw0]; simp, by rw [hw0]; simp⟩⟩
  have hn : NZ w0 (.pointer none) := ⟨.inl rfl⟩
  have b0 := hb.c 0 _ rfl
  have b1 := hb.c 1 _ rfl
  have b2 := hb.c 2 _ rfl
  go_enter Tryz.func3, Tryz.ntmps3
  go_wp2_with fail
  rw [← hw0]
  clear hw0
  go_wp2_with fail
  refine (nothing_z hz ob va vb vd).mono ?_
  rintro e w1 ⟨rfl, k1⟩
  have c0 := k1.cell b0 (fun e => e)
  have c1 := k1.cell b1 (fun e => e)
  have c2 := k1.cell b2 (fun e => e)
  clear b0 b1 b2
  go_wp2_with fail
  refine (nothing_z (hn.new k1) ob va vb vd).mono ?_
  rintro e w2 ⟨rfl, k2⟩
  have d0 := k2.cell c0 (fun e => e)
  have d1 := k2.cell c1 (fun e => e)
  have d2 := k2.cell c2 (fun e => e)
  clear c0 c1 c2
  go_wp2_with fail
  refine (nothing_z ((hz.new k1).new k2) 0 va vb vd).mono ?_
  rintro e w3 ⟨rfl, k3⟩
  go_wp2_with fail
  go_ret
  exact ⟨rfl, ((k0.trans k1).trans k2).trans k3⟩
theorem none_law (w : World) (_ : TR w) (ob : Int) (_ : I64 ob) (va vb : Int) (vd : Bool) : Calls Tryz.prog 3 #[.int .i64 ob, .agg #[.int .i64 va, .int .i64 vb, .bool vd]] w fun e w' => e = .returned (.bool true) ∧ Below w.heap.size w w' :=
  (none_walk w ob va vb vd).mono (by rintro e w' ⟨rfl, k⟩; exact ⟨rfl, k.below (Nat.le_refl _) (fun _ _ e => e)⟩)
/-- A value that was handed in. -/
theorem open_vl {H : Type} {enc : TypeId × Value → H} {P : Program} {W : World} {base : Nat} {spare : Nat → Bool} {held : Bool} {r : Reach} {b0 : Nat} {e : TypeId} {f0 f1 f2 : Field} {v : Value} {d : DataW H} {ps : List MemPlace}
    (hs : P.underlying e = some (.struct #[f0, f1, f2])) (ce : P.cellsOf e = 3) (o0 : f0.offset = 0) (o1 : f1.offset = 1) (o2 : f2.offset = 2) (c0 : P.cellsOf f0.type = 1) (c1 : P.cellsOf f1.type = 1) (c2 : P.cellsOf f2.type = 1) (u0 : P.underlying f0.type = some (.int .i64)) (u1 : P.underlying f1.type = some (.int .i64)) (u2 : P.underlying f2.type = some .bool)
    (hval : Value.okWide P W r b0 e v) (hd : DataW.Trod enc P W base spare held e v d ps) : ∃ (va vb : Int) (vd : Bool), v = .agg #[.int .i64 va, .int .i64 vb, .bool vd] := by
  obtain ⟨cs, rfl, hsz⟩ := okWide_struct hs hval
  rw [ce] at hsz
  obtain ⟨fuel, h2⟩ := hd
  obtain ⟨xs, k, hk, hxy, _, hxl, hf⟩ := DataW.trod_struct hs h2
  obtain ⟨cl⟩ := cs
  simp only [List.size_toArray] at hsz
  match xs, hxl, cl, hsz with
  | [y0, y1, y2], _, [v0, v1, v2], _ =>
    have G0 := hf 0 f0 rfl
    have G1 := hf 1 f1 rfl
    have G2 := hf 2 f2 rfl
    simp [Value.cells, o0, o1, o2, c0, c1, c2] at G0 G1 G2
    obtain ⟨q0, r0, _, w0⟩ := DataW.trod_int u0 G0
    obtain ⟨q1, r1, _, w1⟩ := DataW.trod_int u1 G1
    obtain ⟨q2, r2, _⟩ := DataW.trod_bool u2 G2
    simp at r0 r1 r2
    subst r0 r1 r2
    exact ⟨q0, q1, q2, rfl⟩
end Go.Proofs.YtefnjcdcdfmgpaaGreatDoor
