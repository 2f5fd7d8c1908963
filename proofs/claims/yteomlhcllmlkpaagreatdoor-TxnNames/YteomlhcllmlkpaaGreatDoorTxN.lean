import Derived.Test.YteomlhcllmlkpaaGreatDoorTxM
namespace Go.Proofs.YteomlhcllmlkpaaGreatDoor
open Go.RowKit Go.Maps Go.ChangeMaps Go.MapKept Go.WideShapes
attribute [local go_sem] Oper.semAt_some run_store_nf run_store_f
/-- A scene, seen from where it was asked for. -/
structure Sc0 (w : World) (mb wb gb _db : Nat) (W : World) : Prop where
  st : ∃ ρ, St W ρ 1 2 wb mb (nw [⟨7, 0, false⟩] 0 1) (nm Mm.new 1) ∧ (∀ k, k < w.heap.size → ρ k = 0) ∧ ρ gb = 0
  mg : Mg W gb 0 9
  k : Keeps (fun _ => False) w W
  g : w.heap.size ≤ gb
section
variable {w w' : World}
set_option maxHeartbeats 4000000 in
set_option maxRecDepth 1000000 in
theorem scene0 {vb : Nat} (hv : w.cell? ⟨vb, 0, none⟩ = some (.int .i64 7)) :
    Calls Tryz.prog 5 #[.agg #[.int .i64 0, .int .i64 9, .slice none 0 0, .slice (some ⟨vb, 0, none⟩) 1 1]] w fun e w' => ∃ mb wb gb db, e = .returned (.tuple #[.agg #[.pointer (some ⟨mb, 0, none⟩), .pointer (some ⟨wb, 0, none⟩), .pointer (some ⟨gb, 0, none⟩), .pointer (some ⟨db, 0, none⟩)], .bool true]) ∧ Sc0 w mb wb gb db w' := by
  obtain ⟨w0, hw0⟩ : ∃ w0, w0 = (w.alloc (.cells #[.int .i64 0, .int .i64 9, .slice none 0 0, .slice (some ⟨vb, 0, none⟩) 1 1] 33)).alloc (.cells #[.pointer none, .pointer none, .pointer none, .pointer none] 28) := ⟨_, rfl⟩
  have k0 : Keeps (fun _ => False) w w0 := by rw [hw0]; exact ((Keeps.refl _ w).alloc _).alloc _
  have hU : CL w0 w.heap.size [.int .i64 0, .int .i64 9, .slice none 0 0, .slice (some ⟨vb, 0, none⟩) 1 1] := by
    rw [hw0]; exact (CL.made w [.int .i64 0, .int .i64 9, .slice none 0 0, .slice (some ⟨vb, 0, none⟩) 1 1] _).alloc (by show 0 < 4; decide) _
  have hRR : CL w0 (w.heap.size + 1) [.pointer none, .pointer none, .pointer none, .pointer none] := by
    rw [hw0]
    refine cast ?_ (CL.made (w.alloc (.cells #[.int .i64 0, .int .i64 9, .slice none 0 0, .slice (some ⟨vb, 0, none⟩) 1 1] 33)) [.pointer none, .pointer none, .pointer none, .pointer none] 28)
    congr 1
    simp
  go_enter Tryz.func5, Tryz.ntmps5
  go_wp2_with fail
  rw [← hw0]
  clear hw0
  rename_i K hK
  have hr := hRR
  have hu : CL w0 w.heap.size [.int .i64 0, .int .i64 9, .slice none 0 0, .slice (some ⟨vb, 0, none⟩) 1 1] := hU
  have rest : ∀ (mb sl B db : Nat) (W : World), S1 w0 mb B db W → K { tmps := #[.agg #[.int .i64 0, .int .i64 9, .slice none 0 0, .slice (some ⟨vb, 0, none⟩) 1 1], .pointer (some ⟨w.heap.size, 0, none⟩), .pointer (some ⟨w.heap.size + 1, 0, none⟩), .bool false, .pointer (some ⟨B, 0, none⟩), undef, undef, undef, undef, .pointer (some ⟨mb, 0, none⟩), .slice (some ⟨sl, 0, none⟩) 0 0, .pointer (some ⟨w.heap.size, 2, none⟩), .slice none 0 0, .slice (some ⟨sl, 0, none⟩) 0 0, .pointer (some ⟨db, 0, none⟩), .agg #[.pointer (some ⟨mb, 0, none⟩), .pointer none, .pointer none, .pointer (some ⟨db, 0, none⟩)], undef, undef, undef, undef, undef, undef, undef, undef, undef, undef, undef, undef, undef, undef, undef, undef, undef, undef, undef, undef, undef, undef, undef, undef, undef, undef, undef, undef, undef, undef, undef, undef, undef, undef, undef, undef, undef, undef, undef, undef, undef, undef, undef, undef, undef, undef, undef], defers := [] } W := by
    intro mb sl B db W h
    refine hK _ _ (scene_rest h hu hr (k0.cell hv (fun e => e)) (fun wb gb w' hS => ⟨mb, wb, gb, db, rfl, ?_⟩))
    obtain ⟨ρ2, st, hz, hg⟩ := hS.st
    have l0 := k0.size
    exact ⟨⟨ρ2, st, fun k hk => hz k (by omega), hg⟩, hS.mg, k0.trans' hS.k (fun _ _ e => e) (fun i hi e => by omega), by have := hS.g; omega⟩
  have happ : ∀ (sl : Nat) (W : World), (Builtin.append_ #[31, 31] 31 #[.slice (some ⟨sl, 0, none⟩) 0 0, .slice none 0 0]).run Tryz.prog W = .ok (.slice (some ⟨sl, 0, none⟩) 0 0) W := fun _ _ => rfl
  clear hK
  have u2 := hu.c 2 _ rfl
  have l0 : w.heap.size < w0.heap.size := hu.lt (by show 0 < 4; decide)
  have m1 : ¬ w0.heap.size = w.heap.size := by omega
  have m2 : ¬ w0.heap.size + 1 = w.heap.size := by omega
  have m3 : ¬ w.heap.size = w0.heap.size := by omega
  have m4 : ¬ w.heap.size = w0.heap.size + 1 := by omega
  go_region_held3 (fun w' => w'.cell? ⟨w.heap.size, 2, none⟩ = some (.slice none 0 0)) (go_keep) (first | (go_at_call 14; refine (new_any _).mono ?_; rintro e Wa ⟨rfl, hmi, ka⟩; have ua := ka.cell (p := ⟨w.heap.size, 2, none⟩) (by assumption) (fun e => e); (try simp only [sz_drew] at hmi); (try simp only [sz_alloc] at hmi); have lm := hmi.lt _ (List.mem_cons_self ..); (first | (have qB := CL.p2 ka; (try simp only [sz_alloc] at qB)) | (have qB := CL.p1 ka; (try simp only [sz_alloc] at qB)) | skip); have K1 : Keeps (fun _ => False) w0 Wa := (by first | exact (Keeps.refl _ w0).drew.trans ka | exact ((Keeps.refl _ w0).alloc _).drew.trans ka | exact (((Keeps.refl _ w0).alloc _).alloc _).drew.trans ka); have l1 := K1.size; have n1 : ¬ Wa.heap.size = w.heap.size := (by omega); have n2 : ¬ Wa.heap.size + 1 = w.heap.size := (by omega); have n3 : ¬ w.heap.size = Wa.heap.size := (by omega); have n4 : ¬ w.heap.size = Wa.heap.size + 1 := (by omega)) | (go_at_call 15; refine (draws0 _ _ _).mono ?_; rintro e Wb ⟨db, rfl, hdb, kb⟩; have ub := kb.cell (p := ⟨w.heap.size, 2, none⟩) (by assumption) (fun e => e); (try simp only [sz_alloc] at hdb); have K2 : Keeps (fun _ => False) Wa Wb := (by first | exact kb | exact ((Keeps.refl _ Wa).alloc _).trans kb | exact (((Keeps.refl _ Wa).alloc _).alloc _).trans kb); (first | (have qB2 := CL.p4 kb; (try simp only [sz_alloc] at qB2); have b0 := qB2.c 0 _ rfl; have zb0 := qB2.z 0 (by show 0 < 4; decide); have b1 := qB2.c 1 _ rfl; have zb1 := qB2.z 1 (by show 1 < 4; decide); have b2 := qB2.c 2 _ rfl; have zb2 := qB2.z 2 (by show 2 < 4; decide); have b3 := qB2.c 3 _ rfl; have zb3 := qB2.z 3 (by show 3 < 4; decide)) | (have qB2 := CL.p3 kb; (try simp only [sz_alloc] at qB2); have b0 := qB2.c 0 _ rfl; have zb0 := qB2.z 0 (by show 0 < 4; decide); have b1 := qB2.c 1 _ rfl; have zb1 := qB2.z 1 (by show 1 < 4; decide); have b2 := qB2.c 2 _ rfl; have zb2 := qB2.z 2 (by show 2 < 4; decide); have b3 := qB2.c 3 _ rfl; have zb3 := qB2.z 3 (by show 3 < 4; decide)) | (have qB2 := CL.p6 qB kb; have b0 := qB2.c 0 _ rfl; have zb0 := qB2.z 0 (by show 0 < 4; decide); have b1 := qB2.c 1 _ rfl; have zb1 := qB2.z 1 (by show 1 < 4; decide); have b2 := qB2.c 2 _ rfl; have zb2 := qB2.z 2 (by show 2 < 4; decide); have b3 := qB2.c 3 _ rfl; have zb3 := qB2.z 3 (by show 3 < 4; decide)) | (have qB2 := CL.p5 qB kb; have b0 := qB2.c 0 _ rfl; have zb0 := qB2.z 0 (by show 0 < 4; decide); have b1 := qB2.c 1 _ rfl; have zb1 := qB2.z 1 (by show 1 < 4; decide); have b2 := qB2.c 2 _ rfl; have zb2 := qB2.z 2 (by show 2 < 4; decide); have b3 := qB2.c 3 _ rfl; have zb3 := qB2.z 3 (by show 3 < 4; decide)) | skip)))
  all_goals
    have l2 := K2.size
    show K _ _
    first
      | exact rest _ _ _ _ _ ⟨(hmi.new K2).new ((Keeps.refl _ Wb).alloc _), CL.made Wb [_, .pointer none, .pointer none, .pointer (some ⟨db, 0, none⟩)] _, (K1.trans K2).alloc _, by omega, by omega, by omega, by omega⟩
      | exact rest _ _ _ _ _ ⟨(hmi.new K2).keep (((((Keeps.refl _ Wb).setA 0 _).setA 1 _).setA 2 _).setA 3 _) (fun i hi e => by simp at hi; omega), (((qB2.set (o := 0) (by show 0 < 4; decide) _).set (o := 1) (by show 1 < 4; decide) _).set (o := 2) (by show 2 < 4; decide) _).set (o := 3) (by show 3 < 4; decide) _, (K1.trans K2).trans' (((((Keeps.refl _ Wb).setA 0 _).setA 1 _).setA 2 _).setA 3 _) (fun _ _ e => e) (fun i hi e => by omega), by omega, by omega, by omega, by omega⟩
end
end Go.Proofs.YteomlhcllmlkpaaGreatDoor
