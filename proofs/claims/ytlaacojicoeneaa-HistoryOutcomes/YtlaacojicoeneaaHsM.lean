import Derived.Test.YtlaacojicoeneaaHsMa
namespace Go.Proofs.Ytlaacojicoeneaa
open Go.RowKit
set_option maxHeartbeats 1000000 in
set_option maxRecDepth 100000 in
theorem life_any (w : World) : Calls Try.prog 8 #[] w fun e w' => ∃ (l : List Rw) (a : Option Addr) (cap : Nat), e = .returned (.slice a l.length cap) ∧ l.length = 6 ∧ RSL w' a l ∧ (a = none → cap = 0) ∧ Keeps (fun _ => False) w w' := by
  obtain ⟨W4, hW4⟩ : ∃ W4, W4 = w.alloc (.cells #[.int .i64 0, .int .i64 0, .int .i64 0, .int .i64 0, .int .i64 0, .int .i64 0, .int .i64 0, .int .i64 0, .int .i64 0, .int .i64 0, .int .i64 0, .int .i64 0, .int .i64 0, .bool false, .bool false, .bool false, .int .i64 0, .bool false, .int .i64 0, .int .i64 0, .bool false, .bool false, .int .i64 0, .int .i64 0, .bool false, .int .i64 0] 39) := ⟨_, rfl⟩
  have k4 : Keeps (fun _ => False) w W4 := by rw [hW4]; exact (Keeps.refl _ w).alloc _
  have hU4 : CL W4 w.heap.size rw0.cells := by rw [hW4]; exact CL.made w rw0.cells _
  have hz4 : W4.heap.size = w.heap.size + 1 := by rw [hW4]; simp
  have hOC : (#[.int .i64 0, .int .i64 0, .int .i64 0, .int .i64 1, .int .i64 1, .int .i64 0, .int .i64 0, .int .i64 (-1), .int .i64 (-1), .int .i64 (-1), .int .i64 (-1), .int .i64 0, .int .i64 0, .bool false, .bool false, .bool false, .int .i64 0, .bool false, .int .i64 0, .int .i64 0, .bool false, .bool false, .int .i64 0, .int .i64 0, .bool false, .int .i64 0] : Array Value).all (·.oneCell') = true := all_oneCell_rw rLife
  have HW4 : Hid (W4 = w.alloc (.cells #[.int .i64 0, .int .i64 0, .int .i64 0, .int .i64 0, .int .i64 0, .int .i64 0, .int .i64 0, .int .i64 0, .int .i64 0, .int .i64 0, .int .i64 0, .int .i64 0, .int .i64 0, .bool false, .bool false, .bool false, .int .i64 0, .bool false, .int .i64 0, .int .i64 0, .bool false, .bool false, .int .i64 0, .int .i64 0, .bool false, .int .i64 0] 39)) := hW4
  clear hW4
  go_enter Try.func8, Try.ntmps8
  go_wp2_with ((rw [← HW4.out]; clear HW4; refine wpList_store_cl rfl 39 _ _ rfl w.heap.size 0 26 _ rfl rfl rfl hU4 (by show 26 ≤ 26; decide) iRw hOC ?_; intro w1 hc5 k5 hsz5))
  have hI1 : CL w1 w.heap.size rLife.cells := hc5
  have K1 : Keeps (fun _ => False) w w1 := k4.trans' k5 (fun _ _ e => e) (fun i hi e => by have e : i = w.heap.size := e; omega)
  clear hc5 k5 hsz5 hU4 k4 hz4 hOC
  refine wp_region_held_drew (S := fun w' => Keeps (fun _ => False) w1 w') (by kernel_rfl) (Keeps.refl _ w1).drew (fun hHeld => ?_)
  refine wpAnyH_take (i := 0) (v := (.agg rLife.cells.toArray)) rfl (by kernel_rfl) (by kernel_rfl) (by kernel_rfl) (fun _ _ _ h => h) (Or.inl ⟨by rfl, ?_⟩) (by assumption) ?_
  · intro wx hSw; exact takes_load 39 _ rfl ⟨w.heap.size, 0, none⟩ rfl (run_rw (hI1.keep (by show 0 < 26; decide) hSw (fun e => e)))
  (try simp only [List.getElem_toArray]); (try simp only [List.getElem_cons_succ]); (try simp only [List.getElem_cons_zero]); (try simp only [Act.put]); (try simp only [List.setIfInBounds_toArray]); (repeat first | simp only [List.set_cons_succ] | simp only [List.set_cons_zero])
  refine wpAnyH_take (i := 1) (v := (.agg rLife.cells.toArray)) rfl (by kernel_rfl) (by kernel_rfl) (by kernel_rfl) (fun _ _ _ h => h) (Or.inl ⟨by rfl, ?_⟩) (by assumption) ?_
  · intro wx hSw; exact takes_load 39 _ rfl ⟨w.heap.size, 0, none⟩ rfl (run_rw (hI1.keep (by show 0 < 26; decide) hSw (fun e => e)))
  (try simp only [List.getElem_toArray]); (try simp only [List.getElem_cons_succ]); (try simp only [List.getElem_cons_zero]); (try simp only [Act.put]); (try simp only [List.setIfInBounds_toArray]); (repeat first | simp only [List.set_cons_succ] | simp only [List.set_cons_zero])
  refine wpAnyH_take (i := 2) (v := (.agg rLife.cells.toArray)) rfl (by kernel_rfl) (by kernel_rfl) (by kernel_rfl) (fun _ _ _ h => h) (Or.inl ⟨by rfl, ?_⟩) (by assumption) ?_
  · intro wx hSw; exact takes_load 39 _ rfl ⟨w.heap.size, 0, none⟩ rfl (run_rw (hI1.keep (by show 0 < 26; decide) hSw (fun e => e)))
  (try simp only [List.getElem_toArray]); (try simp only [List.getElem_cons_succ]); (try simp only [List.getElem_cons_zero]); (try simp only [Act.put]); (try simp only [List.setIfInBounds_toArray]); (repeat first | simp only [List.set_cons_succ] | simp only [List.set_cons_zero])
  refine wpAnyH_take (i := 3) (v := (.agg rLife.cells.toArray)) rfl (by kernel_rfl) (by kernel_rfl) (by kernel_rfl) (fun _ _ _ h => h) (Or.inl ⟨by rfl, ?_⟩) (by assumption) ?_
  · intro wx hSw; exact takes_load 39 _ rfl ⟨w.heap.size, 0, none⟩ rfl (run_rw (hI1.keep (by show 0 < 26; decide) hSw (fun e => e)))
  (try simp only [List.getElem_toArray]); (try simp only [List.getElem_cons_succ]); (try simp only [List.getElem_cons_zero]); (try simp only [Act.put]); (try simp only [List.setIfInBounds_toArray]); (repeat first | simp only [List.set_cons_succ] | simp only [List.set_cons_zero])
  refine wpAnyH_take (i := 4) (v := (.agg rLife.cells.toArray)) rfl (by kernel_rfl) (by kernel_rfl) (by kernel_rfl) (fun _ _ _ h => h) (Or.inl ⟨by rfl, ?_⟩) (by assumption) ?_
  · intro wx hSw; exact takes_load 39 _ rfl ⟨w.heap.size, 0, none⟩ rfl (run_rw (hI1.keep (by show 0 < 26; decide) hSw (fun e => e)))
  (try simp only [List.getElem_toArray]); (try simp only [List.getElem_cons_succ]); (try simp only [List.getElem_cons_zero]); (try simp only [Act.put]); (try simp only [List.setIfInBounds_toArray]); (repeat first | simp only [List.set_cons_succ] | simp only [List.set_cons_zero])
  refine wpAnyH_take (i := 5) (v := (.agg rLife.cells.toArray)) rfl (by kernel_rfl) (by kernel_rfl) (by kernel_rfl) (fun _ _ _ h => h) (Or.inl ⟨by rfl, ?_⟩) (by assumption) ?_
  · intro wx hSw; exact takes_load 39 _ rfl ⟨w.heap.size, 0, none⟩ rfl (run_rw (hI1.keep (by show 0 < 26; decide) hSw (fun e => e)))
  (try simp only [List.getElem_toArray]); (try simp only [List.getElem_cons_succ]); (try simp only [List.getElem_cons_zero]); (try simp only [Act.put]); (try simp only [List.setIfInBounds_toArray]); (repeat first | simp only [List.set_cons_succ] | simp only [List.set_cons_zero])
  refine life_allocs (.pointer (some ⟨w.heap.size, 0, none⟩)) _ (fun w2 p hne hcl k2 hp => ?_) 6 (fun _ => false) (fun _ => undef) (fun _ => 0) _ rfl (fun k hk h => by cases h) (fun j k hj hk h => by cases h) hHeld
  have hLB : LB w1 w2 p (fun _ => rLife.cells) := ⟨hcl, hp, hne, fun _ => rfl, k2⟩
  clear hcl hp hne k2 hHeld hI1
  obtain ⟨ie, hie, hz0, hz1, -⟩ := iRows
  simp only [lfF, lfP]
  go_wp2_with (first | (refine wpList_store_lbI rfl rfl _ _ rfl _ _ rfl _ rfl hLB (by decide) (by decide) ?_; clear hLB; intro wn hLB) | (refine wpList_store_lbB rfl rfl _ _ rfl _ _ rfl _ rfl hLB (by decide) (by decide) ?_; clear hLB; intro wn hLB) | (refine wpList_store_lbV rfl rfl _ _ rfl _ _ rfl _ _ _ rfl hLB (by decide) (by decide) ?_; clear hLB; intro wn hLB) | (refine wpList_stop 43 rfl ?_; unfold Hid; refine wpList_load_run rfl 39 _ rfl ⟨p 0, 0, none⟩ rfl _ (hLB.load (k := 0) (by decide) rL0 (by kernel_rfl)) ?_; (try simp only [Act.put, List.setIfInBounds_toArray, List.set_cons_zero, List.set_cons_succ]); refine wpList_load_run rfl 39 _ rfl ⟨p 1, 0, none⟩ rfl _ (hLB.load (k := 1) (by decide) rL1 (by kernel_rfl)) ?_; (try simp only [Act.put, List.setIfInBounds_toArray, List.set_cons_zero, List.set_cons_succ]); refine wpList_load_run rfl 39 _ rfl ⟨p 2, 0, none⟩ rfl _ (hLB.load (k := 2) (by decide) rL2 (by kernel_rfl)) ?_; (try simp only [Act.put, List.setIfInBounds_toArray, List.set_cons_zero, List.set_cons_succ]); refine wpList_load_run rfl 39 _ rfl ⟨p 3, 0, none⟩ rfl _ (hLB.load (k := 3) (by decide) rL3 (by kernel_rfl)) ?_; (try simp only [Act.put, List.setIfInBounds_toArray, List.set_cons_zero, List.set_cons_succ]); refine wpList_load_run rfl 39 _ rfl ⟨p 4, 0, none⟩ rfl _ (hLB.load (k := 4) (by decide) rL4 (by kernel_rfl)) ?_; (try simp only [Act.put, List.setIfInBounds_toArray, List.set_cons_zero, List.set_cons_succ]); refine wpList_load_run rfl 39 _ rfl ⟨p 5, 0, none⟩ rfl _ (hLB.load (k := 5) (by decide) rL5 (by kernel_rfl)) ?_; (try simp only [Act.put, List.setIfInBounds_toArray, List.set_cons_zero, List.set_cons_succ]); refine wpList_buildSlice rfl 22 39 6 _ rfl (rcl lifeL).toArray ie _ uRows hie hz0 (by rw [hz1]; decide) (by rw [hz1]; decide) (by rw [hz1]; kernel_rfl) ?_; (try simp only [Act.put, List.setIfInBounds_toArray, List.set_cons_zero, List.set_cons_succ])))
  go_ret
  exact ⟨lifeL, some ⟨wn.heap.size, 0, none⟩, 6, rfl, rfl, life_rsl wn, (fun e => by cases e), K1.trans (hLB.kp.alloc _)⟩
end Go.Proofs.Ytlaacojicoeneaa
