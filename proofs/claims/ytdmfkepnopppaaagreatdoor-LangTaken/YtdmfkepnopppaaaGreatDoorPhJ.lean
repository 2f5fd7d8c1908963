import Derived.Test.YtdmfkepnopppaaaGreatDoorPhI
namespace Go.Proofs.YtdmfkepnopppaaaGreatDoor
open Go.RowKit Go.Deep Go.ChangeShapes Go.WideShapes Go.ChangeAt
attribute [local go_sem] Oper.semAt_some run_store_nf run_store_f
def txt1 : ByteArray := ⟨#[116, 97, 107, 101, 32, 114, 50, 32, 64, 114, 49, 10, 120, 111, 114, 32, 114, 50, 32, 114, 50, 32, 55]⟩
theorem rd1 : rd (lns txt1) 0 [] = some [(⟨2, 2, true, 1, false, 0, false, 0, 0, 0, 0⟩ : Ins), (⟨6, 2, false, 0, true, 2, false, 7, 8, 0, 0⟩ : Ins)] := by kernel_rfl
theorem ln1 : ∀ x ∈ lns txt1, x.size ≤ 4096 := by
  have h : lns txt1 = [⟨#[116, 97, 107, 101, 32, 114, 50, 32, 64, 114, 49]⟩, ⟨#[120, 111, 114, 32, 114, 50, 32, 114, 50, 32, 55]⟩] := by kernel_rfl
  rw [h]
  intro x hx
  rcases (by simpa using hx : x = _ ∨ x = _) with rfl | rfl <;> decide
/-- A store of many cells in a drawn region; the world behind it is a letter. -/
theorem wpAnyH_storeL {P : Program} {ops : Array Oper} {Q : Exit → Act → World → Prop} {md : Region.Mode} {S : World → Prop} {fuel : Nat} {listed : Array Bool} {a : Act} {w : World} {o : Oper} (i : Nat) (hr : Region.ready md ops listed = [i]) (hoi : ops[i]? = some o) (hgd : o.guard = none)
    (ty : TypeId) (x y : Operand) (ho : o.op = .store ty x y) (b n : Nat) (cells : Array Value) (hx : a.eval x = .pointer (some ⟨b, 0, none⟩)) (hy : a.eval y = .agg cells) (hn : cells.size = n) {l : List Value} (hC : CL w b l) (hl : l.length = n) (hi : (P.info? ty).map (·.size) = some n) (h1 : cells.all (·.oneCell') = true)
    (hS : ∀ w1, Keeps (fun k => k = b) w w1 → S w1) (h : ∀ w1, CL w1 b cells.toList → Keeps (fun k => k = b) w w1 → S w1 → wpAnyH P md ops Q S fuel (listed.setIfInBounds i true) (a.put o.dst undef) w1) : wpAnyH P md ops Q S (fuel + 1) listed a w := by
  have kk : Keeps (fun k => k = b) w (w.setCells b 0 cells.toList) := (Keeps.refl _ w).setsA _ _
  have cc : CL (w.setCells b 0 cells.toList) b cells.toList := by
    have h2 := hC.sets (o := 0) (vs := cells.toList) (by simp; omega)
    have e : sets l 0 cells.toList = cells.toList := by
      unfold sets
      rw [List.take_zero, List.nil_append, List.drop_eq_nil_of_le (by simp; omega), List.append_nil]
    rw [e] at h2
    exact h2
  exact wpAnyH_store i hr hoi hgd ty x y ho b 0 n cells hx hy hn (hC.there (by omega)) hi h1 (hS _ kk) (fun hs => h _ cc kk hs)
theorem store_q' {W : World} {b : Nat} (h : CL W b ins0.cells) (q : Ins) : CL (W.setCells b 0 q.cells.toArray.toList) b q.cells ∧ Keeps (fun k => k = b) W (W.setCells b 0 q.cells.toArray.toList) := ⟨h.sets (by show 0 + 11 ≤ 11; decide), (Keeps.refl _ W).setsA _ _⟩
set_option maxHeartbeats 800000 in
set_option maxRecDepth 1000000 in
theorem fixed_ok {w : World} (hT : PT w) (hNT : NT w) : Calls Tryz.prog 5 #[] w fun e w' => e = .returned (.bool true) ∧ Keeps (fun _ => False) w w' := by
  have hP := parse_ok txt1 (by decide) hT hNT rd1 ln1
  clear hT hNT
  go_enter Tryz.func5, Tryz.ntmps5
  go_wp2_with fail
  refine (show Calls Tryz.prog 6 #[.string txt1] w _ from hP).mono ?_
  clear hP
  rintro e w1 ⟨v, rfl, hown, k1⟩
  obtain ⟨a, cap, rfl, hI⟩ := isl_of_owns hown rfl
  obtain ⟨b, off, rfl, hc0⟩ := hI 0 (by decide)
  obtain ⟨b', off', e', hc1⟩ := hI 1 (by decide)
  obtain ⟨rfl, rfl⟩ : b = b' ∧ off = off' := by
    injection e' with e'; injection e' with e1 e2 _; exact ⟨e1, e2⟩
  clear e' hI hown
  have hl2 : ([(⟨2, 2, true, 1, false, 0, false, 0, 0, 0, 0⟩ : Ins), (⟨6, 2, false, 0, true, 2, false, 7, 8, 0, 0⟩ : Ins)] : List Ins).length = 2 := rfl
  rw [hl2]
  clear hl2
  have hc0' : ∀ j v, (⟨2, 2, true, 1, false, 0, false, 0, 0, 0, 0⟩ : Ins).cells[j]? = some v → w1.cell? ⟨b, off + j, none⟩ = some v := fun j v e => by have := hc0 j v e; rw [Nat.zero_mul, Nat.add_zero] at this; exact this
  have hc1' : ∀ j v, (⟨6, 2, false, 0, true, 2, false, 7, 8, 0, 0⟩ : Ins).cells[j]? = some v → w1.cell? ⟨b, off + 11 + j, none⟩ = some v := fun j v e => by have := hc1 j v e; rw [Nat.one_mul] at this; exact this
  clear hc0 hc1
  obtain ⟨wr, hwr⟩ : ∃ wr, wr = w1.alloc (.cells #[.int .i64 0, .int .i64 0, .int .i64 0] 26) := ⟨_, rfl⟩
  have K1 : Keeps (fun _ => False) w1 wr := by rw [hwr]; exact (Keeps.refl _ w1).alloc _
  have HWR : Hid (_ = _) := hwr
  clear hwr
  have KR := k1.trans K1
  have Q1c : Hid (∀ j v, (⟨2, 2, true, 1, false, 0, false, 0, 0, 0, 0⟩ : Ins).cells[j]? = some v → wr.cell? ⟨b, off + j, none⟩ = some v) := fun j v e => K1.cell (hc0' j v e) (fun e => e)
  have Q2c : Hid (∀ j v, (⟨6, 2, false, 0, true, 2, false, 7, 8, 0, 0⟩ : Ins).cells[j]? = some v → wr.cell? ⟨b, off + 11 + j, none⟩ = some v) := fun j v e => K1.cell (hc1' j v e) (fun e => e)
  clear hc0' hc1' k1 K1
  go_wp2_with fail
  rw [← HWR.out]
  clear HWR
  refine wp_region_held_drew (S := fun w' => Keeps (fun _ => False) wr w') (by kernel_rfl) (Keeps.refl _ wr).drew (fun hHeld => ?_)
  refine wpAnyH_take (i := 0) (v := ?_) rfl (by kernel_rfl) (by kernel_rfl) (by kernel_rfl) (fun _ _ _ h => h) (Or.inl ⟨by rfl, ?_⟩) (by assumption) ?_
  rotate_left
  · intro wx hSw;  go_simp <;> with_reducible rfl
  (try simp only [List.getElem_toArray]); (try simp only [List.getElem_cons_succ]); (try simp only [List.getElem_cons_zero]); (try simp only [Act.put]); (try simp only [List.setIfInBounds_toArray]); (repeat first | simp only [List.set_cons_succ] | simp only [List.set_cons_zero])
  refine wpAnyH_take (i := 1) (v := ?_) rfl (by kernel_rfl) (by kernel_rfl) (by kernel_rfl) (fun _ _ _ h => h) (Or.inl ⟨by rfl, ?_⟩) (by assumption) ?_
  rotate_left
  · intro wx hSw;  go_simp <;> with_reducible rfl
  (try simp only [List.getElem_toArray]); (try simp only [List.getElem_cons_succ]); (try simp only [List.getElem_cons_zero]); (try simp only [Act.put]); (try simp only [List.setIfInBounds_toArray]); (repeat first | simp only [List.set_cons_succ] | simp only [List.set_cons_zero])
  refine wpAnyH_take (i := 2) (v := .agg #[.int .i64 2, .int .i64 2, .bool true, .int .i64 1, .bool false, .int .i64 0, .bool false, .int .i64 0, .int .i64 0, .int .i64 0, .int .i64 0]) rfl (by kernel_rfl) (by kernel_rfl) (by kernel_rfl) (fun _ _ _ h => h) (Or.inl ⟨by rfl, ?_⟩) (by assumption) ?_
  · intro wx hSw
    have hSw : Keeps (fun _ => False) wr wx := hSw
    exact takes_load' 45 _ rfl ⟨b, off, none⟩ rfl (run_insAt (q := (⟨2, 2, true, 1, false, 0, false, 0, 0, 0, 0⟩ : Ins)) (fun j v e => hSw.cell (Q1c.out j v e) (fun e => e)) ⟨_, Tryz.underlying45⟩ iIn)
  (try simp only [List.getElem_toArray]); (try simp only [List.getElem_cons_succ]); (try simp only [List.getElem_cons_zero]); (try simp only [Act.put]); (try simp only [List.setIfInBounds_toArray]); (repeat first | simp only [List.set_cons_succ] | simp only [List.set_cons_zero])
  refine wpAnyH_take (i := 3) (v := ?_) rfl (by kernel_rfl) (by kernel_rfl) (by kernel_rfl) (fun _ _ _ h => h) (Or.inl ⟨by rfl, ?_⟩) (by assumption) ?_
  rotate_left
  · intro wx hSw;  go_simp <;> with_reducible rfl
  (try simp only [List.getElem_toArray]); (try simp only [List.getElem_cons_succ]); (try simp only [List.getElem_cons_zero]); (try simp only [Act.put]); (try simp only [List.setIfInBounds_toArray]); (repeat first | simp only [List.set_cons_succ] | simp only [List.set_cons_zero])
  refine wpAnyH_take (i := 4) (v := ?_) rfl (by kernel_rfl) (by kernel_rfl) (by kernel_rfl) (fun _ _ _ h => h) (Or.inl ⟨by rfl, ?_⟩) (by assumption) ?_
  rotate_left
  · intro wx hSw;  go_simp <;> with_reducible rfl
  (try simp only [List.getElem_toArray]); (try simp only [List.getElem_cons_succ]); (try simp only [List.getElem_cons_zero]); (try simp only [Act.put]); (try simp only [List.setIfInBounds_toArray]); (repeat first | simp only [List.set_cons_succ] | simp only [List.set_cons_zero])
  refine wpAnyH_take (i := 5) (v := .agg #[.int .i64 6, .int .i64 2, .bool false, .int .i64 0, .bool true, .int .i64 2, .bool false, .int .i64 7, .int .i64 8, .int .i64 0, .int .i64 0]) rfl (by kernel_rfl) (by kernel_rfl) (by kernel_rfl) (fun _ _ _ h => h) (Or.inl ⟨by rfl, ?_⟩) (by assumption) ?_
  · intro wx hSw
    have hSw : Keeps (fun _ => False) wr wx := hSw
    exact takes_load' 45 _ rfl ⟨b, off + 11, none⟩ rfl (run_insAt (q := (⟨6, 2, false, 0, true, 2, false, 7, 8, 0, 0⟩ : Ins)) (fun j v e => hSw.cell (Q2c.out j v e) (fun e => e)) ⟨_, Tryz.underlying45⟩ iIn)
  (try simp only [List.getElem_toArray]); (try simp only [List.getElem_cons_succ]); (try simp only [List.getElem_cons_zero]); (try simp only [Act.put]); (try simp only [List.setIfInBounds_toArray]); (repeat first | simp only [List.set_cons_succ] | simp only [List.set_cons_zero])
  have hA1 := all_oneCell_ins (⟨2, 2, true, 1, false, 0, false, 0, 0, 0, 0⟩ : Ins)
  have hA2 := all_oneCell_ins (⟨6, 2, false, 0, true, 2, false, 7, 8, 0, 0⟩ : Ins)
  have m0 := (CL.made wr ins0.cells 45).drew
  have m1 := (CL.made (wr.alloc (.cells ins0.cells.toArray 45)).drew ins0.cells 45)
  have s1 : (wr.alloc (.cells ins0.cells.toArray 45)).drew.heap.size = wr.heap.size + 1 := by simp [World.drew]
  rw [s1] at m1
  have m01 := m0.alloc (by show 0 < 11; decide) (.cells ins0.cells.toArray 45)
  refine wpAnyH_two' 6 7 (by kernel_rfl) rfl rfl (by rfl) (by rfl) ?_ ?_
  · go_simp
    refine ⟨hHeld.alloc _, fun hS1 => ?_⟩
    (try simp only [List.getElem_toArray]); (try simp only [List.getElem_cons_succ]); (try simp only [List.getElem_cons_zero]); (try simp only [Act.put]); (try simp only [List.setIfInBounds_toArray]); (repeat first | simp only [List.set_cons_succ] | simp only [List.set_cons_zero])
    refine wpAnyH_one 7 (by kernel_rfl) rfl rfl ?_
    go_simp
    refine ⟨hS1.alloc _, fun hS2 => ?_⟩
    (try simp only [List.getElem_toArray]); (try simp only [List.getElem_cons_succ]); (try simp only [List.getElem_cons_zero]); (try simp only [Act.put]); (try simp only [List.setIfInBounds_toArray]); (repeat first | simp only [List.set_cons_succ] | simp only [List.set_cons_zero])
    refine wpAnyH_storeL 8 (by kernel_rfl) rfl rfl 45 _ _ rfl (wr.heap.size) 11 _ rfl rfl rfl m01 rfl iIn hA1 (fun w1 k => hS2.trans' k (fun _ _ e => e) (fun i hi e => by have e : i = wr.heap.size := e; omega)) (fun W8 c8 k8 hS3 => ?_)
    (try simp only [List.getElem_toArray]); (try simp only [List.getElem_cons_succ]); (try simp only [List.getElem_cons_zero]); (try simp only [Act.put]); (try simp only [List.setIfInBounds_toArray]); (repeat first | simp only [List.set_cons_succ] | simp only [List.set_cons_zero])
    have m17 := m1.keep (by show 0 < 11; decide) k8 (fun e => by have e : wr.heap.size + 1 = wr.heap.size := e; omega)
    refine wpAnyH_storeL 9 (by kernel_rfl) rfl rfl 45 _ _ rfl (wr.heap.size + 1) 11 _ rfl rfl rfl m17 rfl iIn hA2 (fun w1 k => hS3.trans' k (fun _ _ e => e) (fun i hi e => by have e : i = wr.heap.size + 1 := e; omega)) (fun W9 c9 k9 hS4 => ?_)
    (try simp only [List.getElem_toArray]); (try simp only [List.getElem_cons_succ]); (try simp only [List.getElem_cons_zero]); (try simp only [Act.put]); (try simp only [List.setIfInBounds_toArray]); (repeat first | simp only [List.set_cons_succ] | simp only [List.set_cons_zero])
    refine wpAnyH_done (by kernel_rfl) ?_ _
    have C3 : CL W9 (wr.heap.size) (⟨2, 2, true, 1, false, 0, false, 0, 0, 0, 0⟩ : Ins).cells := c8.keep (by show 0 < 11; decide) k9 (fun e => by have e : wr.heap.size = wr.heap.size + 1 := e; omega)
    have C4 : CL W9 (wr.heap.size + 1) (⟨6, 2, false, 0, true, 2, false, 7, 8, 0, 0⟩ : Ins).cells := c9
    clear c8 c9 k8 k9 m17 m0 m1 m01 hS1 hS2 hS3 hHeld s1 hA1 hA2 Q1c Q2c
    have g0 := C3.c 0 _ rfl
    have g1 := C3.c 1 _ rfl
    have g2 := C3.c 2 _ rfl
    have g3 := C3.c 3 _ rfl
    have h0 := C4.c 0 _ rfl
    have h4 := C4.c 4 _ rfl
    have h5 := C4.c 5 _ rfl
    have h6 := C4.c 6 _ rfl
    have h7 := C4.c 7 _ rfl
    have h8 := C4.c 8 _ rfl
    clear C3 C4
    go_wp2_with fail
    go_ret
    exact ⟨rfl, KR.trans hS4⟩
  · go_simp
    refine ⟨hHeld.alloc _, fun hS1 => ?_⟩
    (try simp only [List.getElem_toArray]); (try simp only [List.getElem_cons_succ]); (try simp only [List.getElem_cons_zero]); (try simp only [Act.put]); (try simp only [List.setIfInBounds_toArray]); (repeat first | simp only [List.set_cons_succ] | simp only [List.set_cons_zero])
    refine wpAnyH_one 6 (by kernel_rfl) rfl rfl ?_
    go_simp
    refine ⟨hS1.alloc _, fun hS2 => ?_⟩
    (try simp only [List.getElem_toArray]); (try simp only [List.getElem_cons_succ]); (try simp only [List.getElem_cons_zero]); (try simp only [Act.put]); (try simp only [List.setIfInBounds_toArray]); (repeat first | simp only [List.set_cons_succ] | simp only [List.set_cons_zero])
    refine wpAnyH_storeL 8 (by kernel_rfl) rfl rfl 45 _ _ rfl (wr.heap.size + 1) 11 _ rfl rfl rfl m1 rfl iIn hA1 (fun w1 k => hS2.trans' k (fun _ _ e => e) (fun i hi e => by have e : i = wr.heap.size + 1 := e; omega)) (fun W8 c8 k8 hS3 => ?_)
    (try simp only [List.getElem_toArray]); (try simp only [List.getElem_cons_succ]); (try simp only [List.getElem_cons_zero]); (try simp only [Act.put]); (try simp only [List.setIfInBounds_toArray]); (repeat first | simp only [List.set_cons_succ] | simp only [List.set_cons_zero])
    have m17 := m01.keep (by show 0 < 11; decide) k8 (fun e => by have e : wr.heap.size = wr.heap.size + 1 := e; omega)
    refine wpAnyH_storeL 9 (by kernel_rfl) rfl rfl 45 _ _ rfl (wr.heap.size) 11 _ rfl rfl rfl m17 rfl iIn hA2 (fun w1 k => hS3.trans' k (fun _ _ e => e) (fun i hi e => by have e : i = wr.heap.size := e; omega)) (fun W9 c9 k9 hS4 => ?_)
    (try simp only [List.getElem_toArray]); (try simp only [List.getElem_cons_succ]); (try simp only [List.getElem_cons_zero]); (try simp only [Act.put]); (try simp only [List.setIfInBounds_toArray]); (repeat first | simp only [List.set_cons_succ] | simp only [List.set_cons_zero])
    refine wpAnyH_done (by kernel_rfl) ?_ _
    have C3 : CL W9 (wr.heap.size + 1) (⟨2, 2, true, 1, false, 0, false, 0, 0, 0, 0⟩ : Ins).cells := c8.keep (by show 0 < 11; decide) k9 (fun e => by have e : wr.heap.size + 1 = wr.heap.size := e; omega)
    have C4 : CL W9 (wr.heap.size) (⟨6, 2, false, 0, true, 2, false, 7, 8, 0, 0⟩ : Ins).cells := c9
    clear c8 c9 k8 k9 m17 m0 m1 m01 hS1 hS2 hS3 hHeld s1 hA1 hA2 Q1c Q2c
    have g0 := C3.c 0 _ rfl
    have g1 := C3.c 1 _ rfl
    have g2 := C3.c 2 _ rfl
    have g3 := C3.c 3 _ rfl
    have h0 := C4.c 0 _ rfl
    have h4 := C4.c 4 _ rfl
    have h5 := C4.c 5 _ rfl
    have h6 := C4.c 6 _ rfl
    have h7 := C4.c 7 _ rfl
    have h8 := C4.c 8 _ rfl
    clear C3 C4
    go_wp2_with fail
    go_ret
    exact ⟨rfl, KR.trans hS4⟩
end Go.Proofs.YtdmfkepnopppaaaGreatDoor
