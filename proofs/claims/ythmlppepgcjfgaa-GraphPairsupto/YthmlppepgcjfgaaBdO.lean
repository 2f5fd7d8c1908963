import Derived.Test.YthmlppepgcjfgaaBdN
import Derived.Shelf.SlSortCmp.WholeK
namespace Go.Proofs.Ythmlppepgcjfgaa
open Go.RowKit Go.Deep Go.Sort Go.Lib
attribute [local go_sem] Oper.semAt_some run_store_nf run_store_f
theorem isNaN_anyL (x : Int) (w : World) : Calls Try.prog 39 #[.int .i64 x] w fun e w' => e = .returned (.bool false) ∧ w' = w := by
  have s1 : (x != x) = false := by simp
  go_enter Try.func39, Try.ntmps39
  go_wp2
  go_ret
  exact ⟨rfl, rfl⟩
theorem compare_anyL (x y : Int) (w : World) : Calls Try.prog 27 #[.int .i64 x, .int .i64 y] w fun e w' => e = .returned (.int .i64 (Lib.compareInt x y)) ∧ w' = w := by
  have hn := fun x => isNaN_anyL x w
  unfold Lib.compareInt
  by_cases h1 : x < y
  · have s1 : decide (x < y) = true := decide_eq_true h1
    rw [if_pos h1]
    go_enter Try.func27, Try.ntmps27
    go_wp2_with (go_at_call 39; refine (hn _).mono ?_; rintro e w9 ⟨rfl, rfl⟩)
    go_ret
    exact ⟨rfl, rfl⟩
  · have s1 : decide (x < y) = false := decide_eq_false h1
    rw [if_neg h1]
    by_cases h2 : x > y
    · have s2 : decide (x > y) = true := decide_eq_true h2
      have s3 : decide (y < x) = true := decide_eq_true h2
      have s4 : y < x := h2
      rw [if_pos h2]
      go_enter Try.func27, Try.ntmps27
      go_wp2_with (go_at_call 39; refine (hn _).mono ?_; rintro e w9 ⟨rfl, rfl⟩)
      go_ret
      exact ⟨rfl, rfl⟩
    · have s2 : decide (x > y) = false := decide_eq_false h2
      have s3 : decide (y < x) = false := decide_eq_false h2
      have s4 : ¬ y < x := h2
      rw [if_neg h2]
      go_enter Try.func27, Try.ntmps27
      go_wp2_with (go_at_call 39; refine (hn _).mono ?_; rintro e w9 ⟨rfl, rfl⟩)
      go_ret
      exact ⟨rfl, rfl⟩
/-- The first that is not 0. -/
def orL : List Int → Int
  | [] => 0
  | x :: l => if x = 0 then orL l else x
theorem orL_drop {L : List Int} {i : Nat} (h : i < L.length) : orL (L.drop i) = if L.getD i 0 = 0 then orL (L.drop (i + 1)) else L.getD i 0 := by
  have e : L.getD i 0 = L[i] := by rw [List.getD_eq_getElem?_getD, List.getElem?_eq_getElem h]; rfl
  rw [e, List.drop_eq_getElem_cons h]
  rfl
set_option maxHeartbeats 1500000 in
set_option maxRecDepth 100000 in
theorem or_any {w : World} {b : Nat} (L : List Int) (hc : ∀ i, i < L.length → w.cell? ⟨b, i, none⟩ = some (.int .i64 (L.getD i 0))) (hn : L.length ≤ 1000) : Calls Try.prog 26 #[.slice (some ⟨b, 0, none⟩) L.length L.length] w fun e w' => e = .returned (.int .i64 (orL L)) ∧ w' = w := by
  have HC : Hid (∀ i, i < L.length → w.cell? ⟨b, i, none⟩ = some (.int .i64 (L.getD i 0))) := hc
  obtain ⟨R, hR⟩ : ∃ R, R = orL L := ⟨_, rfl⟩
  rw [← hR]
  have HR : Hid (R = orL (L.drop 0)) := hR
  clear hR hc
  generalize hN : L.length = N at *
  have HN : Hid (L.length = N) := hN
  clear hN
  go_enter Try.func26, Try.ntmps26
  go_wp2_with fail
  go_loopw [8] (fun iv Wr => ∃ (i : Nat), iv = .int .i64 (i : Int) ∧ i ≤ N ∧ R = orL (L.drop i) ∧ Wr = w) (fun iv _ => N - (intOf iv).toNat)
  case atStart => exact ⟨0, rfl, Nat.zero_le _, HR.out, rfl⟩
  case round =>
    obtain ⟨i, rfl, hi, hor, rfl⟩ := hrel
    have HO : Hid (R = orL (L.drop i)) := hor
    clear hor HR
    by_cases hlt : i < N
    · have j1 : decide ((i : Int) < (N : Int)) = true := decide_eq_true (by omega)
      have j2 : decide (i < N) = true := decide_eq_true hlt
      have j3 : (i : Int) < (N : Int) := by omega
      have j4 : (0 : Int) ≤ (i : Int) := by omega
      have hwi : IntKind.i64.wrap ((i : Int) + 1) = (i : Int) + 1 := by rw [IntKind.wrap_i64]; omega
      have hcx := HC.out i hlt
      have HD : Hid (orL (L.drop i) = if L.getD i 0 = 0 then orL (L.drop (i + 1)) else L.getD i 0) := orL_drop (by rw [HN.out]; exact hlt)
      generalize L.getD i 0 = x at *
      by_cases h : x = 0
      · have s1 : (x == 0) = true := by simp [h]
        have s2 : (x != 0) = false := by simp [h]
        have HO2 : Hid (R = orL (L.drop (i + 1))) := by rw [HO.out, HD.out, if_pos h]; rfl
        clear h
        go_wp2_with fail
        go_roundw
        case rel => exact ⟨i + 1, by go_num, by omega, HO2.out, by first | rfl | trivial⟩
        case measure => simp [intOf]; omega
      · have s1 : (x == 0) = false := by simp [h]
        have s2 : (x != 0) = true := by simp [h]
        obtain rfl : R = x := by rw [HO.out, HD.out, if_neg h]
        clear h
        go_wp2_with fail
        go_ret
        exact ⟨rfl, rfl⟩
    · have j1 : decide ((i : Int) < (N : Int)) = false := decide_eq_false (by omega)
      have j2 : decide (i < N) = false := decide_eq_false hlt
      obtain rfl : R = 0 := by rw [HO.out, List.drop_of_length_le (by rw [HN.out]; omega)]; rfl
      go_wp2_with fail
      go_ret
      exact ⟨rfl, rfl⟩
theorem wp_build4K {o : Oper} {a : Act} {w : World} {K : Act → World → Prop} {Q : Exit → Act → World → Prop} (x y z u : Operand) (ho : o.op = .buildSlice 56 4 #[(0, x), (1, y), (2, z), (3, u)]) (n1 n2 n3 n4 : Int) (hx : a.eval x = .int .i64 n1) (hy : a.eval y = .int .i64 n2) (hz : a.eval z = .int .i64 n3) (hu : a.eval u = .int .i64 n4)
    (h : K (a.put o.dst (.slice (some ⟨w.heap.size, 0, none⟩) 4 4)) (w.alloc (.cells #[.int .i64 n1, .int .i64 n2, .int .i64 n3, .int .i64 n4] 3))) : o.wp Try.prog a w K Q := by
  obtain ⟨i0, hi0, hzz⟩ := Option.map_eq_some_iff.1 iI
  simp only [Prod.mk.injEq] at hzz
  obtain ⟨hz0, hz1, -⟩ := hzz
  refine wp_buildSlice 56 3 4 _ ho #[.int .i64 n1, .int .i64 n2, .int .i64 n3, .int .i64 n4] i0 _ uI hi0 hz0 (by rw [hz1]; decide) (by rw [hz1]; decide) ?_ h
  rw [hz1]
  have e : (#[(0, x), (1, y), (2, z), (3, u)].map fun (i, x) => (i, a.eval x)).toList = ([Value.int .i64 n1, Value.int .i64 n2, Value.int .i64 n3, Value.int .i64 n4].zipIdx 0).map fun x => (x.2, x.1) := by simp [hx, hy, hz, hu]
  have e2 : ([Value.int .i64 n1, Value.int .i64 n2, Value.int .i64 n3, Value.int .i64 n4].flatMap fun v => v.cells.toList).toArray = #[.int .i64 n1, .int .i64 n2, .int .i64 n3, .int .i64 n4] := by simp; rfl
  rw [e, Great.fill_whole (s := 1) (by decide) [Value.int .i64 n1, Value.int .i64 n2, Value.int .i64 n3, Value.int .i64 n4] _ (fun v hv => by simp at hv; rcases hv with rfl | rfl | rfl | rfl <;> rfl) (by simp), e2]
/-- Two edges in memory. -/
structure E8 (W : World) (b b2 : Nat) (x y : Ed) : Prop where
  c0 : W.cell? ⟨b, 0, none⟩ = some (.int .i64 x.f)
  c1 : W.cell? ⟨b, 1, none⟩ = some (.int .i64 x.t)
  c2 : W.cell? ⟨b, 2, none⟩ = some (.int .i64 x.k)
  c3 : W.cell? ⟨b, 3, none⟩ = some (.int .i64 x.o)
  d0 : W.cell? ⟨b2, 0, none⟩ = some (.int .i64 y.f)
  d1 : W.cell? ⟨b2, 1, none⟩ = some (.int .i64 y.t)
  d2 : W.cell? ⟨b2, 2, none⟩ = some (.int .i64 y.k)
  d3 : W.cell? ⟨b2, 3, none⟩ = some (.int .i64 y.o)
theorem E8.keep {W W' : World} {b b2 : Nat} {x y : Ed} (h : E8 W b b2 x y) (k : Keeps (fun _ => False) W W') : E8 W' b b2 x y :=
  ⟨k.cell h.c0 (fun e => e), k.cell h.c1 (fun e => e), k.cell h.c2 (fun e => e), k.cell h.c3 (fun e => e), k.cell h.d0 (fun e => e), k.cell h.d1 (fun e => e), k.cell h.d2 (fun e => e), k.cell h.d3 (fun e => e)⟩
/-- How two edges are compared. -/
def cmE (x y : Ed) : Int := orL [Lib.compareInt x.f y.f, Lib.compareInt x.t y.t, Lib.compareInt x.k y.k, Lib.compareInt x.o y.o]
set_option maxHeartbeats 1500000 in
set_option maxRecDepth 100000 in
theorem compare_any (x y : Ed) (w : World) : Calls Try.prog 20 #[.agg x.cells.toArray, .agg y.cells.toArray] w fun e w' => e = .returned (.int .i64 (cmE x y)) ∧ ∃ q os, w' = grow (w.drewN q) os := by
  unfold cmE
  obtain ⟨w1, hw1⟩ : ∃ w1, w1 = w.alloc (.cells x.cells.toArray 34) := ⟨_, rfl⟩
  obtain ⟨w0, hw0⟩ : ∃ w0, w0 = w1.alloc (.cells y.cells.toArray 34) := ⟨_, rfl⟩
  have hs1 : w1.heap.size = w.heap.size + 1 := by rw [hw1]; simp
  have C1 : CL w1 w.heap.size x.cells := by rw [hw1]; exact CL.made w x.cells 34
  have C0 : CL w0 w1.heap.size y.cells := by rw [hw0]; exact CL.made w1 y.cells 34
  have k0 : Keeps (fun _ => False) w1 w0 := by rw [hw0]; exact (Keeps.refl _ w1).alloc _
  have kd : Keeps (fun _ => False) w0 w0.drew := (Keeps.refl _ w0).drew
  have hS0 : E8 w0.drew w.heap.size (w.heap.size + 1) x y := by
    rw [← hs1]
    exact E8.keep ⟨k0.cell (C1.c 0 _ rfl) (fun e => e), k0.cell (C1.c 1 _ rfl) (fun e => e), k0.cell (C1.c 2 _ rfl) (fun e => e), k0.cell (C1.c 3 _ rfl) (fun e => e), C0.c 0 _ rfl, C0.c 1 _ rfl, C0.c 2 _ rfl, C0.c 3 _ rfl⟩ kd
  have hc0 := fun w => compare_anyL x.f y.f w
  have hc1 := fun w => compare_anyL x.t y.t w
  have hc2 := fun w => compare_anyL x.k y.k w
  have hc3 := fun w => compare_anyL x.o y.o w
  generalize Lib.compareInt x.f y.f = r0 at *
  generalize Lib.compareInt x.t y.t = r1 at *
  generalize Lib.compareInt x.k y.k = r2 at *
  generalize Lib.compareInt x.o y.o = r3 at *
  obtain ⟨W2, hW2⟩ : ∃ W2, W2 = w0.drew.alloc (.cells #[.int .i64 r0, .int .i64 r1, .int .i64 r2, .int .i64 r3] 3) := ⟨_, rfl⟩
  have k2 : Keeps (fun _ => False) w0.drew W2 := by rw [hW2]; exact (Keeps.refl _ w0.drew).alloc _
  have hS2 : E8 W2 w.heap.size (w.heap.size + 1) x y := hS0.keep k2
  have hcl : CL W2 w0.drew.heap.size [.int .i64 r0, .int .i64 r1, .int .i64 r2, .int .i64 r3] := by rw [hW2]; exact CL.made w0.drew [.int .i64 r0, .int .i64 r1, .int .i64 r2, .int .i64 r3] 3
  have hor := or_any (w := W2) (b := w0.drew.heap.size) [r0, r1, r2, r3] (fun i hi => by
    have hi : i < 4 := hi
    match i, hi with
    | 0, _ => exact hcl.c 0 _ rfl
    | 1, _ => exact hcl.c 1 _ rfl
    | 2, _ => exact hcl.c 2 _ rfl
    | 3, _ => exact hcl.c 3 _ rfl) (by show 4 ≤ 1000; decide)
  have hor : Calls Try.prog 26 #[.slice (some ⟨w0.drew.heap.size, 0, none⟩) 4 4] W2 fun e w' => e = .returned (.int .i64 (orL [r0, r1, r2, r3])) ∧ w' = W2 := hor
  generalize orL [r0, r1, r2, r3] = ro at *
  have HEND : Hid (∃ q os, W2 = grow (w.drewN q) os) := ⟨1, _, by rw [hW2, hw0, hw1]; rw [alloc_eq_grow, alloc_eq_grow, alloc_eq_grow]; show grow (grow (grow (w.drewN 1) _) _) _ = _; rw [grow_grow, grow_grow]⟩
  clear k0 kd k2 hcl C0 C1
  subst hW2
  have HW0 : Hid (w0 = (w.alloc (.cells x.cells.toArray 34)).alloc (.cells y.cells.toArray 34)) := by rw [← hw1]; exact hw0
  clear hw0 hw1 hs1
  go_enter Try.func20, Try.ntmps20
  refine wp_seq_k (fun KK hKK => ?_)
  have hKH : Hid _ := hKK
  clear hKK
  go_wp2_with fail
  refine hKH.out _ _ ?_
  clear hKH KK
  rw [← HW0.out]
  clear HW0
  generalize w.heap.size = bx at *
  refine wp_seq_k (fun KK hKK => ?_)
  have hKH : Hid _ := hKK
  clear hKK
  refine wp_region_held_drew (S := fun W => E8 W bx (bx + 1) x y) (by kernel_rfl) hS0 (fun hHeld => ?_)
  refine wpAnyH_take (i := 0) (v := ?_) rfl (by kernel_rfl) (by kernel_rfl) (by kernel_rfl) (fun _ _ _ h => h) (Or.inl ⟨by rfl, ?_⟩) (by assumption) ?_
  rotate_left
  · intro wx hSw; clear hSw; go_simp <;> with_reducible rfl
  (try simp only [List.getElem_toArray]); (try simp only [List.getElem_cons_succ]); (try simp only [List.getElem_cons_zero]); (try simp only [Act.put]); (try simp only [List.setIfInBounds_toArray]); (repeat first | simp only [List.set_cons_succ] | simp only [List.set_cons_zero])
  refine wpAnyH_take (i := 1) (v := ?_) rfl (by kernel_rfl) (by kernel_rfl) (by kernel_rfl) (fun _ _ _ h => h) (Or.inl ⟨by rfl, ?_⟩) (by assumption) ?_
  rotate_left
  · intro wx hSw; have q0 := hSw.c0; clear hSw; go_simp <;> with_reducible rfl
  (try simp only [List.getElem_toArray]); (try simp only [List.getElem_cons_succ]); (try simp only [List.getElem_cons_zero]); (try simp only [Act.put]); (try simp only [List.setIfInBounds_toArray]); (repeat first | simp only [List.set_cons_succ] | simp only [List.set_cons_zero])
  refine wpAnyH_take (i := 2) (v := ?_) rfl (by kernel_rfl) (by kernel_rfl) (by kernel_rfl) (fun _ _ _ h => h) (Or.inl ⟨by rfl, ?_⟩) (by assumption) ?_
  rotate_left
  · intro wx hSw; clear hSw; go_simp <;> with_reducible rfl
  (try simp only [List.getElem_toArray]); (try simp only [List.getElem_cons_succ]); (try simp only [List.getElem_cons_zero]); (try simp only [Act.put]); (try simp only [List.setIfInBounds_toArray]); (repeat first | simp only [List.set_cons_succ] | simp only [List.set_cons_zero])
  refine wpAnyH_take (i := 3) (v := ?_) rfl (by kernel_rfl) (by kernel_rfl) (by kernel_rfl) (fun _ _ _ h => h) (Or.inl ⟨by rfl, ?_⟩) (by assumption) ?_
  rotate_left
  · intro wx hSw; have q0 := hSw.d0; clear hSw; go_simp <;> with_reducible rfl
  (try simp only [List.getElem_toArray]); (try simp only [List.getElem_cons_succ]); (try simp only [List.getElem_cons_zero]); (try simp only [Act.put]); (try simp only [List.setIfInBounds_toArray]); (repeat first | simp only [List.set_cons_succ] | simp only [List.set_cons_zero])
  refine wpAnyH_take (i := 5) (v := ?_) rfl (by kernel_rfl) (by kernel_rfl) (by kernel_rfl) (fun _ _ _ h => h) (Or.inl ⟨by rfl, ?_⟩) (by assumption) ?_
  rotate_left
  · intro wx hSw; clear hSw; go_simp <;> with_reducible rfl
  (try simp only [List.getElem_toArray]); (try simp only [List.getElem_cons_succ]); (try simp only [List.getElem_cons_zero]); (try simp only [Act.put]); (try simp only [List.setIfInBounds_toArray]); (repeat first | simp only [List.set_cons_succ] | simp only [List.set_cons_zero])
  refine wpAnyH_take (i := 6) (v := ?_) rfl (by kernel_rfl) (by kernel_rfl) (by kernel_rfl) (fun _ _ _ h => h) (Or.inl ⟨by rfl, ?_⟩) (by assumption) ?_
  rotate_left
  · intro wx hSw; have q0 := hSw.c1; clear hSw; go_simp <;> with_reducible rfl
  (try simp only [List.getElem_toArray]); (try simp only [List.getElem_cons_succ]); (try simp only [List.getElem_cons_zero]); (try simp only [Act.put]); (try simp only [List.setIfInBounds_toArray]); (repeat first | simp only [List.set_cons_succ] | simp only [List.set_cons_zero])
  refine wpAnyH_take (i := 7) (v := ?_) rfl (by kernel_rfl) (by kernel_rfl) (by kernel_rfl) (fun _ _ _ h => h) (Or.inl ⟨by rfl, ?_⟩) (by assumption) ?_
  rotate_left
  · intro wx hSw; clear hSw; go_simp <;> with_reducible rfl
  (try simp only [List.getElem_toArray]); (try simp only [List.getElem_cons_succ]); (try simp only [List.getElem_cons_zero]); (try simp only [Act.put]); (try simp only [List.setIfInBounds_toArray]); (repeat first | simp only [List.set_cons_succ] | simp only [List.set_cons_zero])
  refine wpAnyH_take (i := 8) (v := ?_) rfl (by kernel_rfl) (by kernel_rfl) (by kernel_rfl) (fun _ _ _ h => h) (Or.inl ⟨by rfl, ?_⟩) (by assumption) ?_
  rotate_left
  · intro wx hSw; have q0 := hSw.d1; clear hSw; go_simp <;> with_reducible rfl
  (try simp only [List.getElem_toArray]); (try simp only [List.getElem_cons_succ]); (try simp only [List.getElem_cons_zero]); (try simp only [Act.put]); (try simp only [List.setIfInBounds_toArray]); (repeat first | simp only [List.set_cons_succ] | simp only [List.set_cons_zero])
  refine wpAnyH_take (i := 10) (v := ?_) rfl (by kernel_rfl) (by kernel_rfl) (by kernel_rfl) (fun _ _ _ h => h) (Or.inl ⟨by rfl, ?_⟩) (by assumption) ?_
  rotate_left
  · intro wx hSw; clear hSw; go_simp <;> with_reducible rfl
  (try simp only [List.getElem_toArray]); (try simp only [List.getElem_cons_succ]); (try simp only [List.getElem_cons_zero]); (try simp only [Act.put]); (try simp only [List.setIfInBounds_toArray]); (repeat first | simp only [List.set_cons_succ] | simp only [List.set_cons_zero])
  refine wpAnyH_take (i := 11) (v := ?_) rfl (by kernel_rfl) (by kernel_rfl) (by kernel_rfl) (fun _ _ _ h => h) (Or.inl ⟨by rfl, ?_⟩) (by assumption) ?_
  rotate_left
  · intro wx hSw; have q0 := hSw.c2; clear hSw; go_simp <;> with_reducible rfl
  (try simp only [List.getElem_toArray]); (try simp only [List.getElem_cons_succ]); (try simp only [List.getElem_cons_zero]); (try simp only [Act.put]); (try simp only [List.setIfInBounds_toArray]); (repeat first | simp only [List.set_cons_succ] | simp only [List.set_cons_zero])
  refine wpAnyH_take (i := 12) (v := ?_) rfl (by kernel_rfl) (by kernel_rfl) (by kernel_rfl) (fun _ _ _ h => h) (Or.inl ⟨by rfl, ?_⟩) (by assumption) ?_
  rotate_left
  · intro wx hSw; clear hSw; go_simp <;> with_reducible rfl
  (try simp only [List.getElem_toArray]); (try simp only [List.getElem_cons_succ]); (try simp only [List.getElem_cons_zero]); (try simp only [Act.put]); (try simp only [List.setIfInBounds_toArray]); (repeat first | simp only [List.set_cons_succ] | simp only [List.set_cons_zero])
  refine wpAnyH_take (i := 13) (v := ?_) rfl (by kernel_rfl) (by kernel_rfl) (by kernel_rfl) (fun _ _ _ h => h) (Or.inl ⟨by rfl, ?_⟩) (by assumption) ?_
  rotate_left
  · intro wx hSw; have q0 := hSw.d2; clear hSw; go_simp <;> with_reducible rfl
  (try simp only [List.getElem_toArray]); (try simp only [List.getElem_cons_succ]); (try simp only [List.getElem_cons_zero]); (try simp only [Act.put]); (try simp only [List.setIfInBounds_toArray]); (repeat first | simp only [List.set_cons_succ] | simp only [List.set_cons_zero])
  refine wpAnyH_take (i := 15) (v := ?_) rfl (by kernel_rfl) (by kernel_rfl) (by kernel_rfl) (fun _ _ _ h => h) (Or.inl ⟨by rfl, ?_⟩) (by assumption) ?_
  rotate_left
  · intro wx hSw; clear hSw; go_simp <;> with_reducible rfl
  (try simp only [List.getElem_toArray]); (try simp only [List.getElem_cons_succ]); (try simp only [List.getElem_cons_zero]); (try simp only [Act.put]); (try simp only [List.setIfInBounds_toArray]); (repeat first | simp only [List.set_cons_succ] | simp only [List.set_cons_zero])
  refine wpAnyH_take (i := 16) (v := ?_) rfl (by kernel_rfl) (by kernel_rfl) (by kernel_rfl) (fun _ _ _ h => h) (Or.inl ⟨by rfl, ?_⟩) (by assumption) ?_
  rotate_left
  · intro wx hSw; have q0 := hSw.c3; clear hSw; go_simp <;> with_reducible rfl
  (try simp only [List.getElem_toArray]); (try simp only [List.getElem_cons_succ]); (try simp only [List.getElem_cons_zero]); (try simp only [Act.put]); (try simp only [List.setIfInBounds_toArray]); (repeat first | simp only [List.set_cons_succ] | simp only [List.set_cons_zero])
  refine wpAnyH_take (i := 17) (v := ?_) rfl (by kernel_rfl) (by kernel_rfl) (by kernel_rfl) (fun _ _ _ h => h) (Or.inl ⟨by rfl, ?_⟩) (by assumption) ?_
  rotate_left
  · intro wx hSw; clear hSw; go_simp <;> with_reducible rfl
  (try simp only [List.getElem_toArray]); (try simp only [List.getElem_cons_succ]); (try simp only [List.getElem_cons_zero]); (try simp only [Act.put]); (try simp only [List.setIfInBounds_toArray]); (repeat first | simp only [List.set_cons_succ] | simp only [List.set_cons_zero])
  refine wpAnyH_take (i := 18) (v := ?_) rfl (by kernel_rfl) (by kernel_rfl) (by kernel_rfl) (fun _ _ _ h => h) (Or.inl ⟨by rfl, ?_⟩) (by assumption) ?_
  rotate_left
  · intro wx hSw; have q0 := hSw.d3; clear hSw; go_simp <;> with_reducible rfl
  (try simp only [List.getElem_toArray]); (try simp only [List.getElem_cons_succ]); (try simp only [List.getElem_cons_zero]); (try simp only [Act.put]); (try simp only [List.setIfInBounds_toArray]); (repeat first | simp only [List.set_cons_succ] | simp only [List.set_cons_zero])
  refine wpAnyH_one 4 (by kernel_rfl) rfl rfl ?_
  refine wp_call2 27 _ _ rfl _ _ rfl rfl (fun _ _ => rfl) ((hc0 _).mono ?_)
  rintro e w9 ⟨rfl, rfl⟩
  refine ⟨_, rfl, by assumption, fun _ => ?_⟩
  (try simp only [List.getElem_toArray]); (try simp only [List.getElem_cons_succ]); (try simp only [List.getElem_cons_zero]); (try simp only [Act.put]); (try simp only [List.setIfInBounds_toArray]); (repeat first | simp only [List.set_cons_succ] | simp only [List.set_cons_zero])
  refine wpAnyH_one 9 (by kernel_rfl) rfl rfl ?_
  refine wp_call2 27 _ _ rfl _ _ rfl rfl (fun _ _ => rfl) ((hc1 _).mono ?_)
  rintro e w9 ⟨rfl, rfl⟩
  refine ⟨_, rfl, by assumption, fun _ => ?_⟩
  (try simp only [List.getElem_toArray]); (try simp only [List.getElem_cons_succ]); (try simp only [List.getElem_cons_zero]); (try simp only [Act.put]); (try simp only [List.setIfInBounds_toArray]); (repeat first | simp only [List.set_cons_succ] | simp only [List.set_cons_zero])
  refine wpAnyH_one 14 (by kernel_rfl) rfl rfl ?_
  refine wp_call2 27 _ _ rfl _ _ rfl rfl (fun _ _ => rfl) ((hc2 _).mono ?_)
  rintro e w9 ⟨rfl, rfl⟩
  refine ⟨_, rfl, by assumption, fun _ => ?_⟩
  (try simp only [List.getElem_toArray]); (try simp only [List.getElem_cons_succ]); (try simp only [List.getElem_cons_zero]); (try simp only [Act.put]); (try simp only [List.setIfInBounds_toArray]); (repeat first | simp only [List.set_cons_succ] | simp only [List.set_cons_zero])
  refine wpAnyH_one 19 (by kernel_rfl) rfl rfl ?_
  refine wp_call2 27 _ _ rfl _ _ rfl rfl (fun _ _ => rfl) ((hc3 _).mono ?_)
  rintro e w9 ⟨rfl, rfl⟩
  refine ⟨_, rfl, by assumption, fun _ => ?_⟩
  (try simp only [List.getElem_toArray]); (try simp only [List.getElem_cons_succ]); (try simp only [List.getElem_cons_zero]); (try simp only [Act.put]); (try simp only [List.setIfInBounds_toArray]); (repeat first | simp only [List.set_cons_succ] | simp only [List.set_cons_zero])
  refine wpAnyH_one 20 (by kernel_rfl) rfl rfl ?_
  refine wp_build4K _ _ _ _ rfl _ _ _ _ rfl rfl rfl rfl ?_
  refine ⟨hS2, fun _ => ?_⟩
  (try simp only [List.getElem_toArray]); (try simp only [List.getElem_cons_succ]); (try simp only [List.getElem_cons_zero]); (try simp only [Act.put]); (try simp only [List.setIfInBounds_toArray]); (repeat first | simp only [List.set_cons_succ] | simp only [List.set_cons_zero])
  refine wpAnyH_one 21 (by kernel_rfl) rfl rfl ?_
  refine wp_call1 26 _ rfl _ rfl (fun _ _ => rfl) (hor.mono ?_)
  rintro e w9 ⟨rfl, rfl⟩
  refine ⟨_, rfl, hS2, fun _ => ?_⟩
  (try simp only [List.getElem_toArray]); (try simp only [List.getElem_cons_succ]); (try simp only [List.getElem_cons_zero]); (try simp only [Act.put]); (try simp only [List.setIfInBounds_toArray]); (repeat first | simp only [List.set_cons_succ] | simp only [List.set_cons_zero])
  refine wpAnyH_take (i := 22) (v := ?_) rfl (by kernel_rfl) (by kernel_rfl) (by kernel_rfl) (fun _ _ _ h => h) (Or.inl ⟨by rfl, ?_⟩) (by assumption) ?_
  rotate_left
  · intro wx hSw; clear hSw; go_simp <;> with_reducible rfl
  (try simp only [List.getElem_toArray]); (try simp only [List.getElem_cons_succ]); (try simp only [List.getElem_cons_zero]); (try simp only [Act.put]); (try simp only [List.setIfInBounds_toArray]); (repeat first | simp only [List.set_cons_succ] | simp only [List.set_cons_zero])
  refine wpAnyH_done (by kernel_rfl) ?_ _
  refine hKH.out _ _ ?_
  clear hKH KK
  go_wp2_with fail
  go_ret
  exact ⟨rfl, HEND.out⟩
end Go.Proofs.Ythmlppepgcjfgaa
