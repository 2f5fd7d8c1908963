import Derived.Test.YtgcfckbmmdajhaaLiU
namespace Go.Proofs.Ytgcfckbmmdajhaa
open Go.RowKit
theorem wpList_build2L {t e : TypeId} {z : Value} {size bytes : Nat} (ht : Try.prog.underlying t = some (.slice e)) (hinfo : (Try.prog.info? e).map (fun i => (i.zero, i.size, i.bytes)) = some (some z, size, bytes)) (hs : 0 < size) (hs2 : size ≤ 100) {ops : Array Oper} {rest : List Oper} {o : Oper} {a : Act} {w : World} {Q : Exit → Act → World → Prop} (hg : o.guard = none) (x y : Operand) (ho : o.op = .buildSlice t 2 #[(0, x), (1, y)]) (cs ds : List Value) (hc : cs.length = size) (hd : ds.length = size) (hx : a.eval x = .agg cs.toArray) (hy : a.eval y = .agg ds.toArray)
    (h : wpList Try.prog ops Q rest (a.put o.dst (.slice (some ⟨w.heap.size, 0, none⟩) 2 2)) (w.alloc (.cells (cs ++ ds).toArray e))) : wpList Try.prog ops Q (o :: rest) a w := by
  obtain ⟨i0, hi0, hzz⟩ := Option.map_eq_some_iff.1 hinfo
  simp only [Prod.mk.injEq] at hzz
  obtain ⟨hz0, hz1, -⟩ := hzz
  refine wpList_buildSlice hg t e 2 _ ho (cs ++ ds).toArray i0 _ ht hi0 hz0 (by rw [hz1]; omega) (by rw [hz1]; omega) ?_ h
  rw [hz1]
  have e : (#[(0, x), (1, y)].map fun (i, x) => (i, a.eval x)).toList = ([Value.agg cs.toArray, Value.agg ds.toArray].zipIdx 0).map fun x => (x.2, x.1) := by simp [hx, hy]
  have e2 : ([Value.agg cs.toArray, Value.agg ds.toArray].flatMap fun v => v.cells.toList).toArray = (cs ++ ds).toArray := by simp [Value.cells]
  rw [e, Great.fill_whole (s := size) hs [Value.agg cs.toArray, Value.agg ds.toArray] _ (fun v hv => by
    simp at hv
    rcases hv with rfl | rfl
    · simpa [Value.cells] using hc
    · simpa [Value.cells] using hd) (by simp), e2]
theorem run_store_oneL {w : World} {b o : Nat} (hc : (w.cell? ⟨b, o, none⟩).isSome = true) (hz : w.frozen? ⟨b, o, none⟩ = false) (v : Int) : (storeVar 3 ⟨b, o, none⟩ (.int .i64 v)).run Try.prog w = .ok () (w.setCell ⟨b, o, none⟩ (.int .i64 v)) := by
  obtain ⟨u, hu⟩ := Option.isSome_iff_exists.1 hc
  go_simp
theorem wpList_store_c1L {w : World} {ops : Array Oper} {rest : List Oper} {o : Oper} {a : Act} {Q : Exit → Act → World → Prop} (hgd : o.guard = none) (hd : o.dst = none) (x y : Operand) (ho : o.op = .store 3 x y) (b off : Nat) (hx : a.eval x = .pointer (some ⟨b, off, none⟩)) (v : Int) (hy : a.eval y = .int .i64 v)
    {l : List Value} (hB : CL w b l) (hl : off < l.length) (h : ∀ w1, CL w1 b (l.set off (.int .i64 v)) → Keeps (fun k => k = b) w w1 → wpList Try.prog ops Q rest a w1) : wpList Try.prog ops Q (o :: rest) a w :=
  wpList_plain hgd fun _ hK => by
    unfold Oper.wp execOp
    simp only [ho, hx, hy, Instr.storeAt, Instr.sureAddr, Sem.run_bind, Sem.run_pure, Result.andThen_ok, run_store_oneL (by rw [hB.c off _ (List.getElem?_eq_getElem hl)]; rfl) (hB.z off hl) v]
    refine hK _ _ ?_
    rw [hd]
    exact (h _ (hB.set hl _) ((Keeps.refl (fun k => k = b) w).setCell (p := ⟨b, off, none⟩) (fun _ => rfl) _))
theorem KL.keepS {w w' : World} {a : Option Addr} {S : List Int} {X : Nat → Prop} (h : KL w a S) (k : Keeps X w w') (hX : ∀ b off, a = some ⟨b, off, none⟩ → ¬ X b) : KL w' a S := fun i hi => by
  obtain ⟨b, off, e, hc⟩ := h i hi
  exact ⟨b, off, e, k.cell hc (hX b off e)⟩
theorem kl_made (W : World) (S : List Int) (t : TypeId) : KL (W.alloc (.cells (kvs S).toArray t)) (some ⟨W.heap.size, 0, none⟩) S := fun i hi => by
  refine ⟨_, 0, rfl, ?_⟩
  rw [Nat.zero_add]
  exact (CL.made W (kvs S) t).c i _ (by
    unfold kvs
    rw [List.getElem?_map, List.getElem?_eq_getElem hi, List.getD_eq_getElem?_getD, List.getElem?_eq_getElem hi]
    rfl)
theorem uC : Try.prog.underlying 28 = some (.slice 33) := by kernel_rfl
theorem iC : (Try.prog.info? 33).map (fun i => (i.zero, i.size, i.bytes)) = some (some (.agg #[.int .i64 0, .int .i64 0, .int .i64 0, .bool false, .int .i64 0, .int .i64 0, .int .i64 0, .int .i64 0]), 8, 64) := by kernel_rfl
/-- Two calls laid behind one another. -/
theorem csl_two (W : World) (x y : Cl) : CSL (W.alloc (.cells (x.cells ++ y.cells).toArray 33)) (some ⟨W.heap.size, 0, none⟩) [x, y] := fun i hi => by
  have hm := CL.made W (x.cells ++ y.cells) 33
  refine ⟨W.heap.size, 0, rfl, fun j v e => ?_⟩
  have hj : j < 8 := (List.getElem?_eq_some_iff.1 e).1
  have hi2 : i = 0 ∨ i = 1 := by have : i < 2 := hi; omega
  rcases hi2 with rfl | rfl
  · have e : x.cells[j]? = some v := e
    have := hm.c j v (by rw [List.getElem?_append_left hj]; exact e)
    simpa using this
  · have e : y.cells[j]? = some v := e
    have := hm.c (8 + j) v (by rw [List.getElem?_append_right (show 8 ≤ 8 + j by omega)]; show y.cells[8 + j - 8]? = _; rw [Nat.add_sub_cancel_left]; exact e)
    simpa using this
def ha1 : Cl := ⟨1, 5, 0, true, 0, 0, 3, 6⟩
def hb1 : Cl := ⟨3, 5, 0, false, 0, 1, 2, 9⟩
def ha2 : Cl := ⟨1, 5, 0, true, 0, 0, 3, 4⟩
def hb2 : Cl := ⟨3, 5, 0, false, 0, 5, 7, 9⟩
theorem h64 : (∀ c ∈ [ha1, hb1], C64 c) ∧ ∀ c ∈ [ha2, hb2], C64 c := by
  constructor <;> (intro c hc; simp at hc; rcases hc with rfl | rfl <;> exact ⟨⟨by decide, by decide⟩, ⟨by decide, by decide⟩⟩)
theorem may_two {x y : Cl} (h1 : mayP x = true) (h2 : mayP y = true) (h3 : x.point ≠ y.point) : MayL [x, y] := by
  refine ⟨fun i hi => ?_, fun i j hij hj _ => ?_⟩
  · have hi2 : i = 0 ∨ i = 1 := by have : i < 2 := hi; omega
    rcases hi2 with rfl | rfl
    · exact h1
    · exact h2
  · have hj : j < 2 := hj
    obtain rfl : i = 0 := by omega
    obtain rfl : j = 1 := by omega
    exact h3
theorem hm1 : MayL [ha1, hb1] := may_two rfl rfl (by decide)
theorem hm2 : MayL [ha2, hb2] := may_two rfl rfl (by decide)
theorem hp1 : byP [ha1, hb1] 2 = [1, 0] := by decide
theorem hp2 : byP [ha2, hb2] 2 = [0, 1] := by decide
theorem bp1 : BpP [ha1, hb1] [1, 0] (-1) := .inr ⟨by decide +kernel, rfl⟩
theorem bp2 : BpP [ha2, hb2] [0, 1] 1 := .inl ⟨1, by decide, by decide +kernel, by decide +kernel, rfl⟩
theorem ky1 : keyL [ha1, hb1] = [5] := by decide +kernel
theorem fs1 : fstL [ha1, hb1] = some [1, 0] := by decide +kernel
theorem fs2 : fstL [ha2, hb2] = none := by decide +kernel
theorem call1 (W : World) : Calls Try.prog 6 #[.slice (some ⟨W.heap.size, 0, none⟩) 2 2] (W.alloc (.cells (ha1.cells ++ hb1.cells).toArray 33)) fun e w' => e = .returned (.tuple #[.int .i64 (-1), .int .i64 0]) ∧ Keeps (fun _ => False) W w' := by
  refine (byPoints_any (cap := 2) (csl_two W ha1 hb1) h64.1 (by decide)).mono ?_
  rintro e w' ⟨r, ec, rfl, h, k⟩
  rcases h with ⟨rfl, -, h⟩ | ⟨-, h, -⟩
  · have h : BpP [ha1, hb1] (byP [ha1, hb1] 2) r := h
    rw [hp1] at h
    exact ⟨by rw [h.one bp1], ((Keeps.refl _ W).alloc _).trans k⟩
  · exact absurd hm1 h
theorem call2 (W : World) : Calls Try.prog 8 #[.slice (some ⟨W.heap.size, 0, none⟩) 2 2] (W.alloc (.cells (ha1.cells ++ hb1.cells).toArray 33)) fun e w' => ∃ sa sc, e = .returned (.tuple #[.slice sa 2 sc, .bool true, .int .i64 0]) ∧ KL w' sa [1, 0] ∧ (∀ b off, sa = some ⟨b, off, none⟩ → W.heap.size ≤ b) ∧ Keeps (fun _ => False) W w' := by
  refine (search_any (cap := 2) (csl_two W ha1 hb1) h64.1 (by decide)).mono ?_
  rintro e w' ⟨v, fb, ec, rfl, h, k⟩
  rcases h with ⟨h, -⟩ | ⟨-, h, -⟩ | ⟨-, -, rfl, h⟩
  · exact absurd h (by decide)
  · exact absurd hm1 h
  · rcases h with ⟨r, h1, rfl, h2⟩ | ⟨h1, -⟩
    · rw [fs1] at h1
      injection h1 with h1
      subst h1
      obtain ⟨sa, sc, rfl, -⟩ := own_slice h2
      exact ⟨sa, sc, rfl, (PM.of h2).kl, (fun b off e => by have := owns_baseT h2 b (by rw [e]; rfl); simp at this; omega), ((Keeps.refl _ W).alloc _).trans k⟩
    · rw [fs1] at h1
      cases h1
theorem call3 (W : World) : Calls Try.prog 7 #[.slice (some ⟨W.heap.size, 0, none⟩) 2 2] (W.alloc (.cells (ha1.cells ++ hb1.cells).toArray 33)) fun e w' => ∃ sa sc, e = .returned (.tuple #[.slice sa 1 sc, .int .i64 0]) ∧ KL w' sa [5] ∧ (∀ b off, sa = some ⟨b, off, none⟩ → W.heap.size ≤ b) ∧ Keeps (fun _ => False) W w' := by
  refine (keys_any (cap := 2) (csl_two W ha1 hb1) h64.1 (by decide)).mono ?_
  rintro e w' ⟨v, ec, rfl, h, k⟩
  rcases h with ⟨rfl, -, h⟩ | ⟨-, h, -⟩
  · rw [ky1] at h
    obtain ⟨sa, sc, rfl, hk, -, -⟩ := kl_of h
    exact ⟨sa, sc, rfl, hk, (fun b off e => by have := owns_baseT h b (by rw [e]; rfl); simp at this; omega), ((Keeps.refl _ W).alloc _).trans k⟩
  · exact absurd hm1 h
theorem call4 (W : World) : Calls Try.prog 6 #[.slice (some ⟨W.heap.size, 0, none⟩) 2 2] (W.alloc (.cells (ha2.cells ++ hb2.cells).toArray 33)) fun e w' => e = .returned (.tuple #[.int .i64 1, .int .i64 0]) ∧ Keeps (fun _ => False) W w' := by
  refine (byPoints_any (cap := 2) (csl_two W ha2 hb2) h64.2 (by decide)).mono ?_
  rintro e w' ⟨r, ec, rfl, h, k⟩
  rcases h with ⟨rfl, -, h⟩ | ⟨-, h, -⟩
  · have h : BpP [ha2, hb2] (byP [ha2, hb2] 2) r := h
    rw [hp2] at h
    exact ⟨by rw [h.one bp2], ((Keeps.refl _ W).alloc _).trans k⟩
  · exact absurd hm2 h
theorem call5 (W : World) : Calls Try.prog 8 #[.slice (some ⟨W.heap.size, 0, none⟩) 2 2] (W.alloc (.cells (ha2.cells ++ hb2.cells).toArray 33)) fun e w' => e = .returned (.tuple #[.slice none 0 0, .bool false, .int .i64 0]) ∧ Keeps (fun _ => False) W w' := by
  refine (search_any (cap := 2) (csl_two W ha2 hb2) h64.2 (by decide)).mono ?_
  rintro e w' ⟨v, fb, ec, rfl, h, k⟩
  rcases h with ⟨h, -⟩ | ⟨-, h, -⟩ | ⟨-, -, rfl, h⟩
  · exact absurd h (by decide)
  · exact absurd hm2 h
  · rcases h with ⟨r, h1, -⟩ | ⟨-, rfl, rfl⟩
    · rw [fs2] at h1
      cases h1
    · exact ⟨rfl, ((Keeps.refl _ W).alloc _).trans k⟩
set_option maxHeartbeats 600000 in
set_option maxRecDepth 100000 in
theorem head_any (w : World) : Calls Try.prog 4 #[] w fun e w' => e = .returned (.bool true) ∧ Keeps (fun _ => False) w w' := by
  obtain ⟨W4, hW4⟩ : ∃ W4, W4 = w.alloc (.cells #[.int .i64 0, .int .i64 0, .int .i64 0, .bool false, .int .i64 0, .int .i64 0, .int .i64 0, .int .i64 0] 33) := ⟨_, rfl⟩
  have kw4 : Keeps (fun _ => False) w W4 := by rw [hW4]; exact (Keeps.refl _ w).alloc _
  have hU4 : CL W4 w.heap.size cl0.cells := by rw [hW4]; exact CL.made w cl0.cells _
  have HW4 : Hid (W4 = w.alloc (.cells #[.int .i64 0, .int .i64 0, .int .i64 0, .bool false, .int .i64 0, .int .i64 0, .int .i64 0, .int .i64 0] 33)) := hW4
  clear hW4
  go_enter Try.func4, Try.ntmps4
  refine wp_seq_k (fun KK hKK => ?_)
  have hKH : Hid _ := hKK
  clear hKK
  go_wp2_with fail
  refine hKH.out _ _ ?_
  clear hKH KK
  refine wp_seq_k (fun KK hKK => ?_)
  have hKH : Hid _ := hKK
  clear hKK
  go_wp2_with (rw [← HW4.out]; clear HW4; refine wpList_store_cl rfl 33 _ _ rfl w.heap.size 0 8 ha1.cells.toArray rfl rfl rfl hU4 (by show 8 ≤ 8; decide) iCl (all_oneCell_cl ha1) ?_; intro w1 hcw1 kw1 zw1; have hIw1 : CL w1 w.heap.size ha1.cells := hcw1; clear hcw1 zw1 hU4)
  refine hKH.out _ _ ?_
  clear hKH KK
  obtain ⟨W5, hW5⟩ : ∃ W5, W5 = w1.alloc (.cells #[.int .i64 0, .int .i64 0, .int .i64 0, .bool false, .int .i64 0, .int .i64 0, .int .i64 0, .int .i64 0] 33) := ⟨_, rfl⟩
  have kw5 : Keeps (fun _ => False) w1 W5 := by rw [hW5]; exact (Keeps.refl _ w1).alloc _
  have hU5 : CL W5 w1.heap.size cl0.cells := by rw [hW5]; exact CL.made w1 cl0.cells _
  have HW5 : Hid (W5 = w1.alloc (.cells #[.int .i64 0, .int .i64 0, .int .i64 0, .bool false, .int .i64 0, .int .i64 0, .int .i64 0, .int .i64 0] 33)) := hW5
  clear hW5
  refine wp_seq_k (fun KK hKK => ?_)
  have hKH : Hid _ := hKK
  clear hKK
  go_wp2_with (rw [← HW5.out]; clear HW5; refine wpList_store_cl rfl 33 _ _ rfl w1.heap.size 0 8 hb1.cells.toArray rfl rfl rfl hU5 (by show 8 ≤ 8; decide) iCl (all_oneCell_cl hb1) ?_; intro w2 hcw2 kw2 zw2; have hIw2 : CL w2 w1.heap.size hb1.cells := hcw2; clear hcw2 zw2 hU5)
  refine hKH.out _ _ ?_
  clear hKH KK
  have K1 : Keeps (fun _ => False) w w1 := kw4.trans' kw1 (fun _ _ e => e) (fun i hi e => by have e : i = w.heap.size := e; omega)
  have K2 : Keeps (fun _ => False) w1 w2 := kw5.trans' kw2 (fun _ _ e => e) (fun i hi e => by have e : i = w1.heap.size := e; omega)
  have IA := hIw1.keep (by show 0 < 8; decide) K2 (fun e => e)
  have IB := hIw2
  have hwb : w.heap.size < w1.heap.size := hIw1.lt (by show 0 < 8; decide)
  have K := K1.trans K2
  have HZ : Hid (w.heap.size < w1.heap.size) := hwb
  clear hIw1 hIw2 K1 K2 kw4 kw5 kw1 kw2 hwb
  generalize w1.heap.size = bb at *
  have IBW2 := IB
  refine wp_seq_k (fun KK hKK => ?_)
  have hKH : Hid _ := hKK
  clear hKK
  have hA := run_clB IA
  have hB := run_clB IB
  have hcl := call1 w2
  go_wp2_with (first | (refine wpList_load_runL rfl 33 _ rfl ⟨w.heap.size, 0, none⟩ rfl _ hA ?_; clear hA) | (refine wpList_load_runL rfl 33 _ rfl ⟨bb, 0, none⟩ rfl _ hB ?_; clear hB) | (refine wpList_build2L uC iC (by decide) (by decide) rfl _ _ rfl ha1.cells hb1.cells rfl rfl rfl rfl ?_; (try simp only [Act.put, List.setIfInBounds_toArray, List.set_cons_zero, List.set_cons_succ])) | (go_at_call 6; refine hcl.mono ?_; clear hcl; rintro e w3 ⟨rfl, k3⟩))
  refine hKH.out _ _ ?_
  clear hKH KK
  have IA := IA.keep (by show 0 < 8; decide) k3 (fun e => e)
  have IB := IB.keep (by show 0 < 8; decide) k3 (fun e => e)
  have K := K.trans k3
  refine wp_seq_k (fun KK hKK => ?_)
  have hKH : Hid _ := hKK
  clear hKK
  have hA := run_clB IA
  have hB := run_clB IB
  have hcl := call2 w3
  go_wp2_with (first | (refine wpList_load_runL rfl 33 _ rfl ⟨w.heap.size, 0, none⟩ rfl _ hA ?_; clear hA) | (refine wpList_load_runL rfl 33 _ rfl ⟨bb, 0, none⟩ rfl _ hB ?_; clear hB) | (refine wpList_build2L uC iC (by decide) (by decide) rfl _ _ rfl ha1.cells hb1.cells rfl rfl rfl rfl ?_; (try simp only [Act.put, List.setIfInBounds_toArray, List.set_cons_zero, List.set_cons_succ])) | (go_at_call 8; refine hcl.mono ?_; clear hcl; rintro e w4 ⟨sa, sc, rfl, hs4, hb4, k4⟩))
  refine hKH.out _ _ ?_
  clear hKH KK
  have IA := IA.keep (by show 0 < 8; decide) k4 (fun e => e)
  have IB := IB.keep (by show 0 < 8; decide) k4 (fun e => e)
  have K := K.trans k4
  refine wp_seq_k (fun KK hKK => ?_)
  have hKH : Hid _ := hKK
  clear hKK
  have hA := run_clB IA
  have hB := run_clB IB
  have hcl := call3 w4
  go_wp2_with (first | (refine wpList_load_runL rfl 33 _ rfl ⟨w.heap.size, 0, none⟩ rfl _ hA ?_; clear hA) | (refine wpList_load_runL rfl 33 _ rfl ⟨bb, 0, none⟩ rfl _ hB ?_; clear hB) | (refine wpList_build2L uC iC (by decide) (by decide) rfl _ _ rfl ha1.cells hb1.cells rfl rfl rfl rfl ?_; (try simp only [Act.put, List.setIfInBounds_toArray, List.set_cons_zero, List.set_cons_succ])) | (go_at_call 7; refine hcl.mono ?_; clear hcl; rintro e w5 ⟨ka, kc, rfl, hs5, hb5, k5⟩))
  refine hKH.out _ _ ?_
  clear hKH KK
  have IA := IA.keep (by show 0 < 8; decide) k5 (fun e => e)
  have IB := IB.keep (by show 0 < 8; decide) k5 (fun e => e)
  have K := K.trans k5
  have hs4 := hs4.keep k5
  have hbz : bb < w2.heap.size := IBW2.lt (by show 0 < 8; decide)
  have HB4 : Hid (∀ b off, sa = some ⟨b, off, none⟩ → bb < b) := fun b off e => by have := hb4 b off e; have := k3.size; omega
  have HB5 : Hid (∀ b off, ka = some ⟨b, off, none⟩ → bb < b) := fun b off e => by have := hb5 b off e; have := k3.size; have := k4.size; omega
  clear hb4 hb5
  have hzz := HZ.out
  refine wp_seq_k (fun KK hKK => ?_)
  have hKH : Hid _ := hKK
  clear hKK
  go_wp2_with (refine wpList_store_c1L rfl rfl _ _ rfl w.heap.size 7 rfl 4 rfl IA (by show 7 < 8; decide) ?_; intro w6 hc6 k6; have hj6 : CL w6 w.heap.size ha2.cells := hc6; clear hc6)
  refine hKH.out _ _ ?_
  clear hKH KK
  have hs4 := hs4.keepS k6 (fun b off e e' => by have := HB4.out b off e; have e' : b = w.heap.size := e'; omega)
  have hs5 := hs5.keepS k6 (fun b off e e' => by have := HB5.out b off e; have e' : b = w.heap.size := e'; omega)
  have K := K.trans' k6 (U := fun _ => False) (fun _ _ e => e) (fun i hi e => by have e : i = w.heap.size := e; omega)
  have IA := hj6
  have IB := IB.keep (by show 0 < 8; decide) k6 (fun e => by have e : bb = w.heap.size := e; omega)
  refine wp_seq_k (fun KK hKK => ?_)
  have hKH : Hid _ := hKK
  clear hKK
  go_wp2_with (refine wpList_store_c1L rfl rfl _ _ rfl bb 5 rfl 5 rfl IB (by show 5 < 8; decide) ?_; intro w7 hc7 k7; have hj7 : CL w7 bb (hb1.cells.set 5 (.int .i64 5)) := hc7; clear hc7)
  refine hKH.out _ _ ?_
  clear hKH KK
  have hs4 := hs4.keepS k7 (fun b off e e' => by have := HB4.out b off e; have e' : b = bb := e'; omega)
  have hs5 := hs5.keepS k7 (fun b off e e' => by have := HB5.out b off e; have e' : b = bb := e'; omega)
  have K := K.trans' k7 (U := fun _ => False) (fun _ _ e => e) (fun i hi e => by have e : i = bb := e; omega)
  have IB := hj7
  have IA := IA.keep (by show 0 < 8; decide) k7 (fun e => by have e : w.heap.size = bb := e; omega)
  refine wp_seq_k (fun KK hKK => ?_)
  have hKH : Hid _ := hKK
  clear hKK
  go_wp2_with (refine wpList_store_c1L rfl rfl _ _ rfl bb 6 rfl 7 rfl IB (by show 6 < 8; decide) ?_; intro w8 hc8 k8; have hj8 : CL w8 bb hb2.cells := hc8; clear hc8)
  refine hKH.out _ _ ?_
  clear hKH KK
  have hs4 := hs4.keepS k8 (fun b off e e' => by have := HB4.out b off e; have e' : b = bb := e'; omega)
  have hs5 := hs5.keepS k8 (fun b off e e' => by have := HB5.out b off e; have e' : b = bb := e'; omega)
  have K := K.trans' k8 (U := fun _ => False) (fun _ _ e => e) (fun i hi e => by have e : i = bb := e; omega)
  have IB := hj8
  have IA := IA.keep (by show 0 < 8; decide) k8 (fun e => by have e : w.heap.size = bb := e; omega)
  refine wp_seq_k (fun KK hKK => ?_)
  have hKH : Hid _ := hKK
  clear hKK
  have hA := run_clB IA
  have hB := run_clB IB
  have hcl := call4 w8
  go_wp2_with (first | (refine wpList_load_runL rfl 33 _ rfl ⟨w.heap.size, 0, none⟩ rfl _ hA ?_; clear hA) | (refine wpList_load_runL rfl 33 _ rfl ⟨bb, 0, none⟩ rfl _ hB ?_; clear hB) | (refine wpList_build2L uC iC (by decide) (by decide) rfl _ _ rfl ha2.cells hb2.cells rfl rfl rfl rfl ?_; (try simp only [Act.put, List.setIfInBounds_toArray, List.set_cons_zero, List.set_cons_succ])) | (go_at_call 6; refine hcl.mono ?_; clear hcl; rintro e w9 ⟨rfl, k9⟩))
  refine hKH.out _ _ ?_
  clear hKH KK
  have IA := IA.keep (by show 0 < 8; decide) k9 (fun e => e)
  have IB := IB.keep (by show 0 < 8; decide) k9 (fun e => e)
  have K := K.trans k9
  have hs4 := hs4.keep k9
  have hs5 := hs5.keep k9
  refine wp_seq_k (fun KK hKK => ?_)
  have hKH : Hid _ := hKK
  clear hKK
  have hA := run_clB IA
  have hB := run_clB IB
  have hcl := call5 w9
  go_wp2_with (first | (refine wpList_load_runL rfl 33 _ rfl ⟨w.heap.size, 0, none⟩ rfl _ hA ?_; clear hA) | (refine wpList_load_runL rfl 33 _ rfl ⟨bb, 0, none⟩ rfl _ hB ?_; clear hB) | (refine wpList_build2L uC iC (by decide) (by decide) rfl _ _ rfl ha2.cells hb2.cells rfl rfl rfl rfl ?_; (try simp only [Act.put, List.setIfInBounds_toArray, List.set_cons_zero, List.set_cons_succ])) | (go_at_call 8; refine hcl.mono ?_; clear hcl; rintro e w10 ⟨rfl, k10⟩))
  refine hKH.out _ _ ?_
  clear hKH KK
  have hs4 := hs4.keep k10
  have hs5 := hs5.keep k10
  have K := K.trans k10
  have hn := fun W x => num_any x W
  refine wp_seq_k (fun KK hKK => ?_)
  have hKH : Hid _ := hKK
  clear hKK
  go_wp2_with (go_at_call 9; refine (hn _ _).mono ?_; rintro e w10 ⟨rfl, rfl⟩)
  refine hKH.out _ _ ?_
  clear hKH KK
  have HPL : Hid (∀ W, Keeps (fun _ => False) w10 W → ∀ a2, KL W a2 [1, 0] → Calls Try.prog 11 #[.slice sa 2 sc, .slice a2 2 2] W fun e w' => e = .returned (.bool true) ∧ Keeps (fun _ => False) W w') := fun W kW a2 h2 => sameP_any (hs4.keep kW) h2 (by decide)
  have HKL : Hid (∀ W, Keeps (fun _ => False) w10 W → ∀ a2, KL W a2 [5] → Calls Try.prog 12 #[.slice ka 1 kc, .slice a2 1 1] W fun e w' => e = .returned (.bool true) ∧ Keeps (fun _ => False) W w') := fun W kW a2 h2 => sameK_any (hs5.keep kW) h2 (by decide)
  have hpl := HPL.out (w10.alloc (.cells #[.int .i64 1, .int .i64 0] 3)) ((Keeps.refl _ _).alloc _) (some ⟨w10.heap.size, 0, none⟩) (kl_made w10 [1, 0] _)
  go_wp2_with (first | (go_at_call 11; refine hpl.mono ?_; clear hpl; rintro e w12 ⟨rfl, k12⟩; have kk := ((Keeps.refl (fun _ => False) w10).alloc (.cells #[.int .i64 1, .int .i64 0] 3)).trans k12; have hkl := HKL.out (w12.alloc (.cells #[.int .i64 5] 2)) (kk.trans ((Keeps.refl _ _).alloc _)) (some ⟨w12.heap.size, 0, none⟩) (kl_made w12 [5] _)) | (go_at_call 12; refine hkl.mono ?_; clear hkl; rintro e w13 ⟨rfl, k13⟩))
  go_ret
  exact ⟨rfl, (K.trans kk).trans (((Keeps.refl _ w12).alloc _).trans k13)⟩
end Go.Proofs.Ytgcfckbmmdajhaa
