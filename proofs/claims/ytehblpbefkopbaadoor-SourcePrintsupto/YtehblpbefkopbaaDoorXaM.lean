import Derived.Test.YtehblpbefkopbaaDoorXaL
namespace Go.Proofs.YtehblpbefkopbaaDoor
open Go.RowKit Go.ChangeShapes Go.WideShapes Go.ChangeAt Go.Deep
attribute [local go_sem] Oper.semAt_some run_store_nf run_store_f
theorem wpAnyH_two' {P : Program} {ops : Array Oper} {Q : Exit → Act → World → Prop} {md : Region.Mode} {S : World → Prop} {fuel : Nat} {listed : Array Bool} {a : Act} {w : World} {o o2 : Oper} (i i2 : Nat) (hr : Region.ready md ops listed = [i, i2]) (hoi : ops[i]? = some o) (hoi2 : ops[i2]? = some o2) (hw : Region.wanted o (yielded ops a.tmps) = true) (hw2 : Region.wanted o2 (yielded ops a.tmps) = true)
    (h : Oper.wp P o a w (fun a' w' => S w' ∧ (S w' → wpAnyH P md ops Q S fuel (listed.setIfInBounds i true) a' w')) Q) (h2 : Oper.wp P o2 a w (fun a' w' => S w' ∧ (S w' → wpAnyH P md ops Q S fuel (listed.setIfInBounds i2 true) a' w')) Q) : wpAnyH P md ops Q S (fuel + 1) listed a w := by
  refine wpAnyH_ready hr (by simp) (AllReadyH.cons hoi (fun K hK => ?_) (AllReadyH.cons hoi2 (fun K hK => ?_) AllReadyH.nil))
  · rw [if_pos hw]
    exact Oper.wp_mono (fun a' w' e => hK.out _ _ e.1 e.2) h
  · rw [if_pos hw2]
    exact Oper.wp_mono (fun a' w' e => hK.out _ _ e.1 e.2) h2
theorem wp_call2 (f : Nat) {o : Oper} {a : Act} {w : World} {K : Act → World → Prop} {Q : Exit → Act → World → Prop} (x y : Tmp) {t1 t2 : TypeId} (ho : o.op = .call { callee := .value (.func f), args := #[.tmp x, .tmp y], argTypes := #[t1, t2] }) (v1 v2 : Value) (hx : a.tmps[x]?.getD undef = v1) (hy : a.tmps[y]?.getD undef = v2) (hcf : ∀ args w, (callFunc f args).run Tryd.prog w = .ok (.enter f args) w) (h : Calls Tryd.prog f #[v1, v2] w (fun e w' => ∃ v, e = .returned v ∧ K (a.put o.dst v) w')) : o.wp Tryd.prog a w K Q := by
  unfold Oper.wp execOp
  simp only [ho]
  go_simp
  refine h.mono ?_
  rintro e w' ⟨v, rfl, h⟩
  exact h
/-- A call that ends in a panic. -/
theorem wp_call2P (f : Nat) {o : Oper} {a : Act} {w : World} {K : Act → World → Prop} {Q : Exit → Act → World → Prop} (x y : Tmp) {t1 t2 : TypeId} (ho : o.op = .call { callee := .value (.func f), args := #[.tmp x, .tmp y], argTypes := #[t1, t2] }) (v1 v2 : Value) (hx : a.tmps[x]?.getD undef = v1) (hy : a.tmps[y]?.getD undef = v2) (hcf : ∀ args w, (callFunc f args).run Tryd.prog w = .ok (.enter f args) w) (h : Calls Tryd.prog f #[v1, v2] w (fun e w' => ∃ c, e = .panicked c ∧ Q (.panic c) a w')) : o.wp Tryd.prog a w K Q := by
  unfold Oper.wp execOp
  simp only [ho]
  go_simp
  refine h.mono ?_
  rintro e w' ⟨v, rfl, h⟩
  exact h
theorem wp_build2K {t e : TypeId} {z : Value} {size bytes : Nat} (ht : Tryd.prog.underlying t = some (.slice e)) (hinfo : (Tryd.prog.info? e).map (fun i => (i.zero, i.size, i.bytes)) = some (some z, size, bytes)) (hs : 0 < size) (hs2 : size ≤ 100) {o : Oper} {a : Act} {w : World} {K : Act → World → Prop} {Q : Exit → Act → World → Prop} (x y : Operand) (ho : o.op = .buildSlice t 2 #[(0, x), (1, y)]) (cs ds : List Value) (hc : cs.length = size) (hd : ds.length = size) (hx : a.eval x = .agg cs.toArray) (hy : a.eval y = .agg ds.toArray)
    (h : K (a.put o.dst (.slice (some ⟨w.heap.size, 0, none⟩) 2 2)) (w.alloc (.cells (cs ++ ds).toArray e))) : o.wp Tryd.prog a w K Q := by
  obtain ⟨i0, hi0, hzz⟩ := Option.map_eq_some_iff.1 hinfo
  simp only [Prod.mk.injEq] at hzz
  obtain ⟨hz0, hz1, -⟩ := hzz
  refine wp_buildSlice t e 2 _ ho (cs ++ ds).toArray i0 _ ht hi0 hz0 (by rw [hz1]; omega) (by rw [hz1]; omega) ?_ h
  rw [hz1]
  have e : (#[(0, x), (1, y)].map fun (i, x) => (i, a.eval x)).toList = ([Value.agg cs.toArray, Value.agg ds.toArray].zipIdx 0).map fun x => (x.2, x.1) := by simp [hx, hy]
  have e2 : ([Value.agg cs.toArray, Value.agg ds.toArray].flatMap fun v => v.cells.toList).toArray = (cs ++ ds).toArray := by simp [Value.cells]
  rw [e, Great.fill_whole (s := size) hs [Value.agg cs.toArray, Value.agg ds.toArray] _ (fun v hv => by
    simp at hv
    rcases hv with rfl | rfl
    · simpa [Value.cells] using hc
    · simpa [Value.cells] using hd) (by simp), e2]
theorem iBd : (Tryd.prog.info? 113).map (·.size) = some 3 := by kernel_rfl
theorem run_bd {W : World} {b : Nat} {x y z : Value} (h : CL W b [x, y, z]) : (loadVar 113 ⟨b, 0, none⟩).run Tryd.prog W = .ok (.agg #[x, y, z]) W :=
  run_loadVar_mid W b 0 113 [x, y, z] _ (fun j v e => by have := h.c j v e; rwa [Nat.zero_add]) Tryd.underlying113 rfl (by rw [iBd]; rfl)
abbrev zB : List Value := [.string { data := #[] }, .int .i64 0, .int .i64 0]
theorem one3 {s : ByteArray} {k n : Int} : ([.string s, .int .i64 k, .int .i64 n] : List Value).toArray.all (·.oneCell') = true := all_oneCell_toArray (by simp [Value.oneCell'])
theorem bndL_le : ∀ L : List (Bs × Nat × Nat), (L.all fun x => decide (x.2.1 ≤ 7) && decide (x.2.2 ≤ 8)) = true → ∀ w, (bndL L w).1 ≤ 7 ∧ (bndL L w).2 ≤ 8
  | [], _, _ => ⟨Nat.zero_le _, Nat.zero_le _⟩
  | x :: r, h, w => by
    rw [List.all_cons, Bool.and_eq_true] at h
    unfold bndL
    split
    · simpa using h.1
    · exact bndL_le r h.2 w
theorem bnd_le (w : Bs) : (bnd w).1 ≤ 7 ∧ (bnd w).2 ≤ 8 := bndL_le bnds (by decide) w
set_option maxHeartbeats 1000000 in
set_option maxRecDepth 100000 in
theorem binding_any (l : Bs) {w : World} (hG : SG w) : Calls Tryd.prog 58 #[.string (bs l)] w fun e w' => ∃ s : ByteArray, e = .returned (.agg #[.string s, .int .i64 ((bnd l).1 : Int), .int .i64 ((bnd l).2 : Int)]) ∧ Keeps (fun _ => False) w w' := by
  have hr := fun ob => bn_load (hG.keep ((Keeps.refl (fun _ => False) w).alloc ob) (fun _ _ e => e))
  have hix := bn_ix
  have m0 := CL.made w zB 113
  have hlt : ∀ W, Keeps (fun _ => False) (w.alloc (.cells zB.toArray 113)) W → w.heap.size < W.heap.size := fun W k => by have := k.size; simp only [World.size_alloc] at this; omega
  generalize bnV = V at *
  go_enter Tryd.func58, Tryd.ntmps58
  go_wp2_with (refine wpList_load_run rfl 117 _ rfl ⟨1, 0, none⟩ rfl _ (hr _) ?_; clear hr)
  go_loopw [6] (fun iv Wr => ∃ k : Nat, iv = .int .i64 (k : Int) ∧ k ≤ 20 ∧ bndL (bnds.drop k) l = bnd l ∧ Keeps (fun _ => False) (w.alloc (.cells zB.toArray 113)) Wr) (fun iv _ => 30 - (intOf iv).toNat)
  case atStart => exact ⟨0, rfl, by omega, rfl, Keeps.refl _ _⟩
  case round =>
    obtain ⟨k, rfl, hk1, hk2, kr⟩ := hrel
    have hz := hlt wr kr
    have M1 := m0.keep (by show 0 < 3; decide) kr (fun e => e)
    clear m0 hlt
    by_cases hk : k < 20
    · have hd : decide ((k : Int) < 20) = true := by simp; omega
      have hd2 : decide (k < 20) = true := by simp; omega
      have hi := fun W => hix W k hk
      clear hix
      have hst := getD_step bnds ([], 0, 0) k (by rw [show bnds.length = 20 from rfl]; exact hk)
      rw [hst, bndL] at hk2
      generalize bnds.getD k ([], 0, 0) = b at *
      obtain ⟨bw, b1, b2⟩ := b
      dsimp only at hi hk2
      have hm : (k : Int) + 1 ≤ 9223372036854775807 := by omega
      by_cases hp : bw = l
      · have e1 : ((bs bw).toList == (bs l).toList) = true := by rw [eqL, hp]; simp
        rw [if_pos hp] at hk2
        have HT : Hid (((b1, b2) : Nat × Nat) = bnd l) := hk2
        clear hk2 hst hp
        go_wp2_with (first | (refine wpList_store_cl rfl 113 _ _ rfl wr.heap.size 0 3 _ rfl rfl rfl (CL.made wr zB 113) (by show 3 ≤ 3; decide) iBd one3 ?_; intro w1 c1 k1 z1; clear z1; have y0 := c1.c 0 _ rfl; have M2 := (M1.alloc (by show 0 < 3; decide) _).keep (by show 0 < 3; decide) k1 (fun e => (by omega)); have hc1 : CL w1 wr.heap.size [.string (bs bw), .int .i64 (b1 : Int), .int .i64 (b2 : Int)] := c1) | (refine wpList_load_runL rfl 113 _ rfl ⟨wr.heap.size, 0, none⟩ rfl _ (run_bd hc1) ?_) | (refine wpList_store_cl rfl 113 _ _ rfl w.heap.size 0 3 _ rfl rfl rfl M2 (by show 3 ≤ 3; decide) iBd one3 ?_; intro w2 c2 k2 z2; clear z2))
        have hc2 : CL w2 w.heap.size [.string (bs bw), .int .i64 (b1 : Int), .int .i64 (b2 : Int)] := c2
        have hrn := run_bd hc2
        refine bodyPost_ret (v := .agg #[.string (bs bw), .int .i64 (b1 : Int), .int .i64 (b2 : Int)]) (by rw [results_cell1 rfl]; simp [asAddr, hrn]) rfl ?_
        refine ⟨⟨bs bw, by rw [← HT.out]⟩, ?_⟩
        exact ((((Keeps.refl _ w).alloc _).trans kr).alloc _).trans' (k1.trans' k2 (U := fun i => i = wr.heap.size ∨ i = w.heap.size) (fun _ _ e => .inl e) (fun _ _ e => .inr e)) (fun _ _ e => e) (fun i hi e => by rcases e with e | e <;> omega)
      · have e1 : ((bs bw).toList == (bs l).toList) = false := by rw [eqL]; simpa using hp
        rw [if_neg hp] at hk2
        have HT : Hid (bndL (bnds.drop (k + 1)) l = bnd l) := hk2
        clear hk2 hst hp
        go_wp2_with (refine wpList_store_cl rfl 113 _ _ rfl wr.heap.size 0 3 _ rfl rfl rfl (CL.made wr zB 113) (by show 3 ≤ 3; decide) iBd one3 ?_; intro w1 c1 k1 z1; clear z1; have y0 := c1.c 0 _ rfl)
        go_roundw
        case rel => exact ⟨k + 1, by go_num, by omega, HT.out, (kr.alloc _).trans' k1 (fun _ _ e => e) (fun i hi e => by simp only [World.size_alloc] at hi; omega)⟩
        case measure => simp [intOf]; omega
    · obtain rfl : k = 20 := by omega
      have HT : Hid (((0, 0) : Nat × Nat) = bnd l) := hk2
      clear hk2
      go_wp2_with (refine wpList_store_cl rfl 113 _ _ rfl w.heap.size 0 3 _ rfl rfl rfl M1 (by show 3 ≤ 3; decide) iBd one3 ?_; intro w2 c2 k2 z2; clear z2)
      have hc2 : CL w2 w.heap.size [.string (bs []), .int .i64 0, .int .i64 0] := c2
      have hrn := run_bd hc2
      refine bodyPost_ret (v := .agg #[.string (bs []), .int .i64 0, .int .i64 0]) (by rw [results_cell1 rfl]; simp [asAddr, hrn]) rfl ?_
      exact ⟨⟨bs [], by rw [← HT.out]; rfl⟩, (((Keeps.refl _ w).alloc _).trans kr).trans' k2 (fun _ _ e => e) (fun i hi e => by omega)⟩
end Go.Proofs.YtehblpbefkopbaaDoor
