import Derived.Test.YtchbhmolnoggfaaGreatDoorG13
namespace Go.Proofs.YtchbhmolnoggfaaGreatDoor
open Go.RowKit Go.Deep Go.ChangeShapes Go.WideShapes Go.ChangeAt
attribute [local go_sem] Oper.semAt_some run_store_nf run_store_f
theorem uU : Tryz.prog.underlying 46 = some (.slice 54) := by kernel_rfl
theorem uI0 : (Tryz.prog.info? 54).map (fun i => (i.zero, i.size, i.bytes)) = some (some (.agg #[.int .i64 0, .string ⟨#[]⟩, .int .i64 0, .int .i64 0]), 4, 40) := by kernel_rfl
theorem uIi : ∃ i, Tryz.prog.info? 54 = some i ∧ i.zero = some (.agg #[.int .i64 0, .string ⟨#[]⟩, .int .i64 0, .int .i64 0]) ∧ i.size = 4 ∧ i.bytes = 40 := by
  have h := uI0
  cases hq : Tryz.prog.info? 54 with
  | none => rw [hq] at h; cases h
  | some i =>
    rw [hq] at h
    injection h with h
    injection h with h1 h2
    injection h2 with h2 h3
    exact ⟨i, rfl, h1, h2, h3⟩
theorem append_u {W : World} {base k : Nat} {v : Value} {js : List (Nat × Pc)} (hown : W.ownsRow base 54 4 v k (ucl js)) (hb : base ≤ W.heap.size) (hk : (k + 1) * 40 ≤ 140737488355328) (n : Nat) (p : Pc) :
    ∃ v' w', (Builtin.append_ #[46, 46] 46 #[v, .slice (some ⟨W.heap.size, 0, none⟩) 1 1]).run Tryz.prog (W.alloc (.cells #[.int .i64 (n : Int), .string p.t, .int .i64 p.ln, .int .i64 p.col] 54)) = .ok v' w' ∧ w'.ownsRow base 54 4 v' (k + 1) (ucl (js ++ [(n, p)])) ∧ Keeps (fun i => v.ownBlock = some i) W w' ∧ (v'.ownBlock = v.ownBlock ∨ v'.ownBlock = some (W.heap.size + 1)) := by
  obtain ⟨i0, hi0, hz0, hz1, hz2⟩ := uIi
  obtain ⟨v', w', hr, ho, hg, _, hbl⟩ := run_append_own_at (P := Tryz.prog) (w := W.alloc (.cells (ucl [(n, p)]).toArray 54)) base 46 46 54 i0 _ 4 40 uU hi0 hz0 hz1 hz2 rfl (by decide) v k (ucl js) (((Keeps.refl (fun _ => False) W).alloc _).owns hown (fun _ _ e => e)) ⟨W.heap.size, 0, none⟩ 1 1 (ucl [(n, p)]) rfl (fun j u hu => by
      rw [add_at]
      have := (CL.made W (ucl [(n, p)]) 54).c j u hu
      simpa using this) (fun u hu => by
      simp [ucl] at hu
      rcases hu with rfl | rfl | rfl | rfl <;> rfl) (by unfold maxLen; omega) (by omega) (Nat.le_trans hb (by simp))
  refine ⟨v', w', hr, ?_, ((Keeps.refl _ W).alloc _).grown hg (fun i _ e => e), by simpa using hbl⟩
  unfold ucl
  rw [List.flatMap_append]
  simpa [ucl] using ho
theorem RY.lt {w : World} {base R : Nat} {cv nv wv uv : Value} {qs : List Ins} {ns : List (ByteArray × Nat)} {js : List (Nat × Pc)} (h : RY w base R cv nv wv uv qs ns js) : R < w.heap.size := h.c.lt (by show 0 < 4; decide)
set_option maxHeartbeats 1000000 in
set_option maxRecDepth 1000000 in
theorem roper_6 {w : World} {base R ib : Nat} {cv nv wv uv : Value} {qs : List Ins} {ns : List (ByteArray × Nat)} {js : List (Nat × Pc)} (t : ByteArray) (hs : t.size ≤ 4096) (col bh n : Int) (hI : RY w base R cv nv wv uv qs ns js) (hbw : base ≤ w.heap.size) (hjl : js.length ≤ 5000000) :
    Calls Tryz.prog 27 #[.pointer (some ⟨R, 0, none⟩), .pointer (some ⟨ib, 0, none⟩), .int .u8 108, .agg #[.string t, .int .i64 col, .int .i64 bh], .int .i64 n] w fun e w' => e = .returned (.bool (nmB t)) ∧ ∃ uv', RY w' base R cv nv wv uv' qs ns (js ++ [(qs.length, ⟨t, n, col⟩)]) ∧ (uv'.ownBlock = uv.ownBlock ∨ ∀ g, uv'.ownBlock = some g → w.heap.size ≤ g) ∧ Keeps (fun k => k = R ∨ uv.ownBlock = some k) w w' := by
  obtain ⟨V2, hV2⟩ : ∃ V2, V2 = w.alloc (.cells #[.string t, .int .i64 col, .int .i64 bh] 83) := ⟨_, rfl⟩
  have KV : Keeps (fun _ => False) w V2 := by rw [hV2]; exact (Keeps.refl _ w).alloc _
  have m2 : CL V2 w.heap.size [.string t, .int .i64 col, .int .i64 bh] := by rw [hV2]; exact CL.made w [.string t, .int .i64 col, .int .i64 bh] 83
  have hI2 := hI.keep KV
  have hlV : w.heap.size < V2.heap.size := m2.lt (by show 0 < 3; decide)
  obtain ⟨ac, capc, rfl⟩ := slice_of_owns hI2.o
  have Kd : Keeps (fun _ => False) V2 V2.drew := (Keeps.refl _ V2).drew
  obtain ⟨v', w', hr, ho, kk, hbl⟩ := append_u (Kd.owns hI2.u (fun _ _ e => e)) (by have := KV.size; show base ≤ V2.heap.size; omega) (by omega) qs.length ⟨t, n, col⟩
  obtain ⟨a', cap', rfl⟩ := slice_of_owns ho
  obtain ⟨aj, capj, rfl⟩ := slice_of_owns hI2.u
  have hr' : (Builtin.append_ #[46, 46] 46 #[.slice aj js.length capj, .slice (some ⟨V2.heap.size, 0, none⟩) 1 1]).run Tryz.prog (V2.alloc (.cells #[.int .i64 (qs.length : Int), .string t, .int .i64 n, .int .i64 col] 54)).drew = .ok (.slice a' (js.length + 1) cap') w' := hr
  clear hr
  have KK : Keeps (fun k => Value.ownBlock (.slice aj js.length capj) = some k) V2 w' := (Kd.mono (fun _ _ e => e.elim)).trans kk
  have nW : Value.ownBlock (.slice aj js.length capj) ≠ some w.heap.size := fun e => by have := owns_lt' hI.u _ e; omega
  have nR : w.heap.size ≠ R := fun e => by have := hI.lt; omega
  have dU := hI2.dR (.slice aj js.length capj) (by simp)
  have r0 := hI2.c.c 0 _ rfl
  have r3 := hI2.c.c 3 _ rfl
  have CR' := hI2.c.keep (by show 0 < 4; decide) KK dU
  have hNm := fun W => rName_T W t hs
  go_enter Tryz.func27, Tryz.ntmps27
  go_wp2_with fail
  rw [← hV2]
  clear hV2
  refine wp_region_held_drew (S := fun w' => SJ (Value.ownBlock (.slice aj js.length capj)) R (.slice ac qs.length capc) V2 w') (by kernel_rfl) ⟨(Keeps.refl _ V2).drew, r0⟩ (fun hHeld => ?_)
  refine wpAnyH_take (i := 0) (v := ?_) rfl (by kernel_rfl) (by kernel_rfl) (by kernel_rfl) (fun _ _ _ h => h) (Or.inl ⟨by rfl, ?_⟩) (by assumption) ?_
  rotate_left
  · intro wx hSw;  go_simp <;> with_reducible rfl
  (try simp only [List.getElem_toArray]); (try simp only [List.getElem_cons_succ]); (try simp only [List.getElem_cons_zero]); (try simp only [Act.put]); (try simp only [List.setIfInBounds_toArray]); (repeat first | simp only [List.set_cons_succ] | simp only [List.set_cons_zero])
  refine wpAnyH_take (i := 1) (v := ?_) rfl (by kernel_rfl) (by kernel_rfl) (by kernel_rfl) (fun _ _ _ h => h) (Or.inl ⟨by rfl, ?_⟩) (by assumption) ?_
  rotate_left
  · intro wx hSw;  go_simp <;> with_reducible rfl
  (try simp only [List.getElem_toArray]); (try simp only [List.getElem_cons_succ]); (try simp only [List.getElem_cons_zero]); (try simp only [Act.put]); (try simp only [List.setIfInBounds_toArray]); (repeat first | simp only [List.set_cons_succ] | simp only [List.set_cons_zero])
  refine wpAnyH_take (i := 2) (v := ?_) rfl (by kernel_rfl) (by kernel_rfl) (by kernel_rfl) (fun _ _ _ h => h) (Or.inl ⟨by rfl, ?_⟩) (by assumption) ?_
  rotate_left
  · intro wx hSw;  go_simp <;> with_reducible rfl
  (try simp only [List.getElem_toArray]); (try simp only [List.getElem_cons_succ]); (try simp only [List.getElem_cons_zero]); (try simp only [Act.put]); (try simp only [List.setIfInBounds_toArray]); (repeat first | simp only [List.set_cons_succ] | simp only [List.set_cons_zero])
  refine wpAnyH_take (i := 3) (v := ?_) rfl (by kernel_rfl) (by kernel_rfl) (by kernel_rfl) (fun _ _ _ h => h) (Or.inl ⟨by rfl, ?_⟩) (by assumption) ?_
  rotate_left
  · intro wx hSw;  go_simp <;> with_reducible rfl
  (try simp only [List.getElem_toArray]); (try simp only [List.getElem_cons_succ]); (try simp only [List.getElem_cons_zero]); (try simp only [Act.put]); (try simp only [List.setIfInBounds_toArray]); (repeat first | simp only [List.set_cons_succ] | simp only [List.set_cons_zero])
  refine wpAnyH_take (i := 5) (v := ?_) rfl (by kernel_rfl) (by kernel_rfl) (by kernel_rfl) (fun _ _ _ h => h) (Or.inl ⟨by rfl, ?_⟩) (by assumption) ?_
  rotate_left
  · intro wx hSw;  go_simp <;> with_reducible rfl
  (try simp only [List.getElem_toArray]); (try simp only [List.getElem_cons_succ]); (try simp only [List.getElem_cons_zero]); (try simp only [Act.put]); (try simp only [List.setIfInBounds_toArray]); (repeat first | simp only [List.set_cons_succ] | simp only [List.set_cons_zero])
  refine wpAnyH_take (i := 6) (v := ?_) rfl (by kernel_rfl) (by kernel_rfl) (by kernel_rfl) (fun _ _ _ h => h) (Or.inl ⟨by rfl, ?_⟩) (by assumption) ?_
  rotate_left
  · intro wx hSw;  go_simp <;> with_reducible rfl
  (try simp only [List.getElem_toArray]); (try simp only [List.getElem_cons_succ]); (try simp only [List.getElem_cons_zero]); (try simp only [Act.put]); (try simp only [List.setIfInBounds_toArray]); (repeat first | simp only [List.set_cons_succ] | simp only [List.set_cons_zero])
  refine wpAnyH_take (i := 7) (v := ?_) rfl (by kernel_rfl) (by kernel_rfl) (by kernel_rfl) (fun _ _ _ h => h) (Or.inl ⟨by rfl, ?_⟩) (by assumption) ?_
  rotate_left
  · intro wx hSw;  go_simp <;> with_reducible rfl
  (try simp only [List.getElem_toArray]); (try simp only [List.getElem_cons_succ]); (try simp only [List.getElem_cons_zero]); (try simp only [Act.put]); (try simp only [List.setIfInBounds_toArray]); (repeat first | simp only [List.set_cons_succ] | simp only [List.set_cons_zero])
  refine wpAnyH_take (i := 8) (v := ?_) rfl (by kernel_rfl) (by kernel_rfl) (by kernel_rfl) (fun _ _ _ h => h) (Or.inl ⟨by rfl, ?_⟩) (by assumption) ?_
  rotate_left
  · intro wx hSw; have q0 := hSw.c;  go_simp <;> with_reducible rfl
  (try simp only [List.getElem_toArray]); (try simp only [List.getElem_cons_succ]); (try simp only [List.getElem_cons_zero]); (try simp only [Act.put]); (try simp only [List.setIfInBounds_toArray]); (repeat first | simp only [List.set_cons_succ] | simp only [List.set_cons_zero])
  refine wpAnyH_take (i := 9) (v := ?_) rfl (by kernel_rfl) (by kernel_rfl) (by kernel_rfl) (fun _ _ _ h => h) (Or.inl ⟨by rfl, ?_⟩) (by assumption) ?_
  rotate_left
  · intro wx hSw;  go_simp <;> with_reducible rfl
  (try simp only [List.getElem_toArray]); (try simp only [List.getElem_cons_succ]); (try simp only [List.getElem_cons_zero]); (try simp only [Act.put]); (try simp only [List.setIfInBounds_toArray]); (repeat first | simp only [List.set_cons_succ] | simp only [List.set_cons_zero])
  refine wpAnyH_take (i := 10) (v := ?_) rfl (by kernel_rfl) (by kernel_rfl) (by kernel_rfl) (fun _ _ _ h => h) (Or.inl ⟨by rfl, ?_⟩) (by assumption) ?_
  rotate_left
  · intro wx hSw;  go_simp <;> with_reducible rfl
  (try simp only [List.getElem_toArray]); (try simp only [List.getElem_cons_succ]); (try simp only [List.getElem_cons_zero]); (try simp only [Act.put]); (try simp only [List.setIfInBounds_toArray]); (repeat first | simp only [List.set_cons_succ] | simp only [List.set_cons_zero])
  refine wpAnyH_take (i := 11) (v := ?_) rfl (by kernel_rfl) (by kernel_rfl) (by kernel_rfl) (fun _ _ _ h => h) (Or.inl ⟨by rfl, ?_⟩) (by assumption) ?_
  rotate_left
  · intro wx hSw; have p0 := (m2.keep (by show 0 < 3; decide) hSw.k (fun e => e.elim nW nR)).c 0 _ rfl;  go_simp <;> with_reducible rfl
  (try simp only [List.getElem_toArray]); (try simp only [List.getElem_cons_succ]); (try simp only [List.getElem_cons_zero]); (try simp only [Act.put]); (try simp only [List.setIfInBounds_toArray]); (repeat first | simp only [List.set_cons_succ] | simp only [List.set_cons_zero])
  refine wpAnyH_take (i := 12) (v := ?_) rfl (by kernel_rfl) (by kernel_rfl) (by kernel_rfl) (fun _ _ _ h => h) (Or.inl ⟨by rfl, ?_⟩) (by assumption) ?_
  rotate_left
  · intro wx hSw;  go_simp <;> with_reducible rfl
  (try simp only [List.getElem_toArray]); (try simp only [List.getElem_cons_succ]); (try simp only [List.getElem_cons_zero]); (try simp only [Act.put]); (try simp only [List.setIfInBounds_toArray]); (repeat first | simp only [List.set_cons_succ] | simp only [List.set_cons_zero])
  refine wpAnyH_take (i := 13) (v := ?_) rfl (by kernel_rfl) (by kernel_rfl) (by kernel_rfl) (fun _ _ _ h => h) (Or.inl ⟨by rfl, ?_⟩) (by assumption) ?_
  rotate_left
  · intro wx hSw;  go_simp <;> with_reducible rfl
  (try simp only [List.getElem_toArray]); (try simp only [List.getElem_cons_succ]); (try simp only [List.getElem_cons_zero]); (try simp only [Act.put]); (try simp only [List.setIfInBounds_toArray]); (repeat first | simp only [List.set_cons_succ] | simp only [List.set_cons_zero])
  refine wpAnyH_take (i := 14) (v := ?_) rfl (by kernel_rfl) (by kernel_rfl) (by kernel_rfl) (fun _ _ _ h => h) (Or.inl ⟨by rfl, ?_⟩) (by assumption) ?_
  rotate_left
  · intro wx hSw; have p1 := (m2.keep (by show 0 < 3; decide) hSw.k (fun e => e.elim nW nR)).c 1 _ rfl;  go_simp <;> with_reducible rfl
  (try simp only [List.getElem_toArray]); (try simp only [List.getElem_cons_succ]); (try simp only [List.getElem_cons_zero]); (try simp only [Act.put]); (try simp only [List.setIfInBounds_toArray]); (repeat first | simp only [List.set_cons_succ] | simp only [List.set_cons_zero])
  refine wpAnyH_take (i := 15) (v := ?_) rfl (by kernel_rfl) (by kernel_rfl) (by kernel_rfl) (fun _ _ _ h => h) (Or.inl ⟨by rfl, ?_⟩) (by assumption) ?_
  rotate_left
  · intro wx hSw;  go_simp <;> with_reducible rfl
  (try simp only [List.getElem_toArray]); (try simp only [List.getElem_cons_succ]); (try simp only [List.getElem_cons_zero]); (try simp only [Act.put]); (try simp only [List.setIfInBounds_toArray]); (repeat first | simp only [List.set_cons_succ] | simp only [List.set_cons_zero])
  refine wpAnyH_two' 4 16 (by kernel_rfl) rfl rfl (by kernel_rfl) (by kernel_rfl) ?_ ?_
  · go_simp
    (try simp only [List.getElem_toArray]); (try simp only [List.getElem_cons_succ]); (try simp only [List.getElem_cons_zero]); (try simp only [Act.put]); (try simp only [List.setIfInBounds_toArray]); (repeat first | simp only [List.set_cons_succ] | simp only [List.set_cons_zero])
    refine wpAnyH_one 16 (by kernel_rfl) rfl rfl ?_
    go_simp
    refine ⟨⟨hHeld.k.alloc _, (Keeps.refl (fun _ => False) V2).drew.alloc _ |>.cell r0 (fun e => e)⟩, fun hS2' => ?_⟩
    (try simp only [List.getElem_toArray]); (try simp only [List.getElem_cons_succ]); (try simp only [List.getElem_cons_zero]); (try simp only [Act.put]); (try simp only [List.setIfInBounds_toArray]); (repeat first | simp only [List.set_cons_succ] | simp only [List.set_cons_zero])
    refine wpAnyH_one 17 (by kernel_rfl) rfl rfl ?_
    refine wp_append_run _ _ 46 rfl _ _ _ _ rfl rfl hr' ?_
    refine ⟨⟨KK.mono (fun _ _ e => .inl e), CR'.c 0 _ rfl⟩, fun hS3 => ?_⟩
    (try simp only [List.getElem_toArray]); (try simp only [List.getElem_cons_succ]); (try simp only [List.getElem_cons_zero]); (try simp only [Act.put]); (try simp only [List.setIfInBounds_toArray]); (repeat first | simp only [List.set_cons_succ] | simp only [List.set_cons_zero])
    have z3 := CR'.z 3 (by show 3 < 4; decide)
    have x3 := CR'.c 3 _ rfl
    refine wpAnyH_take (i := 18) (v := ?_) rfl (by kernel_rfl) (by kernel_rfl) (by kernel_rfl) (fun _ _ _ h => h) (Or.inl ⟨by rfl, ?_⟩) (by assumption) ?_
    rotate_left
    · intro wx hSw;  go_simp <;> with_reducible rfl
    (try simp only [List.getElem_toArray]); (try simp only [List.getElem_cons_succ]); (try simp only [List.getElem_cons_zero]); (try simp only [Act.put]); (try simp only [List.setIfInBounds_toArray]); (repeat first | simp only [List.set_cons_succ] | simp only [List.set_cons_zero])
    refine wpAnyH_take (i := 19) (v := ?_) rfl (by kernel_rfl) (by kernel_rfl) (by kernel_rfl) (fun _ _ _ h => h) (Or.inl ⟨by rfl, ?_⟩) (by assumption) ?_
    rotate_left
    · intro wx hSw;  go_simp <;> with_reducible rfl
    (try simp only [List.getElem_toArray]); (try simp only [List.getElem_cons_succ]); (try simp only [List.getElem_cons_zero]); (try simp only [Act.put]); (try simp only [List.setIfInBounds_toArray]); (repeat first | simp only [List.set_cons_succ] | simp only [List.set_cons_zero])
    refine wpAnyH_one 20 (by kernel_rfl) rfl rfl ?_
    go_simp
    refine ⟨⟨hS3.k.setCell (fun _ => .inr rfl) _, (CR'.set (o := 3) (by show 3 < 4; decide) (.slice a' (js.length + 1) cap')).c 0 _ rfl⟩, fun hS4 => ?_⟩
    (try simp only [List.getElem_toArray]); (try simp only [List.getElem_cons_succ]); (try simp only [List.getElem_cons_zero]); (try simp only [Act.put]); (try simp only [List.setIfInBounds_toArray]); (repeat first | simp only [List.set_cons_succ] | simp only [List.set_cons_zero])
    refine wpAnyH_done (by kernel_rfl) ?_ _
    have kS : Keeps (fun k => k = R) w' (w'.setCell ⟨R, 3, none⟩ (.slice a' (js.length + 1) cap')) := (Keeps.refl _ w').setA 3 _
    have kT := (m2.keep (by show 0 < 3; decide) KK nW).keep (by show 0 < 3; decide) kS nR
    have g0 := kT.c 0 _ rfl
    go_wp2_with (go_at_call 24; refine (hNm _).mono ?_; rintro e w9 ⟨rfl, e9⟩; subst e9)
    go_ret
    have hRn : Value.ownBlock (.slice a' (js.length + 1) cap') ≠ some R := fun e => by
      rcases hbl with h | h
      · exact dU (h.symm.trans e)
      · have h2 : some (V2.heap.size + 1) = some R := h.symm.trans e
        have h3 := hI2.lt
        injection h2 with h2
        omega
    have fr : ∀ (v : Value) g, (∀ g, v.ownBlock = some g → Value.ownBlock (.slice aj js.length capj) ≠ some g) → (v.ownBlock = some g → g < V2.heap.size) → v.ownBlock = some g → Value.ownBlock (.slice a' (js.length + 1) cap') ≠ some g := fun v g h1 h2 hg e => by
      rcases hbl with h | h
      · exact h1 g hg (h.symm.trans e)
      · have h3 : some (V2.heap.size + 1) = some g := h.symm.trans e
        have h4 := h2 hg
        injection h3 with h3
        omega
    have e1 : ∀ g, Value.ownBlock (.slice ac qs.length capc) = some g → Value.ownBlock (.slice aj js.length capj) ≠ some g := fun g hg => (hI2.d1 g hg).2.2
    have e2 : ∀ g, nv.ownBlock = some g → Value.ownBlock (.slice aj js.length capj) ≠ some g := fun g hg => (hI2.d2 g hg).2
    have e3 : ∀ g, wv.ownBlock = some g → Value.ownBlock (.slice aj js.length capj) ≠ some g := hI2.d3
    refine ⟨rfl, .slice a' (js.length + 1) cap', ⟨CR'.set (o := 3) (by show 3 < 4; decide) _, ?_, ?_, ?_, ?_, hI.b, ?_, ?_, ?_, ?_⟩, ?_, ?_⟩
    · exact kS.owns (KK.owns hI2.o (fun g hg e => e1 g hg e)) (fun g hg e => hI2.dR _ (by simp) (e ▸ hg))
    · exact kS.owns (KK.owns hI2.n (fun g hg e => e2 g hg e)) (fun g hg e => hI2.dR nv (by simp) (e ▸ hg))
    · exact kS.owns (KK.owns hI2.p (fun g hg e => e3 g hg e)) (fun g hg e => hI2.dR wv (by simp) (e ▸ hg))
    · rw [List.length_append]
      exact kS.owns ho (fun g hg e => hRn (e ▸ hg))
    · intro v hv
      simp only [List.mem_cons, List.mem_nil_iff, or_false] at hv
      rcases hv with rfl | rfl | rfl | rfl
      · exact hI2.dR _ (by simp)
      · exact hI2.dR _ (by simp)
      · exact hI2.dR _ (by simp)
      · exact hRn
    · exact fun g hg => ⟨(hI2.d1 g hg).1, (hI2.d1 g hg).2.1, fr _ g e1 (fun h => owns_lt' hI2.o g h) hg⟩
    · exact fun g hg => ⟨(hI2.d2 g hg).1, fr _ g e2 (fun h => owns_lt' hI2.n g h) hg⟩
    · exact fun g hg => fr _ g e3 (fun h => owns_lt' hI2.p g h) hg
    · rcases hbl with h | h
      · exact .inl h
      · refine .inr (fun g hg => ?_)
        have h2 : some (V2.heap.size + 1) = some g := h.symm.trans hg
        injection h2 with h2
        have := KV.size
        omega
    · exact (KV.mono (fun _ _ e => e.elim)).trans' hS4.k (fun _ _ e => e) (fun i hi e => e.elim (fun e => .inr e) (fun e => .inl e))
  · go_simp
    refine ⟨⟨hHeld.k.alloc _, (Keeps.refl (fun _ => False) V2).drew.alloc _ |>.cell r0 (fun e => e)⟩, fun hS1 => ?_⟩
    (try simp only [List.getElem_toArray]); (try simp only [List.getElem_cons_succ]); (try simp only [List.getElem_cons_zero]); (try simp only [Act.put]); (try simp only [List.setIfInBounds_toArray]); (repeat first | simp only [List.set_cons_succ] | simp only [List.set_cons_zero])
    have r3a := ((Keeps.refl (fun _ => False) V2).alloc (.cells #[.int .i64 (qs.length : Int), .string t, .int .i64 n, .int .i64 col] 54)).cell r3 (fun e => e)
    refine wpAnyH_one 4 (by kernel_rfl) rfl rfl ?_
    go_simp
    (try simp only [List.getElem_toArray]); (try simp only [List.getElem_cons_succ]); (try simp only [List.getElem_cons_zero]); (try simp only [Act.put]); (try simp only [List.setIfInBounds_toArray]); (repeat first | simp only [List.set_cons_succ] | simp only [List.set_cons_zero])
    refine wpAnyH_one 17 (by kernel_rfl) rfl rfl ?_
    refine wp_append_run _ _ 46 rfl _ _ _ _ rfl rfl hr' ?_
    refine ⟨⟨KK.mono (fun _ _ e => .inl e), CR'.c 0 _ rfl⟩, fun hS3 => ?_⟩
    (try simp only [List.getElem_toArray]); (try simp only [List.getElem_cons_succ]); (try simp only [List.getElem_cons_zero]); (try simp only [Act.put]); (try simp only [List.setIfInBounds_toArray]); (repeat first | simp only [List.set_cons_succ] | simp only [List.set_cons_zero])
    have z3 := CR'.z 3 (by show 3 < 4; decide)
    have x3 := CR'.c 3 _ rfl
    refine wpAnyH_take (i := 18) (v := ?_) rfl (by kernel_rfl) (by kernel_rfl) (by kernel_rfl) (fun _ _ _ h => h) (Or.inl ⟨by rfl, ?_⟩) (by assumption) ?_
    rotate_left
    · intro wx hSw;  go_simp <;> with_reducible rfl
    (try simp only [List.getElem_toArray]); (try simp only [List.getElem_cons_succ]); (try simp only [List.getElem_cons_zero]); (try simp only [Act.put]); (try simp only [List.setIfInBounds_toArray]); (repeat first | simp only [List.set_cons_succ] | simp only [List.set_cons_zero])
    refine wpAnyH_take (i := 19) (v := ?_) rfl (by kernel_rfl) (by kernel_rfl) (by kernel_rfl) (fun _ _ _ h => h) (Or.inl ⟨by rfl, ?_⟩) (by assumption) ?_
    rotate_left
    · intro wx hSw;  go_simp <;> with_reducible rfl
    (try simp only [List.getElem_toArray]); (try simp only [List.getElem_cons_succ]); (try simp only [List.getElem_cons_zero]); (try simp only [Act.put]); (try simp only [List.setIfInBounds_toArray]); (repeat first | simp only [List.set_cons_succ] | simp only [List.set_cons_zero])
    refine wpAnyH_one 20 (by kernel_rfl) rfl rfl ?_
    go_simp
    refine ⟨⟨hS3.k.setCell (fun _ => .inr rfl) _, (CR'.set (o := 3) (by show 3 < 4; decide) (.slice a' (js.length + 1) cap')).c 0 _ rfl⟩, fun hS4 => ?_⟩
    (try simp only [List.getElem_toArray]); (try simp only [List.getElem_cons_succ]); (try simp only [List.getElem_cons_zero]); (try simp only [Act.put]); (try simp only [List.setIfInBounds_toArray]); (repeat first | simp only [List.set_cons_succ] | simp only [List.set_cons_zero])
    refine wpAnyH_done (by kernel_rfl) ?_ _
    have kS : Keeps (fun k => k = R) w' (w'.setCell ⟨R, 3, none⟩ (.slice a' (js.length + 1) cap')) := (Keeps.refl _ w').setA 3 _
    have kT := (m2.keep (by show 0 < 3; decide) KK nW).keep (by show 0 < 3; decide) kS nR
    have g0 := kT.c 0 _ rfl
    go_wp2_with (go_at_call 24; refine (hNm _).mono ?_; rintro e w9 ⟨rfl, e9⟩; subst e9)
    go_ret
    have hRn : Value.ownBlock (.slice a' (js.length + 1) cap') ≠ some R := fun e => by
      rcases hbl with h | h
      · exact dU (h.symm.trans e)
      · have h2 : some (V2.heap.size + 1) = some R := h.symm.trans e
        have h3 := hI2.lt
        injection h2 with h2
        omega
    have fr : ∀ (v : Value) g, (∀ g, v.ownBlock = some g → Value.ownBlock (.slice aj js.length capj) ≠ some g) → (v.ownBlock = some g → g < V2.heap.size) → v.ownBlock = some g → Value.ownBlock (.slice a' (js.length + 1) cap') ≠ some g := fun v g h1 h2 hg e => by
      rcases hbl with h | h
      · exact h1 g hg (h.symm.trans e)
      · have h3 : some (V2.heap.size + 1) = some g := h.symm.trans e
        have h4 := h2 hg
        injection h3 with h3
        omega
    have e1 : ∀ g, Value.ownBlock (.slice ac qs.length capc) = some g → Value.ownBlock (.slice aj js.length capj) ≠ some g := fun g hg => (hI2.d1 g hg).2.2
    have e2 : ∀ g, nv.ownBlock = some g → Value.ownBlock (.slice aj js.length capj) ≠ some g := fun g hg => (hI2.d2 g hg).2
    have e3 : ∀ g, wv.ownBlock = some g → Value.ownBlock (.slice aj js.length capj) ≠ some g := hI2.d3
    refine ⟨rfl, .slice a' (js.length + 1) cap', ⟨CR'.set (o := 3) (by show 3 < 4; decide) _, ?_, ?_, ?_, ?_, hI.b, ?_, ?_, ?_, ?_⟩, ?_, ?_⟩
    · exact kS.owns (KK.owns hI2.o (fun g hg e => e1 g hg e)) (fun g hg e => hI2.dR _ (by simp) (e ▸ hg))
    · exact kS.owns (KK.owns hI2.n (fun g hg e => e2 g hg e)) (fun g hg e => hI2.dR nv (by simp) (e ▸ hg))
    · exact kS.owns (KK.owns hI2.p (fun g hg e => e3 g hg e)) (fun g hg e => hI2.dR wv (by simp) (e ▸ hg))
    · rw [List.length_append]
      exact kS.owns ho (fun g hg e => hRn (e ▸ hg))
    · intro v hv
      simp only [List.mem_cons, List.mem_nil_iff, or_false] at hv
      rcases hv with rfl | rfl | rfl | rfl
      · exact hI2.dR _ (by simp)
      · exact hI2.dR _ (by simp)
      · exact hI2.dR _ (by simp)
      · exact hRn
    · exact fun g hg => ⟨(hI2.d1 g hg).1, (hI2.d1 g hg).2.1, fr _ g e1 (fun h => owns_lt' hI2.o g h) hg⟩
    · exact fun g hg => ⟨(hI2.d2 g hg).1, fr _ g e2 (fun h => owns_lt' hI2.n g h) hg⟩
    · exact fun g hg => fr _ g e3 (fun h => owns_lt' hI2.p g h) hg
    · rcases hbl with h | h
      · exact .inl h
      · refine .inr (fun g hg => ?_)
        have h2 : some (V2.heap.size + 1) = some g := h.symm.trans hg
        injection h2 with h2
        have := KV.size
        omega
    · exact (KV.mono (fun _ _ e => e.elim)).trans' hS4.k (fun _ _ e => e) (fun i hi e => e.elim (fun e => .inr e) (fun e => .inl e))
end Go.Proofs.YtchbhmolnoggfaaGreatDoor

