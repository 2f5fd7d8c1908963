import Derived.Test.YtdmfkepnopppaaaGreatDoorPjG
namespace Go.Proofs.YtdmfkepnopppaaaGreatDoor
open Go.RowKit Go.Deep Go.ChangeShapes Go.WideShapes Go.ChangeAt
attribute [local go_sem] Oper.semAt_some run_store_nf run_store_f
set_option maxHeartbeats 500000 in
set_option maxRecDepth 1000000 in
theorem def_bad {w : World} {base R mb n : Nat} {cv jv : Value} {qs : List Ins} {f : ByteArray → Option Nat} {js : List (Nat × Pc)} (hI : RX w base R mb cv jv qs n f js) (nm : ByteArray) (hs : nm.size ≤ 4096) (t : ByteArray) (ln col : Int) (hb : nmB nm = false) : Calls Tryz.prog 27 #[.pointer (some ⟨R, 0, none⟩), .string nm, .agg #[.string t, .int .i64 ln, .int .i64 col]] w fun e w' => e = pan (101, ln, col) ∧ Keeps (fun _ => False) w w' := by
  have m1 := CL.made w [.string t, .int .i64 ln, .int .i64 col] 76
  have k1 : Keeps (fun _ => False) w (w.alloc (.cells #[.string t, .int .i64 ln, .int .i64 col] 76)) := (Keeps.refl _ w).alloc _
  have hN := isName_any (w.alloc (.cells #[.string t, .int .i64 ln, .int .i64 col] 76)) nm hs
  rw [hb] at hN
  have hL := fun W => leave_any W t ln col 101
  go_enter Tryz.func27, Tryz.ntmps27
  go_wp2_with (first | (go_at_call 44; refine hN.mono ?_; clear hN; rintro e w2 ⟨rfl, k2⟩; have K2 := k1.trans k2; have hI2 := hI.keep K2; have m2 := m1.keep (by show 0 < 3; decide) k2 (fun e => e); have y0 := m2.c 0 _ rfl; have y1 := m2.c 1 _ rfl; have y2 := m2.c 2 _ rfl; have r1 := hI2.c.c 1 _ rfl; have hlk := hI2.m.look (k := nm) (by unfold Sz; omega)) | (go_at_call 28; refine (hL _).mono ?_; rintro e w3 ⟨rfl, k3⟩))
  exact ⟨rfl, rfl, K2.trans k3⟩
set_option maxHeartbeats 500000 in
set_option maxRecDepth 1000000 in
theorem def_twice {w : World} {base R mb n : Nat} {cv jv : Value} {qs : List Ins} {f : ByteArray → Option Nat} {js : List (Nat × Pc)} (hI : RX w base R mb cv jv qs n f js) (nm : ByteArray) (hs : nm.size ≤ 4096) (t : ByteArray) (ln col : Int) (hb : nmB nm = true) {v : Nat} (hf : f nm = some v) : Calls Tryz.prog 27 #[.pointer (some ⟨R, 0, none⟩), .string nm, .agg #[.string t, .int .i64 ln, .int .i64 col]] w fun e w' => e = pan (105, ln, col) ∧ Keeps (fun _ => False) w w' := by
  have m1 := CL.made w [.string t, .int .i64 ln, .int .i64 col] 76
  have k1 : Keeps (fun _ => False) w (w.alloc (.cells #[.string t, .int .i64 ln, .int .i64 col] 76)) := (Keeps.refl _ w).alloc _
  have hN := isName_any (w.alloc (.cells #[.string t, .int .i64 ln, .int .i64 col] 76)) nm hs
  rw [hb] at hN
  have hL := fun W => leave_any W t ln col 105
  go_enter Tryz.func27, Tryz.ntmps27
  go_wp2_with (first | ((go_at_call 44; refine hN.mono ?_; clear hN; rintro e w2 ⟨rfl, k2⟩; have K2 := k1.trans k2; have hI2 := hI.keep K2; have m2 := m1.keep (by show 0 < 3; decide) k2 (fun e => e); have y0 := m2.c 0 _ rfl; have y1 := m2.c 1 _ rfl; have y2 := m2.c 2 _ rfl; have r1 := hI2.c.c 1 _ rfl; have hlk := hI2.m.look (k := nm) (by unfold Sz; omega)); rw [hf] at hlk; simp only [Option.getD_some, Option.isSome_some] at hlk) | (go_at_call 28; refine (hL _).mono ?_; rintro e w3 ⟨rfl, k3⟩))
  exact ⟨rfl, rfl, K2.trans k3⟩
set_option maxHeartbeats 500000 in
set_option maxRecDepth 1000000 in
theorem def_ok {w : World} {base R mb n : Nat} {cv jv : Value} {qs : List Ins} {f : ByteArray → Option Nat} {js : List (Nat × Pc)} (hI : RX w base R mb cv jv qs n f js) (nm : ByteArray) (hs : nm.size ≤ 4096) (t : ByteArray) (ln col : Int) (hb : nmB nm = true) (hf : f nm = none) (hn : n < 4000000000) (hq : qs.length < 9000000) : Calls Tryz.prog 27 #[.pointer (some ⟨R, 0, none⟩), .string nm, .agg #[.string t, .int .i64 ln, .int .i64 col]] w fun e w' => e = .returned (.tuple #[]) ∧ RX w' base R mb cv jv qs (n + 1) (upd f nm (some qs.length)) js ∧ Keeps (fun k => k = mb) w w' := by
  have m1 := CL.made w [.string t, .int .i64 ln, .int .i64 col] 76
  have k1 : Keeps (fun _ => False) w (w.alloc (.cells #[.string t, .int .i64 ln, .int .i64 col] 76)) := (Keeps.refl _ w).alloc _
  have hN := isName_any (w.alloc (.cells #[.string t, .int .i64 ln, .int .i64 col] 76)) nm hs
  rw [hb] at hN
  obtain ⟨ac, capc, rfl⟩ := slice_of_owns hI.o
  go_enter Tryz.func27, Tryz.ntmps27
  go_wp2_with ((go_at_call 44; refine hN.mono ?_; clear hN; rintro e w2 ⟨rfl, k2⟩; have K2 := k1.trans k2; have hI2 := hI.keep K2; have m2 := m1.keep (by show 0 < 3; decide) k2 (fun e => e); have y0 := m2.c 0 _ rfl; have y1 := m2.c 1 _ rfl; have y2 := m2.c 2 _ rfl; have r1 := hI2.c.c 1 _ rfl; have hlk := hI2.m.look (k := nm) (by unfold Sz; omega)); rw [hf] at hlk; simp only [Option.getD_none, Option.isSome_none] at hlk)
  have r0 := hI2.c.c 0 _ rfl
  obtain ⟨w6, hput, hm6, k6⟩ := (hI2.m.keep (Keeps.refl (fun _ => False) w2).drew (fun e => e)).put (k := nm) (by unfold Sz; omega) (v := qs.length) (by omega) (by omega)
  rw [hf] at hm6
  have k6' : Keeps (fun k => k = mb) w2 w6 := ((Keeps.refl (fun k => k = mb) w2).drew).trans k6
  have nR : R ≠ mb := fun e => hI.b.2.2 e.symm
  refine wp_region_held_drew (S := fun w' => Keeps (fun k => k = mb) w2 w') (by kernel_rfl) (Keeps.refl _ w2).drew (fun hHeld => ?_)
  refine wpAnyH_take (i := 0) (v := ?_) rfl (by kernel_rfl) (by kernel_rfl) (by kernel_rfl) (fun _ _ _ h => h) (Or.inl ⟨by rfl, ?_⟩) (by assumption) ?_
  rotate_left
  · intro wx hSw;  go_simp <;> with_reducible rfl
  (try simp only [List.getElem_toArray]); (try simp only [List.getElem_cons_succ]); (try simp only [List.getElem_cons_zero]); (try simp only [Act.put]); (try simp only [List.setIfInBounds_toArray]); (repeat first | simp only [List.set_cons_succ] | simp only [List.set_cons_zero])
  refine wpAnyH_take (i := 1) (v := ?_) rfl (by kernel_rfl) (by kernel_rfl) (by kernel_rfl) (fun _ _ _ h => h) (Or.inl ⟨by rfl, ?_⟩) (by assumption) ?_
  rotate_left
  · intro wx hSw;  go_simp <;> with_reducible rfl
  (try simp only [List.getElem_toArray]); (try simp only [List.getElem_cons_succ]); (try simp only [List.getElem_cons_zero]); (try simp only [Act.put]); (try simp only [List.setIfInBounds_toArray]); (repeat first | simp only [List.set_cons_succ] | simp only [List.set_cons_zero])
  refine wpAnyH_take (i := 2) (v := ?_) rfl (by kernel_rfl) (by kernel_rfl) (by kernel_rfl) (fun _ _ _ h => h) (Or.inl ⟨by rfl, ?_⟩) (by assumption) ?_
  rotate_left
  · intro wx hSw;  go_simp <;> with_reducible rfl
  (try simp only [List.getElem_toArray]); (try simp only [List.getElem_cons_succ]); (try simp only [List.getElem_cons_zero]); (try simp only [Act.put]); (try simp only [List.setIfInBounds_toArray]); (repeat first | simp only [List.set_cons_succ] | simp only [List.set_cons_zero])
  refine wpAnyH_take (i := 3) (v := ?_) rfl (by kernel_rfl) (by kernel_rfl) (by kernel_rfl) (fun _ _ _ h => h) (Or.inl ⟨by rfl, ?_⟩) (by assumption) ?_
  rotate_left
  · intro wx hSw; have q1 := hSw.cell r1 nR;  go_simp <;> with_reducible rfl
  (try simp only [List.getElem_toArray]); (try simp only [List.getElem_cons_succ]); (try simp only [List.getElem_cons_zero]); (try simp only [Act.put]); (try simp only [List.setIfInBounds_toArray]); (repeat first | simp only [List.set_cons_succ] | simp only [List.set_cons_zero])
  refine wpAnyH_take (i := 4) (v := ?_) rfl (by kernel_rfl) (by kernel_rfl) (by kernel_rfl) (fun _ _ _ h => h) (Or.inl ⟨by rfl, ?_⟩) (by assumption) ?_
  rotate_left
  · intro wx hSw;  go_simp <;> with_reducible rfl
  (try simp only [List.getElem_toArray]); (try simp only [List.getElem_cons_succ]); (try simp only [List.getElem_cons_zero]); (try simp only [Act.put]); (try simp only [List.setIfInBounds_toArray]); (repeat first | simp only [List.set_cons_succ] | simp only [List.set_cons_zero])
  refine wpAnyH_take (i := 5) (v := ?_) rfl (by kernel_rfl) (by kernel_rfl) (by kernel_rfl) (fun _ _ _ h => h) (Or.inl ⟨by rfl, ?_⟩) (by assumption) ?_
  rotate_left
  · intro wx hSw;  go_simp <;> with_reducible rfl
  (try simp only [List.getElem_toArray]); (try simp only [List.getElem_cons_succ]); (try simp only [List.getElem_cons_zero]); (try simp only [Act.put]); (try simp only [List.setIfInBounds_toArray]); (repeat first | simp only [List.set_cons_succ] | simp only [List.set_cons_zero])
  refine wpAnyH_take (i := 6) (v := ?_) rfl (by kernel_rfl) (by kernel_rfl) (by kernel_rfl) (fun _ _ _ h => h) (Or.inl ⟨by rfl, ?_⟩) (by assumption) ?_
  rotate_left
  · intro wx hSw;  go_simp <;> with_reducible rfl
  (try simp only [List.getElem_toArray]); (try simp only [List.getElem_cons_succ]); (try simp only [List.getElem_cons_zero]); (try simp only [Act.put]); (try simp only [List.setIfInBounds_toArray]); (repeat first | simp only [List.set_cons_succ] | simp only [List.set_cons_zero])
  refine wpAnyH_take (i := 7) (v := ?_) rfl (by kernel_rfl) (by kernel_rfl) (by kernel_rfl) (fun _ _ _ h => h) (Or.inl ⟨by rfl, ?_⟩) (by assumption) ?_
  rotate_left
  · intro wx hSw;  go_simp <;> with_reducible rfl
  (try simp only [List.getElem_toArray]); (try simp only [List.getElem_cons_succ]); (try simp only [List.getElem_cons_zero]); (try simp only [Act.put]); (try simp only [List.setIfInBounds_toArray]); (repeat first | simp only [List.set_cons_succ] | simp only [List.set_cons_zero])
  refine wpAnyH_take (i := 8) (v := ?_) rfl (by kernel_rfl) (by kernel_rfl) (by kernel_rfl) (fun _ _ _ h => h) (Or.inl ⟨by rfl, ?_⟩) (by assumption) ?_
  rotate_left
  · intro wx hSw; have q0 := hSw.cell r0 nR;  go_simp <;> with_reducible rfl
  (try simp only [List.getElem_toArray]); (try simp only [List.getElem_cons_succ]); (try simp only [List.getElem_cons_zero]); (try simp only [Act.put]); (try simp only [List.setIfInBounds_toArray]); (repeat first | simp only [List.set_cons_succ] | simp only [List.set_cons_zero])
  refine wpAnyH_take (i := 9) (v := ?_) rfl (by kernel_rfl) (by kernel_rfl) (by kernel_rfl) (fun _ _ _ h => h) (Or.inl ⟨by rfl, ?_⟩) (by assumption) ?_
  rotate_left
  · intro wx hSw;  go_simp <;> with_reducible rfl
  (try simp only [List.getElem_toArray]); (try simp only [List.getElem_cons_succ]); (try simp only [List.getElem_cons_zero]); (try simp only [Act.put]); (try simp only [List.setIfInBounds_toArray]); (repeat first | simp only [List.set_cons_succ] | simp only [List.set_cons_zero])
  refine wpAnyH_one 10 (by kernel_rfl) rfl rfl ?_
  go_simp
  (try simp only [List.getElem_toArray]); (try simp only [List.getElem_cons_succ]); (try simp only [List.getElem_cons_zero]); (try simp only [Act.put]); (try simp only [List.setIfInBounds_toArray]); (repeat first | simp only [List.set_cons_succ] | simp only [List.set_cons_zero])
  refine wpAnyH_done (by kernel_rfl) ?_ _
  go_wp2_with fail
  go_end0
  refine ⟨rfl, ⟨hI2.c.keep (by show 0 < 3; decide) k6' nR, k6'.owns hI2.o (fun g hg e => hI.d1.2 (e ▸ hg)), k6'.owns hI2.j (fun g hg e => hI.d2.2 (e ▸ hg)), hm6, hI.b, hI.d1, hI.d2, hI.d3⟩, (K2.mono (fun _ _ e => e.elim)).trans k6'⟩
end Go.Proofs.YtdmfkepnopppaaaGreatDoor
