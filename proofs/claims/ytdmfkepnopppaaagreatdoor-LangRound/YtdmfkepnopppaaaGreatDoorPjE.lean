import Derived.Test.YtdmfkepnopppaaaGreatDoorPjD
namespace Go.Proofs.YtdmfkepnopppaaaGreatDoor
open Go.RowKit Go.Deep Go.ChangeShapes Go.WideShapes Go.ChangeAt
attribute [local go_sem] Oper.semAt_some run_store_nf run_store_f
/-- The operands of a line, one behind the other; and the words at which it jumps. -/
def fls : Ins → List Int → Pc → List Pc → List Pc → Except Flt (Ins × List Pc)
  | u, [], _, [], acc => .ok (u, acc)
  | _, [], _, p :: _, _ => .error (104, p.ln, p.col)
  | _, _ :: _, pv, [], _ => .error (102, pv.ln, pv.col + (pv.t.size : Int))
  | u, s :: ss, _, p :: ps, acc => if s = 6 then (if nmB p.t = true then fls u ss p ps (acc ++ [p]) else .error (103, p.ln, p.col)) else match fil u s p.t with
    | none => .error (103, p.ln, p.col)
    | some u' => fls u' ss p ps acc
/-- A line's instruction, behind so many. -/
def insR (m : Nat) : List Pc → Except Flt (Ins × List Pc)
  | [] => .error (0, 0, 0)
  | p :: r => match nmd p.t with
    | none => .error (101, p.ln, p.col)
    | some q => if m = 64 then .error (106, p.ln, p.col) else fls q (slo q.code.toNat) p r []
/-- What an instruction's line comes to. -/
def InsP (w : World) (base R mb : Nat) (cv jv : Value) (qs : List Ins) (n : Nat) (f : ByteArray → Option Nat) (js : List (Nat × Pc)) (RES : Except Flt (Ins × List Pc)) (e : Ending) (w' : World) : Prop := match RES with
  | .error fl => e = pan fl ∧ Keeps (fun k => base ≤ k) w w'
  | .ok (q, ps) => e = .returned (.tuple #[]) ∧ ∃ cv' jv', RX w' base R mb cv' jv' (qs ++ [q]) n f (js ++ ps.map (fun p => (qs.length, p))) ∧ Keeps (fun k => k = R ∨ cv.ownBlock = some k ∨ jv.ownBlock = some k) w w'
theorem behind_any (w : World) (t : ByteArray) (ln col : Int) (hw : IntKind.i64.wrap (col + (t.size : Int)) = col + (t.size : Int)) : Calls Tryz.prog 42 #[.agg #[.string t, .int .i64 ln, .int .i64 col]] w fun e w' => e = .returned (.agg #[.string ⟨#[]⟩, .int .i64 ln, .int .i64 (col + (t.size : Int))]) ∧ Keeps (fun _ => False) w w' := by
  obtain ⟨W2, hW2⟩ : ∃ W2, W2 = (w.alloc (.cells #[.string t, .int .i64 ln, .int .i64 col] 76)).alloc (.cells #[.string ⟨#[]⟩, .int .i64 0, .int .i64 0] 76) := ⟨_, rfl⟩
  have m1 : CL W2 w.heap.size [.string t, .int .i64 ln, .int .i64 col] := by rw [hW2]; exact made1 w [.string t, .int .i64 ln, .int .i64 col] 76 _ (by show 0 < 3; decide)
  have m2 : CL W2 (w.heap.size + 1) [.string ⟨#[]⟩, .int .i64 0, .int .i64 0] := by rw [hW2]; exact made2 w [.string ⟨#[]⟩, .int .i64 0, .int .i64 0] 76 _
  have k2 : Keeps (fun _ => False) w W2 := by rw [hW2]; exact ks2 w _ _
  have HW : Hid (_ = _) := hW2
  have y0 := m1.c 0 _ rfl
  have y1 := m1.c 1 _ rfl
  have y2 := m1.c 2 _ rfl
  have n12 : ¬ w.heap.size = w.heap.size + 1 := by omega
  have hA : ([.string ⟨#[]⟩, .int .i64 ln, .int .i64 (col + (t.size : Int))] : List Value).toArray.all (·.oneCell') = true := all_oneCell_toArray (by simp [Value.oneCell'])
  clear m1
  go_enter Tryz.func42, Tryz.ntmps42
  refine wp_seq_k (fun KK hKK => ?_)
  have hKH : Hid _ := hKK
  clear hKK
  go_wp2_with fail
  refine hKH.out _ _ ?_
  clear hKH KK
  rw [← HW.out]
  clear HW hW2
  go_wp2_with (refine wpList_store_cl rfl 76 _ _ rfl (w.heap.size + 1) 0 3 _ rfl rfl rfl m2 (by show 3 ≤ 3; decide) iPc hA ?_; intro w5 hc5 k5 hsz5; clear hsz5)
  have hc6 : CL w5 (w.heap.size + 1) (⟨⟨#[]⟩, ln, col + (t.size : Int)⟩ : Pc).cells := hc5
  have hr6 := run_pcAt (W := w5) (b := w.heap.size + 1) (o := 0) (p := ⟨⟨#[]⟩, ln, col + (t.size : Int)⟩) (fun j v e => by have := hc6.c j v e; rwa [Nat.zero_add])
  refine bodyPost_ret (v := .agg #[.string ⟨#[]⟩, .int .i64 ln, .int .i64 (col + (t.size : Int))]) (by rw [results_cell1 rfl]; simp [asAddr, hr6]; rfl) rfl ⟨rfl, ?_⟩
  exact k2.trans' k5 (fun _ _ e => e) (fun i hi e => by have e : i = w.heap.size + 1 := e; omega)
def insT3 (f : Func) : Code := match f.body with | some (.seq _ (.seq _ t)) => t | _ => .skip
def insT4 (f : Func) : Code := match f.body with | some (.seq _ (.seq _ (.seq _ (.seq _ t)))) => t | _ => .skip
set_option maxHeartbeats 1000000 in
set_option maxRecDepth 1000000 in
theorem ins_end {wr : World} {P : Ending → World → Prop} {base R mb ib n : Nat} {cv jv : Value} {qs : List Ins} {f : ByteArray → Option Nat} {js : List (Nat × Pc)} {u : Ins} {x1 x2 x3 x5 x6 x7 x8 x9 x10 x11 x12 x13 x14 x15 x16 x17 x18 x19 x20 x21 x22 x23 x24 x25 x26 x27 x28 x29 x30 x31 x32 x33 x34 x35 x36 x37 x38 x39 x40 x41 x42 x43 x44 x45 x46 x47 x48 x49 x50 x51 x52 x53 x54 x55 x56 x57 x58 x59 x60 x61 x62 x63 x64 x65 x66 x67 x68 x69 x70 x71 x72 x73 x74 x75 x76 x77 x78 : Value} (hI : RX wr base R mb cv jv qs n f js) (hU : CL wr ib u.cells) (hnI : cv.ownBlock ≠ some ib) (hibR : ib ≠ R) (hbw : base ≤ wr.heap.size) (hq : qs.length < 64)
    (hP : ∀ w' cv', RX w' base R mb cv' jv (qs ++ [u]) n f js → Keeps (fun k => k = R ∨ cv.ownBlock = some k) wr w' → P (.returned (.tuple #[])) w') :
    (insT4 Tryz.f26).wp Tryz.prog (bodyPost Tryz.prog Tryz.f26 P) { tmps := #[.pointer (some ⟨R, 0, none⟩), x1, x2, x3, .pointer (some ⟨ib, 0, none⟩), x5, x6, x7, x8, x9, x10, x11, x12, x13, x14, x15, x16, x17, x18, x19, x20, x21, x22, x23, x24, x25, x26, x27, x28, x29, x30, x31, x32, x33, x34, x35, x36, x37, x38, x39, x40, x41, x42, x43, x44, x45, x46, x47, x48, x49, x50, x51, x52, x53, x54, x55, x56, x57, x58, x59, x60, x61, x62, x63, x64, x65, x66, x67, x68, x69, x70, x71, x72, x73, x74, x75, x76, x77, x78], defers := [] } wr := by
  obtain ⟨ac, capc, rfl⟩ := slice_of_owns hI.o
  obtain ⟨cd, dst, oR, oN, xR, xN, yR, yN, op, rel, to⟩ := u
  have Kd : Keeps (fun _ => False) wr wr.drew := (Keeps.refl _ wr).drew
  obtain ⟨v', w', hr, ho, kk, hbl⟩ := append_i2 (Kd.owns hI.o (fun _ _ e => e)) (by show base ≤ wr.heap.size; omega) (by omega) ⟨cd, dst, oR, oN, xR, xN, yR, yN, op, rel, to⟩
  obtain ⟨a', cap', rfl⟩ := slice_of_owns ho
  have hr' : (Builtin.append_ #[23, 23] 23 #[.slice ac qs.length capc, .slice (some ⟨wr.heap.size, 0, none⟩) 1 1]).run Tryz.prog (wr.alloc (.cells #[.int .i64 cd, .int .i64 dst, .bool oR, .int .i64 oN, .bool xR, .int .i64 xN, .bool yR, .int .i64 yN, .int .i64 op, .int .i64 rel, .int .i64 to] 45)).drew = .ok (.slice a' (qs.length + 1) cap') w' := hr
  clear hr
  have KK : Keeps (fun k => Value.ownBlock (.slice ac qs.length capc) = some k) wr w' := (Kd.mono (fun _ _ e => e.elim)).trans kk
  have CR' := hI.c.keep (by show 0 < 3; decide) KK hI.d1.1
  have r0 := hI.c.c 0 _ rfl
  have HP : Hid (∀ w' cv', RX w' base R mb cv' jv (qs ++ [⟨cd, dst, oR, oN, xR, xN, yR, yN, op, rel, to⟩]) n f js → Keeps (fun k => k = R ∨ Value.ownBlock (.slice ac qs.length capc) = some k) wr w' → P (.returned (.tuple #[])) w') := hP
  clear hP
  dsimp only [insT4, Tryz.f26]
  refine wp_region_held_drew (S := fun w' => Keeps (fun i => Value.ownBlock (.slice ac qs.length capc) = some i ∨ i = R) wr w') (by kernel_rfl) (Keeps.refl _ wr).drew (fun hHeld => ?_)
  refine wpAnyH_take (i := 0) (v := ?_) rfl (by kernel_rfl) (by kernel_rfl) (by kernel_rfl) (fun _ _ _ h => h) (Or.inl ⟨by rfl, ?_⟩) (by assumption) ?_
  rotate_left
  · intro wx hSw;  go_simp <;> with_reducible rfl
  (try simp only [List.getElem_toArray]); (try simp only [List.getElem_cons_succ]); (try simp only [List.getElem_cons_zero]); (try simp only [Act.put]); (try simp only [List.setIfInBounds_toArray]); (repeat first | simp only [List.set_cons_succ] | simp only [List.set_cons_zero])
  refine wpAnyH_take (i := 1) (v := ?_) rfl (by kernel_rfl) (by kernel_rfl) (by kernel_rfl) (fun _ _ _ h => h) (Or.inl ⟨by rfl, ?_⟩) (by assumption) ?_
  rotate_left
  · intro wx hSw;  go_simp <;> with_reducible rfl
  (try simp only [List.getElem_toArray]); (try simp only [List.getElem_cons_succ]); (try simp only [List.getElem_cons_zero]); (try simp only [Act.put]); (try simp only [List.setIfInBounds_toArray]); (repeat first | simp only [List.set_cons_succ] | simp only [List.set_cons_zero])
  refine wpAnyH_take (i := 2) (v := ?_) rfl (by kernel_rfl) (by kernel_rfl) (by kernel_rfl) (fun _ _ _ h => h) (Or.inl ⟨by rfl, ?_⟩) (by assumption) ?_
  rotate_left
  · intro wx hSw;  go_simp <;> with_reducible rfl
  (try simp only [List.getElem_toArray]); (try simp only [List.getElem_cons_succ]); (try simp only [List.getElem_cons_zero]); (try simp only [Act.put]); (try simp only [List.setIfInBounds_toArray]); (repeat first | simp only [List.set_cons_succ] | simp only [List.set_cons_zero])
  refine wpAnyH_take (i := 3) (v := ?_) rfl (by kernel_rfl) (by kernel_rfl) (by kernel_rfl) (fun _ _ _ h => h) (Or.inl ⟨by rfl, ?_⟩) (by assumption) ?_
  rotate_left
  · intro wx hSw;  go_simp <;> with_reducible rfl
  (try simp only [List.getElem_toArray]); (try simp only [List.getElem_cons_succ]); (try simp only [List.getElem_cons_zero]); (try simp only [Act.put]); (try simp only [List.setIfInBounds_toArray]); (repeat first | simp only [List.set_cons_succ] | simp only [List.set_cons_zero])
  refine wpAnyH_take (i := 5) (v := .agg #[.int .i64 cd, .int .i64 dst, .bool oR, .int .i64 oN, .bool xR, .int .i64 xN, .bool yR, .int .i64 yN, .int .i64 op, .int .i64 rel, .int .i64 to]) rfl (by kernel_rfl) (by kernel_rfl) (by kernel_rfl) (fun _ _ _ h => h) (Or.inl ⟨by rfl, ?_⟩) (by assumption) ?_
  · intro wx hSw
    exact takes_load' 45 _ rfl ⟨ib, 0, none⟩ rfl (run_ins (hU.keep (by show 0 < 11; decide) hSw (fun e => e.elim hnI hibR)))
  (try simp only [List.getElem_toArray]); (try simp only [List.getElem_cons_succ]); (try simp only [List.getElem_cons_zero]); (try simp only [Act.put]); (try simp only [List.setIfInBounds_toArray]); (repeat first | simp only [List.set_cons_succ] | simp only [List.set_cons_zero])
  refine wpAnyH_two' 4 6 (by kernel_rfl) rfl rfl (by kernel_rfl) (by kernel_rfl) ?_ ?_
  · go_simp
    (try simp only [List.getElem_toArray]); (try simp only [List.getElem_cons_succ]); (try simp only [List.getElem_cons_zero]); (try simp only [Act.put]); (try simp only [List.setIfInBounds_toArray]); (repeat first | simp only [List.set_cons_succ] | simp only [List.set_cons_zero])
    refine wpAnyH_one 6 (by kernel_rfl) rfl rfl ?_
    go_simp
    refine ⟨hHeld.alloc _, fun hS2' => ?_⟩
    (try simp only [List.getElem_toArray]); (try simp only [List.getElem_cons_succ]); (try simp only [List.getElem_cons_zero]); (try simp only [Act.put]); (try simp only [List.setIfInBounds_toArray]); (repeat first | simp only [List.set_cons_succ] | simp only [List.set_cons_zero])
    refine wpAnyH_one 7 (by kernel_rfl) rfl rfl ?_
    refine wp_append_run _ _ 23 rfl _ _ _ _ rfl rfl hr' ?_
    refine ⟨KK.mono (fun _ _ e => .inl e), fun hS3 => ?_⟩
    (try simp only [List.getElem_toArray]); (try simp only [List.getElem_cons_succ]); (try simp only [List.getElem_cons_zero]); (try simp only [Act.put]); (try simp only [List.setIfInBounds_toArray]); (repeat first | simp only [List.set_cons_succ] | simp only [List.set_cons_zero])
    have z0 := CR'.z 0 (by show 0 < 3; decide)
    have x0 := CR'.c 0 _ rfl
    refine wpAnyH_take (i := 8) (v := ?_) rfl (by kernel_rfl) (by kernel_rfl) (by kernel_rfl) (fun _ _ _ h => h) (Or.inl ⟨by rfl, ?_⟩) (by assumption) ?_
    rotate_left
    · intro wx hSw;  go_simp <;> with_reducible rfl
    (try simp only [List.getElem_toArray]); (try simp only [List.getElem_cons_succ]); (try simp only [List.getElem_cons_zero]); (try simp only [Act.put]); (try simp only [List.setIfInBounds_toArray]); (repeat first | simp only [List.set_cons_succ] | simp only [List.set_cons_zero])
    refine wpAnyH_take (i := 9) (v := ?_) rfl (by kernel_rfl) (by kernel_rfl) (by kernel_rfl) (fun _ _ _ h => h) (Or.inl ⟨by rfl, ?_⟩) (by assumption) ?_
    rotate_left
    · intro wx hSw;  go_simp <;> with_reducible rfl
    (try simp only [List.getElem_toArray]); (try simp only [List.getElem_cons_succ]); (try simp only [List.getElem_cons_zero]); (try simp only [Act.put]); (try simp only [List.setIfInBounds_toArray]); (repeat first | simp only [List.set_cons_succ] | simp only [List.set_cons_zero])
    refine wpAnyH_one 10 (by kernel_rfl) rfl rfl ?_
    go_simp
    refine ⟨hS3.setCell (fun _ => .inr rfl) _, fun hS4 => ?_⟩
    (try simp only [List.getElem_toArray]); (try simp only [List.getElem_cons_succ]); (try simp only [List.getElem_cons_zero]); (try simp only [Act.put]); (try simp only [List.setIfInBounds_toArray]); (repeat first | simp only [List.set_cons_succ] | simp only [List.set_cons_zero])
    refine wpAnyH_done (by kernel_rfl) ?_ _
    go_wp2_with fail
    go_end0
    have hRn : Value.ownBlock (.slice a' (qs.length + 1) cap') ≠ some R := fun e => by
      rcases hbl with h | h
      · exact hI.d1.1 (h.symm.trans e)
      · have h2 : some (wr.heap.size + 1) = some R := h.symm.trans e
        have h3 := hI.lt
        injection h2 with h2
        omega
    have hMn : Value.ownBlock (.slice a' (qs.length + 1) cap') ≠ some mb := fun e => by
      rcases hbl with h | h
      · exact hI.d1.2 (h.symm.trans e)
      · have h2 : some (wr.heap.size + 1) = some mb := h.symm.trans e
        have h3 := hI.m.lt
        injection h2 with h2
        omega
    have hJn : ∀ g, Value.ownBlock (.slice a' (qs.length + 1) cap') = some g → jv.ownBlock ≠ some g := fun g hg e => by
      rcases hbl with h | h
      · exact hI.d3 g (h.symm.trans hg) e
      · have h2 : some (wr.heap.size + 1) = some g := h.symm.trans hg
        have h3 := owns_lt' hI.j g e
        injection h2 with h2
        omega
    have kS : Keeps (fun k => k = R) w' (w'.setCell ⟨R, 0, none⟩ (.slice a' (qs.length + 1) cap')) := (Keeps.refl _ w').setA 0 _
    refine HP.out _ (.slice a' (qs.length + 1) cap') ⟨CR'.set (o := 0) (by show 0 < 3; decide) _, ?_, ?_, ?_, hI.b, ⟨hRn, hMn⟩, hI.d2, hJn⟩ ?_
    · rw [List.length_append]
      exact kS.owns ho (fun g hg e => hRn (e ▸ hg))
    · exact kS.owns (KK.owns hI.j (fun g hg e => hI.d3 g e hg)) (fun g hg e => hI.d2.1 (e ▸ hg))
    · exact (hI.m.keep KK hI.d1.2).keep kS hI.b.2.2
    · exact hS4.mono (fun i _ e => e.elim (fun e => .inr e) (fun e => .inl e))
  · go_simp
    refine ⟨hHeld.alloc _, fun hS1 => ?_⟩
    (try simp only [List.getElem_toArray]); (try simp only [List.getElem_cons_succ]); (try simp only [List.getElem_cons_zero]); (try simp only [Act.put]); (try simp only [List.setIfInBounds_toArray]); (repeat first | simp only [List.set_cons_succ] | simp only [List.set_cons_zero])
    have r0a := ((Keeps.refl (fun _ => False) wr).alloc (.cells #[.int .i64 cd, .int .i64 dst, .bool oR, .int .i64 oN, .bool xR, .int .i64 xN, .bool yR, .int .i64 yN, .int .i64 op, .int .i64 rel, .int .i64 to] 45)).cell r0 (fun e => e)
    refine wpAnyH_one 4 (by kernel_rfl) rfl rfl ?_
    go_simp
    (try simp only [List.getElem_toArray]); (try simp only [List.getElem_cons_succ]); (try simp only [List.getElem_cons_zero]); (try simp only [Act.put]); (try simp only [List.setIfInBounds_toArray]); (repeat first | simp only [List.set_cons_succ] | simp only [List.set_cons_zero])
    refine wpAnyH_one 7 (by kernel_rfl) rfl rfl ?_
    refine wp_append_run _ _ 23 rfl _ _ _ _ rfl rfl hr' ?_
    refine ⟨KK.mono (fun _ _ e => .inl e), fun hS3 => ?_⟩
    (try simp only [List.getElem_toArray]); (try simp only [List.getElem_cons_succ]); (try simp only [List.getElem_cons_zero]); (try simp only [Act.put]); (try simp only [List.setIfInBounds_toArray]); (repeat first | simp only [List.set_cons_succ] | simp only [List.set_cons_zero])
    have z0 := CR'.z 0 (by show 0 < 3; decide)
    have x0 := CR'.c 0 _ rfl
    refine wpAnyH_take (i := 8) (v := ?_) rfl (by kernel_rfl) (by kernel_rfl) (by kernel_rfl) (fun _ _ _ h => h) (Or.inl ⟨by rfl, ?_⟩) (by assumption) ?_
    rotate_left
    · intro wx hSw;  go_simp <;> with_reducible rfl
    (try simp only [List.getElem_toArray]); (try simp only [List.getElem_cons_succ]); (try simp only [List.getElem_cons_zero]); (try simp only [Act.put]); (try simp only [List.setIfInBounds_toArray]); (repeat first | simp only [List.set_cons_succ] | simp only [List.set_cons_zero])
    refine wpAnyH_take (i := 9) (v := ?_) rfl (by kernel_rfl) (by kernel_rfl) (by kernel_rfl) (fun _ _ _ h => h) (Or.inl ⟨by rfl, ?_⟩) (by assumption) ?_
    rotate_left
    · intro wx hSw;  go_simp <;> with_reducible rfl
    (try simp only [List.getElem_toArray]); (try simp only [List.getElem_cons_succ]); (try simp only [List.getElem_cons_zero]); (try simp only [Act.put]); (try simp only [List.setIfInBounds_toArray]); (repeat first | simp only [List.set_cons_succ] | simp only [List.set_cons_zero])
    refine wpAnyH_one 10 (by kernel_rfl) rfl rfl ?_
    go_simp
    refine ⟨hS3.setCell (fun _ => .inr rfl) _, fun hS4 => ?_⟩
    (try simp only [List.getElem_toArray]); (try simp only [List.getElem_cons_succ]); (try simp only [List.getElem_cons_zero]); (try simp only [Act.put]); (try simp only [List.setIfInBounds_toArray]); (repeat first | simp only [List.set_cons_succ] | simp only [List.set_cons_zero])
    refine wpAnyH_done (by kernel_rfl) ?_ _
    go_wp2_with fail
    go_end0
    have hRn : Value.ownBlock (.slice a' (qs.length + 1) cap') ≠ some R := fun e => by
      rcases hbl with h | h
      · exact hI.d1.1 (h.symm.trans e)
      · have h2 : some (wr.heap.size + 1) = some R := h.symm.trans e
        have h3 := hI.lt
        injection h2 with h2
        omega
    have hMn : Value.ownBlock (.slice a' (qs.length + 1) cap') ≠ some mb := fun e => by
      rcases hbl with h | h
      · exact hI.d1.2 (h.symm.trans e)
      · have h2 : some (wr.heap.size + 1) = some mb := h.symm.trans e
        have h3 := hI.m.lt
        injection h2 with h2
        omega
    have hJn : ∀ g, Value.ownBlock (.slice a' (qs.length + 1) cap') = some g → jv.ownBlock ≠ some g := fun g hg e => by
      rcases hbl with h | h
      · exact hI.d3 g (h.symm.trans hg) e
      · have h2 : some (wr.heap.size + 1) = some g := h.symm.trans hg
        have h3 := owns_lt' hI.j g e
        injection h2 with h2
        omega
    have kS : Keeps (fun k => k = R) w' (w'.setCell ⟨R, 0, none⟩ (.slice a' (qs.length + 1) cap')) := (Keeps.refl _ w').setA 0 _
    refine HP.out _ (.slice a' (qs.length + 1) cap') ⟨CR'.set (o := 0) (by show 0 < 3; decide) _, ?_, ?_, ?_, hI.b, ⟨hRn, hMn⟩, hI.d2, hJn⟩ ?_
    · rw [List.length_append]
      exact kS.owns ho (fun g hg e => hRn (e ▸ hg))
    · exact kS.owns (KK.owns hI.j (fun g hg e => hI.d3 g e hg)) (fun g hg e => hI.d2.1 (e ▸ hg))
    · exact (hI.m.keep KK hI.d1.2).keep kS hI.b.2.2
    · exact hS4.mono (fun i _ e => e.elim (fun e => .inr e) (fun e => .inl e))
end Go.Proofs.YtdmfkepnopppaaaGreatDoor
