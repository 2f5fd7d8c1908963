import Derived.Test.YtchbhmolnoggfaaGreatDoorG06
namespace Go.Proofs.YtchbhmolnoggfaaGreatDoor
open Go.RowKit Go.Deep Go.ChangeShapes Go.WideShapes Go.ChangeAt
attribute [local go_sem] Oper.semAt_some run_store_nf run_store_f
def fls : Ins → List Int → Pc → List Pc → List Pc → Except Flt (Ins × List Pc)
  | u, [], _, [], acc => .ok (u, acc)
  | _, [], _, p :: _, _ => .error (104, p.ln, p.col)
  | _, _ :: _, pv, [], _ => .error (102, pv.ln, pv.col + (pv.t.size : Int))
  | u, s :: ss, _, p :: ps, acc => if s = 6 then (if nmB p.t = true then fls u ss p ps (acc ++ [p]) else .error (103, p.ln, p.col)) else match fil u s p.t with
    | none => .error (103, p.ln, p.col)
    | some u' => fls u' ss p ps acc
def insR (m : Nat) : List Pc → Except Flt (Ins × List Pc)
  | [] => .error (0, 0, 0)
  | p :: r => match nmd p.t with
    | none => .error (101, p.ln, p.col)
    | some q => if m = 64 then .error (106, p.ln, p.col) else fls q (slo q.code.toNat) p r []
def InsP (w : World) (base R mb : Nat) (cv jv : Value) (qs : List Ins) (n : Nat) (f : ByteArray → Option Nat) (js : List (Nat × Pc)) (RES : Except Flt (Ins × List Pc)) (e : Ending) (w' : World) : Prop := match RES with
  | .error fl => e = pan fl ∧ Keeps (fun k => base ≤ k) w w'
  | .ok (q, ps) => e = .returned (.tuple #[]) ∧ ∃ cv' jv', RX w' base R mb cv' jv' (qs ++ [q]) n f (js ++ ps.map (fun p => (qs.length, p))) ∧ Keeps (fun k => k = R ∨ cv.ownBlock = some k ∨ jv.ownBlock = some k) w w'
theorem behind_any (w : World) (t : ByteArray) (ln col : Int) (hw : IntKind.i64.wrap (col + (t.size : Int)) = col + (t.size : Int)) : Calls Tryz.prog 32 #[.agg #[.string t, .int .i64 ln, .int .i64 col]] w fun e w' => e = .returned (.agg #[.string ⟨#[]⟩, .int .i64 ln, .int .i64 (col + (t.size : Int))]) ∧ Keeps (fun _ => False) w w' := by
  obtain ⟨W2, hW2⟩ : ∃ W2, W2 = (w.alloc (.cells #[.string t, .int .i64 ln, .int .i64 col] 73)).alloc (.cells #[.string ⟨#[]⟩, .int .i64 0, .int .i64 0] 73) := ⟨_, rfl⟩
  have m1 : CL W2 w.heap.size [.string t, .int .i64 ln, .int .i64 col] := by rw [hW2]; exact made1 w [.string t, .int .i64 ln, .int .i64 col] 73 _ (by show 0 < 3; decide)
  have m2 : CL W2 (w.heap.size + 1) [.string ⟨#[]⟩, .int .i64 0, .int .i64 0] := by rw [hW2]; exact made2 w [.string ⟨#[]⟩, .int .i64 0, .int .i64 0] 73 _
  have k2 : Keeps (fun _ => False) w W2 := by rw [hW2]; exact ks2 w _ _
  have HW : Hid (_ = _) := hW2
  have y0 := m1.c 0 _ rfl
  have y1 := m1.c 1 _ rfl
  have y2 := m1.c 2 _ rfl
  have n12 : ¬ w.heap.size = w.heap.size + 1 := by omega
  have hA : ([.string ⟨#[]⟩, .int .i64 ln, .int .i64 (col + (t.size : Int))] : List Value).toArray.all (·.oneCell') = true := all_oneCell_toArray (by simp [Value.oneCell'])
  clear m1
  go_enter Tryz.func32, Tryz.ntmps32
  refine wp_seq_k (fun KK hKK => ?_)
  have hKH : Hid _ := hKK
  clear hKK
  go_wp2_with fail
  refine hKH.out _ _ ?_
  clear hKH KK
  rw [← HW.out]
  clear HW hW2
  go_wp2_with (refine wpList_store_cl rfl 73 _ _ rfl (w.heap.size + 1) 0 3 _ rfl rfl rfl m2 (by show 3 ≤ 3; decide) iPc hA ?_; intro w5 hc5 k5 hsz5; clear hsz5)
  have hc6 : CL w5 (w.heap.size + 1) (⟨⟨#[]⟩, ln, col + (t.size : Int)⟩ : Pc).cells := hc5
  have hr6 := run_pcAt (W := w5) (b := w.heap.size + 1) (o := 0) (p := ⟨⟨#[]⟩, ln, col + (t.size : Int)⟩) (fun j v e => by have := hc6.c j v e; rwa [Nat.zero_add])
  refine bodyPost_ret (v := .agg #[.string ⟨#[]⟩, .int .i64 ln, .int .i64 (col + (t.size : Int))]) (by rw [results_cell1 rfl]; simp [asAddr, hr6]; rfl) rfl ⟨rfl, ?_⟩
  exact k2.trans' k5 (fun _ _ e => e) (fun i hi e => by have e : i = w.heap.size + 1 := e; omega)
def insT3 (f : Func) : Code := match f.body with | some (.seq _ (.seq _ t)) => t | _ => .skip
def insT4 (f : Func) : Code := match f.body with | some (.seq _ (.seq _ (.seq _ (.seq _ t)))) => t | _ => .skip
set_option maxHeartbeats 1000000 in
set_option maxRecDepth 1000000 in
theorem ins_end {wr : World} {P : Ending → World → Prop} {base R mb ib n : Nat} {cv jv : Value} {qs : List Ins} {f : ByteArray → Option Nat} {js : List (Nat × Pc)} {u : Ins} {x1 x2 x3 x5 x6 x7 x8 x9 x10 x11 x12 x13 x14 x15 x16 x17 x18 x19 x20 x21 x22 x23 x24 x25 x26 x27 x28 x29 x30 x31 x32 x33 x34 x35 x36 x37 x38 x39 x40 x41 x42 x43 x44 x45 x46 x47 x48 x49 x50 x51 x52 x53 x54 x55 x56 x57 x58 x59 x60 x61 x62 x63 x64 x65 x66 x67 x68 x69 x70 x71 x72 x73 x74 x75 x76 x77 x78 : Value} (hI : RX wr base R mb cv jv qs n f js) (hU : CL wr ib u.cells) (hnI : cv.ownBlock ≠ some ib) (hibR : ib ≠ R) (hbw : base ≤ wr.heap.size) (hq : qs.length < 64)
    (hP : ∀ w' cv', RX w' base R mb cv' jv (qs ++ [u]) n f js → Keeps (fun k => k = R ∨ cv.ownBlock = some k) wr w' → P (.returned (.tuple #[])) w') :
    (insT4 Tryz.f21).wp Tryz.prog (bodyPost Tryz.prog Tryz.f21 P) { tmps := #[.pointer (some ⟨R, 0, none⟩), x1, x2, x3, .pointer (some ⟨ib, 0, none⟩), x5, x6, x7, x8, x9, x10, x11, x12, x13, x14, x15, x16, x17, x18, x19, x20, x21, x22, x23, x24, x25, x26, x27, x28, x29, x30, x31, x32, x33, x34, x35, x36, x37, x38, x39, x40, x41, x42, x43, x44, x45, x46, x47, x48, x49, x50, x51, x52, x53, x54, x55, x56, x57, x58, x59, x60, x61, x62, x63, x64, x65, x66, x67, x68, x69, x70, x71, x72, x73, x74, x75, x76, x77, x78], defers := [] } wr := by
  obtain ⟨ac, capc, rfl⟩ := slice_of_owns hI.o
  obtain ⟨cd, dst, oR, oN, xR, xN, yR, yN, op, rel, to⟩ := u
  have Kd : Keeps (fun _ => False) wr wr.drew := (Keeps.refl _ wr).drew
  obtain ⟨v', w', hr, ho, kk, hbl⟩ := append_i2 (Kd.owns hI.o (fun _ _ e => e)) (by show base ≤ wr.heap.size; omega) (by omega) ⟨cd, dst, oR, oN, xR, xN, yR, yN, op, rel, to⟩
  obtain ⟨a', cap', rfl⟩ := slice_of_owns ho
  have hr' : (Builtin.append_ #[22, 22] 22 #[.slice ac qs.length capc, .slice (some ⟨wr.heap.size, 0, none⟩) 1 1]).run Tryz.prog (wr.alloc (.cells #[.int .i64 cd, .int .i64 dst, .bool oR, .int .i64 oN, .bool xR, .int .i64 xN, .bool yR, .int .i64 yN, .int .i64 op, .int .i64 rel, .int .i64 to] 65)).drew = .ok (.slice a' (qs.length + 1) cap') w' := hr
  clear hr
  have KK : Keeps (fun k => Value.ownBlock (.slice ac qs.length capc) = some k) wr w' := (Kd.mono (fun _ _ e => e.elim)).trans kk
  have CR' := hI.c.keep (by show 0 < 3; decide) KK hI.d1.1
  have r0 := hI.c.c 0 _ rfl
  have HP : Hid (∀ w' cv', RX w' base R mb cv' jv (qs ++ [⟨cd, dst, oR, oN, xR, xN, yR, yN, op, rel, to⟩]) n f js → Keeps (fun k => k = R ∨ Value.ownBlock (.slice ac qs.length capc) = some k) wr w' → P (.returned (.tuple #[])) w') := hP
  clear hP
  dsimp only [insT4, Tryz.f21]
  refine wp_region_held_drew (S := fun w' => Keeps (fun i => Value.ownBlock (.slice ac qs.length capc) = some i ∨ i = R) wr w') (by kernel_rfl) (Keeps.refl _ wr).drew (fun hHeld => ?_)
  refine wpAnyH_take (i := 0) (v := ?_) rfl (by kernel_rfl) (by kernel_rfl) (by kernel_rfl) (fun _ _ _ h => h) (Or.inl ⟨by rfl, ?_⟩) (by assumption) ?_
  rotate_left
  · intro wx hSw;  go_simp <;> with_reducible rfl
  (try simp only [List.getElem_toArray]); (try simp only [List.getElem_cons_succ]); (try simp only [List.getElem_cons_zero]); (try simp only [Act.put]); (try simp only [List.setIfInBounds_toArray]); (repeat first | simp only [List.set_cons_succ] | simp only [List.set_cons_zero])
  refine wpAnyH_take (i := 1) (v := ?_) rfl (by kernel_rfl) (by kernel_rfl) (by kernel_rfl) (fun _ _ _ h => h) (Or.inl ⟨by rfl, ?_⟩) (by assumption) ?_
  rotate_left
  · intro wx hSw;  go_simp <;> with_reducible rfl
  (try simp only [List.getElem_toArray]); (try simp only [List.getElem_cons_succ]); (try simp only [List.getElem_cons_zero]); (try simp only [Act.put]); (try simp only [List.setIfInBounds_toArray]); (repeat first | simp only [List.set_cons_succ] | simp only [List.set_cons_zero])
  refine wpAnyH_take (i := 2) (v := ?_) rfl (by kernel_rfl) (by kernel_rfl) (by kernel_rfl) (fun _ _ _ h => h) (Or.inl ⟨by rfl, ?_⟩) (by assumption) ?_
  rotate_left
  · intro wx hSw;  go_simp <;> with_reducible rfl
  (try simp only [List.getElem_toArray]); (try simp only [List.getElem_cons_succ]); (try simp only [List.getElem_cons_zero]); (try simp only [Act.put]); (try simp only [List.setIfInBounds_toArray]); (repeat first | simp only [List.set_cons_succ] | simp only [List.set_cons_zero])
  refine wpAnyH_take (i := 3) (v := ?_) rfl (by kernel_rfl) (by kernel_rfl) (by kernel_rfl) (fun _ _ _ h => h) (Or.inl ⟨by rfl, ?_⟩) (by assumption) ?_
  rotate_left
  · intro wx hSw;  go_simp <;> with_reducible rfl
  (try simp only [List.getElem_toArray]); (try simp only [List.getElem_cons_succ]); (try simp only [List.getElem_cons_zero]); (try simp only [Act.put]); (try simp only [List.setIfInBounds_toArray]); (repeat first | simp only [List.set_cons_succ] | simp only [List.set_cons_zero])
  refine wpAnyH_take (i := 5) (v := .agg #[.int .i64 cd, .int .i64 dst, .bool oR, .int .i64 oN, .bool xR, .int .i64 xN, .bool yR, .int .i64 yN, .int .i64 op, .int .i64 rel, .int .i64 to]) rfl (by kernel_rfl) (by kernel_rfl) (by kernel_rfl) (fun _ _ _ h => h) (Or.inl ⟨by rfl, ?_⟩) (by assumption) ?_
  · intro wx hSw
    exact takes_load' 65 _ rfl ⟨ib, 0, none⟩ rfl (run_ins (hU.keep (by show 0 < 11; decide) hSw (fun e => e.elim hnI hibR)))
  (try simp only [List.getElem_toArray]); (try simp only [List.getElem_cons_succ]); (try simp only [List.getElem_cons_zero]); (try simp only [Act.put]); (try simp only [List.setIfInBounds_toArray]); (repeat first | simp only [List.set_cons_succ] | simp only [List.set_cons_zero])
  refine wpAnyH_two' 4 6 (by kernel_rfl) rfl rfl (by kernel_rfl) (by kernel_rfl) ?_ ?_
  · go_simp
    (try simp only [List.getElem_toArray]); (try simp only [List.getElem_cons_succ]); (try simp only [List.getElem_cons_zero]); (try simp only [Act.put]); (try simp only [List.setIfInBounds_toArray]); (repeat first | simp only [List.set_cons_succ] | simp only [List.set_cons_zero])
    refine wpAnyH_one 6 (by kernel_rfl) rfl rfl ?_
    go_simp
    refine ⟨hHeld.alloc _, fun hS2' => ?_⟩
    (try simp only [List.getElem_toArray]); (try simp only [List.getElem_cons_succ]); (try simp only [List.getElem_cons_zero]); (try simp only [Act.put]); (try simp only [List.setIfInBounds_toArray]); (repeat first | simp only [List.set_cons_succ] | simp only [List.set_cons_zero])
    refine wpAnyH_one 7 (by kernel_rfl) rfl rfl ?_
    refine wp_append_run _ _ 22 rfl _ _ _ _ rfl rfl hr' ?_
    refine ⟨KK.mono (fun _ _ e => .inl e), fun hS3 => ?_⟩
    (try simp only [List.getElem_toArray]); (try simp only [List.getElem_cons_succ]); (try simp only [List.getElem_cons_zero]); (try simp only [Act.put]); (try simp only [List.setIfInBounds_toArray]); (repeat first | simp only [List.set_cons_succ] | simp only [List.set_cons_zero])
    have z0 := CR'.z 0 (by show 0 < 3; decide)
    have x0 := CR'.c 0 _ rfl
    refine wpAnyH_take (i := 8) (v := ?_) rfl (by kernel_rfl) (by kernel_rfl) (by kernel_rfl) (fun _ _ _ h => h) (Or.inl ⟨by rfl, ?_⟩) (by assumption) ?_
    rotate_left
    · intro wx hSw;  go_simp <;> with_reducible rfl
    (try simp only [List.getElem_toArray]); (try simp only [List.getElem_cons_succ]); (try simp only [List.getElem_cons_zero]); (try simp only [Act.put]); (try simp only [List.setIfInBounds_toArray]); (repeat first | simp only [List.set_cons_succ] | simp only [List.set_cons_zero])
    refine wpAnyH_take (i := 9) (v := ?_) rfl (by kernel_rfl) (by kernel_rfl) (by kernel_rfl) (fun _ _ _ h => h) (Or.inl ⟨by rfl, ?_⟩) (by assumption) ?_
    rotate_left
    · intro wx hSw;  go_simp <;> with_reducible rfl
    (try simp only [List.getElem_toArray]); (try simp only [List.getElem_cons_succ]); (try simp only [List.getElem_cons_zero]); (try simp only [Act.put]); (try simp only [List.setIfInBounds_toArray]); (repeat first | simp only [List.set_cons_succ] | simp only [List.set_cons_zero])
    refine wpAnyH_one 10 (by kernel_rfl) rfl rfl ?_
    go_simp
    refine ⟨hS3.setCell (fun _ => .inr rfl) _, fun hS4 => ?_⟩
    (try simp only [List.getElem_toArray]); (try simp only [List.getElem_cons_succ]); (try simp only [List.getElem_cons_zero]); (try simp only [Act.put]); (try simp only [List.setIfInBounds_toArray]); (repeat first | simp only [List.set_cons_succ] | simp only [List.set_cons_zero])
    refine wpAnyH_done (by kernel_rfl) ?_ _
    go_wp2_with fail
    go_end0
    have hRn : Value.ownBlock (.slice a' (qs.length + 1) cap') ≠ some R := fun e => by
      rcases hbl with h | h
      · exact hI.d1.1 (h.symm.trans e)
      · have h2 : some (wr.heap.size + 1) = some R := h.symm.trans e
        have h3 := hI.lt
        injection h2 with h2
        omega
    have hMn : Value.ownBlock (.slice a' (qs.length + 1) cap') ≠ some mb := fun e => by
      rcases hbl with h | h
      · exact hI.d1.2 (h.symm.trans e)
      · have h2 : some (wr.heap.size + 1) = some mb := h.symm.trans e
        have h3 := hI.m.lt
        injection h2 with h2
        omega
    have hJn : ∀ g, Value.ownBlock (.slice a' (qs.length + 1) cap') = some g → jv.ownBlock ≠ some g := fun g hg e => by
      rcases hbl with h | h
      · exact hI.d3 g (h.symm.trans hg) e
      · have h2 : some (wr.heap.size + 1) = some g := h.symm.trans hg
        have h3 := owns_lt' hI.j g e
        injection h2 with h2
        omega
    have kS : Keeps (fun k => k = R) w' (w'.setCell ⟨R, 0, none⟩ (.slice a' (qs.length + 1) cap')) := (Keeps.refl _ w').setA 0 _
    refine HP.out _ (.slice a' (qs.length + 1) cap') ⟨CR'.set (o := 0) (by show 0 < 3; decide) _, ?_, ?_, ?_, hI.b, ⟨hRn, hMn⟩, hI.d2, hJn⟩ ?_
    · rw [List.length_append]
      exact kS.owns ho (fun g hg e => hRn (e ▸ hg))
    · exact kS.owns (KK.owns hI.j (fun g hg e => hI.d3 g e hg)) (fun g hg e => hI.d2.1 (e ▸ hg))
    · exact (hI.m.keep KK hI.d1.2).keep kS hI.b.2.2
    · exact hS4.mono (fun i _ e => e.elim (fun e => .inr e) (fun e => .inl e))
  · go_simp
    refine ⟨hHeld.alloc _, fun hS1 => ?_⟩
    (try simp only [List.getElem_toArray]); (try simp only [List.getElem_cons_succ]); (try simp only [List.getElem_cons_zero]); (try simp only [Act.put]); (try simp only [List.setIfInBounds_toArray]); (repeat first | simp only [List.set_cons_succ] | simp only [List.set_cons_zero])
    have r0a := ((Keeps.refl (fun _ => False) wr).alloc (.cells #[.int .i64 cd, .int .i64 dst, .bool oR, .int .i64 oN, .bool xR, .int .i64 xN, .bool yR, .int .i64 yN, .int .i64 op, .int .i64 rel, .int .i64 to] 65)).cell r0 (fun e => e)
    refine wpAnyH_one 4 (by kernel_rfl) rfl rfl ?_
    go_simp
    (try simp only [List.getElem_toArray]); (try simp only [List.getElem_cons_succ]); (try simp only [List.getElem_cons_zero]); (try simp only [Act.put]); (try simp only [List.setIfInBounds_toArray]); (repeat first | simp only [List.set_cons_succ] | simp only [List.set_cons_zero])
    refine wpAnyH_one 7 (by kernel_rfl) rfl rfl ?_
    refine wp_append_run _ _ 22 rfl _ _ _ _ rfl rfl hr' ?_
    refine ⟨KK.mono (fun _ _ e => .inl e), fun hS3 => ?_⟩
    (try simp only [List.getElem_toArray]); (try simp only [List.getElem_cons_succ]); (try simp only [List.getElem_cons_zero]); (try simp only [Act.put]); (try simp only [List.setIfInBounds_toArray]); (repeat first | simp only [List.set_cons_succ] | simp only [List.set_cons_zero])
    have z0 := CR'.z 0 (by show 0 < 3; decide)
    have x0 := CR'.c 0 _ rfl
    refine wpAnyH_take (i := 8) (v := ?_) rfl (by kernel_rfl) (by kernel_rfl) (by kernel_rfl) (fun _ _ _ h => h) (Or.inl ⟨by rfl, ?_⟩) (by assumption) ?_
    rotate_left
    · intro wx hSw;  go_simp <;> with_reducible rfl
    (try simp only [List.getElem_toArray]); (try simp only [List.getElem_cons_succ]); (try simp only [List.getElem_cons_zero]); (try simp only [Act.put]); (try simp only [List.setIfInBounds_toArray]); (repeat first | simp only [List.set_cons_succ] | simp only [List.set_cons_zero])
    refine wpAnyH_take (i := 9) (v := ?_) rfl (by kernel_rfl) (by kernel_rfl) (by kernel_rfl) (fun _ _ _ h => h) (Or.inl ⟨by rfl, ?_⟩) (by assumption) ?_
    rotate_left
    · intro wx hSw;  go_simp <;> with_reducible rfl
    (try simp only [List.getElem_toArray]); (try simp only [List.getElem_cons_succ]); (try simp only [List.getElem_cons_zero]); (try simp only [Act.put]); (try simp only [List.setIfInBounds_toArray]); (repeat first | simp only [List.set_cons_succ] | simp only [List.set_cons_zero])
    refine wpAnyH_one 10 (by kernel_rfl) rfl rfl ?_
    go_simp
    refine ⟨hS3.setCell (fun _ => .inr rfl) _, fun hS4 => ?_⟩
    (try simp only [List.getElem_toArray]); (try simp only [List.getElem_cons_succ]); (try simp only [List.getElem_cons_zero]); (try simp only [Act.put]); (try simp only [List.setIfInBounds_toArray]); (repeat first | simp only [List.set_cons_succ] | simp only [List.set_cons_zero])
    refine wpAnyH_done (by kernel_rfl) ?_ _
    go_wp2_with fail
    go_end0
    have hRn : Value.ownBlock (.slice a' (qs.length + 1) cap') ≠ some R := fun e => by
      rcases hbl with h | h
      · exact hI.d1.1 (h.symm.trans e)
      · have h2 : some (wr.heap.size + 1) = some R := h.symm.trans e
        have h3 := hI.lt
        injection h2 with h2
        omega
    have hMn : Value.ownBlock (.slice a' (qs.length + 1) cap') ≠ some mb := fun e => by
      rcases hbl with h | h
      · exact hI.d1.2 (h.symm.trans e)
      · have h2 : some (wr.heap.size + 1) = some mb := h.symm.trans e
        have h3 := hI.m.lt
        injection h2 with h2
        omega
    have hJn : ∀ g, Value.ownBlock (.slice a' (qs.length + 1) cap') = some g → jv.ownBlock ≠ some g := fun g hg e => by
      rcases hbl with h | h
      · exact hI.d3 g (h.symm.trans hg) e
      · have h2 : some (wr.heap.size + 1) = some g := h.symm.trans hg
        have h3 := owns_lt' hI.j g e
        injection h2 with h2
        omega
    have kS : Keeps (fun k => k = R) w' (w'.setCell ⟨R, 0, none⟩ (.slice a' (qs.length + 1) cap')) := (Keeps.refl _ w').setA 0 _
    refine HP.out _ (.slice a' (qs.length + 1) cap') ⟨CR'.set (o := 0) (by show 0 < 3; decide) _, ?_, ?_, ?_, hI.b, ⟨hRn, hMn⟩, hI.d2, hJn⟩ ?_
    · rw [List.length_append]
      exact kS.owns ho (fun g hg e => hRn (e ▸ hg))
    · exact kS.owns (KK.owns hI.j (fun g hg e => hI.d3 g e hg)) (fun g hg e => hI.d2.1 (e ▸ hg))
    · exact (hI.m.keep KK hI.d1.2).keep kS hI.b.2.2
    · exact hS4.mono (fun i _ e => e.elim (fun e => .inr e) (fun e => .inl e))
end Go.Proofs.YtchbhmolnoggfaaGreatDoor

namespace Go.Proofs.YtchbhmolnoggfaaGreatDoor
open Go.RowKit Go.Deep Go.ChangeShapes Go.WideShapes Go.ChangeAt
attribute [local go_sem] Oper.semAt_some run_store_nf run_store_f
set_option maxHeartbeats 2000000 in
set_option maxRecDepth 1000000 in
theorem ins_mid {w0 w5 : World} {P : Ending → World → Prop} {R mb ib n b off cap c : Nat} {cv jv : Value} {qs : List Ins} {f : ByteArray → Option Nat} {js : List (Nat × Pc)} {q0 : Ins} {p0 : Pc} {r : List Pc} {RES : Except Flt (Ins × List Pc)} {x2 x3 x5 x6 x7 x8 x9 x10 x11 x12 x13 x14 x15 x16 x17 x18 x19 x20 x21 x22 x23 x24 x25 x26 x27 x28 x29 x30 x31 x32 x33 x34 x35 x36 x37 x38 x39 x40 x41 x42 x43 x44 x45 x46 x47 x48 x49 x50 x51 x52 x53 x54 x55 x56 x57 x58 x59 x60 x61 x62 x63 x64 x65 x66 x67 x68 x69 x70 x71 x72 x73 x74 x75 x76 x77 x78 : Value}
    (hT : PT w0) (k05 : Keeps (fun _ => False) w0 w5) (hI : RX w5 w0.heap.size R mb cv jv qs n f js) (hU : CL w5 ib q0.cells) (hcd : q0.code = (c : Int)) (hc1 : 1 ≤ c) (hc2 : c ≤ 10) (hw : PCL w5 (some ⟨b, off, none⟩) (p0 :: r)) (hsz : ∀ p ∈ (p0 :: r), p.t.size ≤ 4096 ∧ 0 ≤ p.col ∧ p.col ≤ 100000)
    (hF : fls q0 (slo c) p0 r [] = RES) (hibR : ib ≠ R) (hib0 : w0.heap.size ≤ ib) (hibl : ib < w5.heap.size) (hcI : cv.ownBlock ≠ some ib) (hjI : jv.ownBlock ≠ some ib) (hbR : b ≠ R) (hbj : jv.ownBlock ≠ some b) (hbi : b ≠ ib) (hq : qs.length < 64) (hjl : js.length ≤ 4000000)
    (hPe : ∀ fl w', RES = .error fl → Keeps (fun k => w0.heap.size ≤ k) w5 w' → P (pan fl) w')
    (hPo : ∀ q ps w' cv' jv', RES = .ok (q, ps) → RX w' w0.heap.size R mb cv' jv' (qs ++ [q]) n f (js ++ ps.map (fun p => (qs.length, p))) → Keeps (fun k => k = R ∨ cv.ownBlock = some k ∨ jv.ownBlock = some k ∨ k = ib) w5 w' → P (.returned (.tuple #[])) w') :
    (insT3 Tryz.f21).wp Tryz.prog (bodyPost Tryz.prog Tryz.f21 P) { tmps := #[.pointer (some ⟨R, 0, none⟩), .slice (some ⟨b, off, none⟩) (r.length + 1) cap, x2, x3, .pointer (some ⟨ib, 0, none⟩), x5, x6, x7, x8, x9, x10, x11, x12, x13, x14, x15, x16, x17, x18, x19, x20, x21, x22, x23, x24, x25, x26, x27, x28, x29, x30, x31, x32, x33, x34, x35, x36, x37, x38, x39, x40, x41, x42, x43, x44, x45, x46, x47, x48, x49, x50, x51, x52, x53, x54, x55, x56, x57, x58, x59, x60, x61, x62, x63, x64, x65, x66, x67, x68, x69, x70, x71, x72, x73, x74, x75, x76, x77, x78], defers := [] } w5 := by
  have HPE : Hid (∀ fl w', RES = .error fl → Keeps (fun k => w0.heap.size ≤ k) w5 w' → P (pan fl) w') := hPe
  have HPO : Hid (∀ q ps w' cv' jv', RES = .ok (q, ps) → RX w' w0.heap.size R mb cv' jv' (qs ++ [q]) n f (js ++ ps.map (fun p => (qs.length, p))) → Keeps (fun k => k = R ∨ cv.ownBlock = some k ∨ jv.ownBlock = some k ∨ k = ib) w5 w' → P (.returned (.tuple #[])) w') := hPo
  clear hPe hPo
  obtain ⟨sv, hsv, asl, capsl, rfl, hsl⟩ := hT.lt.sh c hc1 hc2
  obtain ⟨hs4, hs6⟩ := slo_le c
  have ic := hU.c 0 _ rfl
  rw [hcd] at ic
  have s5 := k05.cell hsv (fun e => e)
  have HF : Hid (fls q0 (slo c) p0 r [] = RES) := hF
  clear hF
  have hjb : ∀ g, jv.ownBlock = some g → w0.heap.size ≤ g := fun g hg => owns_base hI.j g hg
  dsimp only [insT3, Tryz.f21]
  refine wp_seq_k (fun KK hKK => ?_)
  have hKH : Hid _ := hKK
  clear hKK
  go_wp2_with fail
  clear s5 ic
  go_loopw [28] (fun iv Wr => ∃ (k : Nat) (u : Ins) (jv' : Value) (ps : List Pc), iv = .int .i64 (k : Int) ∧ k ≤ (slo c).length ∧ k ≤ r.length ∧ u.code = (c : Int) ∧ Hid (fls u ((slo c).drop k) ((p0 :: r).getD k p0) (r.drop k) ps = RES) ∧ RX Wr w0.heap.size R mb cv jv' qs n f (js ++ ps.map (fun p => (qs.length, p))) ∧ ps.length ≤ k ∧ CL Wr ib u.cells ∧ Keeps (fun k => k = R ∨ jv.ownBlock = some k ∨ k = ib) w5 Wr ∧ Hid (jv'.ownBlock = jv.ownBlock ∨ ∀ g, jv'.ownBlock = some g → w5.heap.size ≤ g)) (fun iv _ => (slo c).length - (intOf iv).toNat)
  case atStart => exact ⟨0, q0, jv, [], rfl, Nat.zero_le _, Nat.zero_le _, hcd, HF, by simpa using hI, Nat.le_refl _, hU, Keeps.refl _ _, Or.inl rfl⟩
  case round =>
    clear HF hcd
    obtain ⟨k, u, jv', ps, rfl, hk, hkr, hcd, HF, hI', hpl, hU', kr, HJ⟩ := hrel
    have Kr : Keeps (fun _ => False) w0 wr := k05.trans' kr (fun _ _ e => e) (fun i hi e => by
      have := hI.b.1
      rcases e with e | e | e
      · omega
      · have := hjb i e; omega
      · omega)
    have KB : Keeps (fun k => w0.heap.size ≤ k) w5 wr := kr.mono (fun i hi e => by
      have := hI.b.1
      rcases e with e | e | e
      · omega
      · exact hjb i e
      · omega)
    have hwr : PCL wr (some ⟨b, off, none⟩) (p0 :: r) := fun i p hi => by
      obtain ⟨b', off', e, hc⟩ := hw i p hi
      injection e with e; injection e with e1 e2 _; subst e1 e2
      exact ⟨_, _, rfl, fun j v hv => kr.cell (hc j v hv) (fun e => by rcases e with e | e | e; exact hbR e; exact hbj e; exact hbi e)⟩
    have hkn : k ≤ 10 := by omega
    by_cases hlt : k < (slo c).length
    · have hltI : decide ((k : Int) < ((slo c).length : Int)) = true := by simp; omega
      have hltJ : (k : Int) < ((slo c).length : Int) := by omega
      have hk0 : (0 : Int) ≤ (k : Int) := by omega
      have hk1 : (0 : Int) ≤ (k : Int) + 1 := by omega
      have hkw : (k : Int) < (r.length : Int) + 1 := by omega
      have hw1 : IntKind.i64.wrap ((k : Int) + 1) = (k : Int) + 1 := by rw [IntKind.wrap_i64]; omega
      obtain ⟨s, hs⟩ : ∃ s, (slo c)[k]? = some s := ⟨_, List.getElem?_eq_getElem hlt⟩
      have hs16 := hs6 s (List.mem_of_getElem? hs)
      obtain ⟨sb, so, ea, hsc⟩ := hsl k s hs
      cases ea
      have hsc' := Kr.cell hsc (fun e => e)
      have e1 : (slo c).drop k = s :: (slo c).drop (k + 1) := by
        obtain ⟨hk, e⟩ := List.getElem?_eq_some_iff.1 hs
        rw [List.drop_eq_getElem_cons hk, e]
      rw [e1] at HF
      obtain ⟨pv, hpv⟩ : ∃ p, (p0 :: r)[k]? = some p := ⟨_, List.getElem?_eq_getElem (by simp; omega)⟩
      have e2 : (p0 :: r).getD k p0 = pv := by rw [List.getD_eq_getElem?_getD, hpv]; rfl
      rw [e2] at HF
      have hpvm := hsz pv (List.mem_of_getElem? hpv)
      clear e1 e2 hsc hs
      by_cases hnw : k = r.length
      · have hne : (((k : Int) + 1) == ((r.length : Int) + 1)) = true := by simp; omega
        have e3 : r.drop k = [] := List.drop_eq_nil_of_le (by omega)
        rw [e3] at HF
        have hE : RES = .error (102, pv.ln, pv.col + (pv.t.size : Int)) := HF.out.symm
        obtain ⟨pt, pln, pcol⟩ := pv
        obtain ⟨b', off', e', hpc⟩ := hwr k _ hpv
        injection e' with e'
        injection e' with e1 e2 _
        subst e1 e2
        have hRk : (loadVar 73 ⟨b, off + k * 3, none⟩).run Tryz.prog wr = .ok (.agg #[.string pt, .int .i64 pln, .int .i64 pcol]) wr := run_pcAt (W := wr) (b := b) (o := off + k * 3) (p := ⟨pt, pln, pcol⟩) hpc
        have hBh := behind_any wr pt pln pcol (by rw [IntKind.wrap_i64]; simp only at hpvm; omega)
        have hLv := fun W => leave_any W ⟨#[]⟩ pln (pcol + (pt.size : Int)) 102
        clear hpc hwr hw hsl HF e3 hpv hI' hU' HJ
        have HE : Hid (RES = _) := hE
        clear hE hnw
        go_wp2_with (first | (refine wpList_load_run rfl 73 _ rfl ⟨b, off + k * 3, none⟩ rfl _ hRk ?_; clear hRk) | (go_at_call 32; refine hBh.mono ?_; clear hBh; rintro e w6 ⟨rfl, k6⟩) | (go_at_call 23; refine (hLv _).mono ?_; clear hLv; rintro e w7 ⟨rfl, k7⟩))
        exact ⟨rfl, HPE.out _ _ HE.out (KB.trans ((k6.trans k7).mono (fun _ _ e => e.elim)))⟩
      · have hne : (((k : Int) + 1) == ((r.length : Int) + 1)) = false := by simp; omega
        have hkr1 : (k : Int) + 1 < (r.length : Int) + 1 := by omega
        obtain ⟨p, hp⟩ : ∃ p, r[k]? = some p := ⟨_, List.getElem?_eq_getElem (by omega)⟩
        have e3 : r.drop k = p :: r.drop (k + 1) := by
          obtain ⟨hk, e⟩ := List.getElem?_eq_some_iff.1 hp
          rw [List.drop_eq_getElem_cons hk, e]
        rw [e3] at HF
        have e4 : (p0 :: r).getD (k + 1) p0 = p := by rw [List.getD_eq_getElem?_getD, List.getElem?_cons_succ, hp]; rfl
        have hpm := hsz p (List.mem_cons_of_mem _ (List.mem_of_getElem? hp))
        obtain ⟨b', off', e', hpc⟩ := hwr (k + 1) p (by rw [List.getElem?_cons_succ]; exact hp)
        injection e' with e'
        injection e' with e1 e2 _
        subst e1 e2
        obtain ⟨pt, pln, pcol⟩ := p
        have hRk : (loadVar 73 ⟨b, off + (k + 1) * 3, none⟩).run Tryz.prog wr = .ok (.agg #[.string pt, .int .i64 pln, .int .i64 pcol]) wr := run_pcAt (W := wr) (b := b) (o := off + (k + 1) * 3) (p := ⟨pt, pln, pcol⟩) hpc
        have hbw : w0.heap.size ≤ wr.heap.size := Kr.size
        have hls := kr.size
        clear hpc hwr hw hsl e3 hpv hpvm hp
        simp only at hpm
        by_cases h6 : s = 6
        · subst h6
          have HF2 : (if (6 : Int) = 6 then (if nmB pt = true then fls u ((slo c).drop (k + 1)) ⟨pt, pln, pcol⟩ (r.drop (k + 1)) (ps ++ [⟨pt, pln, pcol⟩]) else .error (103, pln, pcol)) else match fil u 6 pt with | none => .error (103, pln, pcol) | some u' => fls u' ((slo c).drop (k + 1)) ⟨pt, pln, pcol⟩ (r.drop (k + 1)) ps) = RES := HF.out
          rw [if_pos rfl] at HF2
          by_cases hnm : nmB pt = true
          · rw [if_pos hnm] at HF2
            have HF3 : Hid (fls u ((slo c).drop (k + 1)) ((p0 :: r).getD (k + 1) p0) (r.drop (k + 1)) (ps ++ [⟨pt, pln, pcol⟩]) = RES) := by rw [e4]; exact HF2
            have hfc := fill_6 (ib := ib) pt pln pcol hpm.1 hnm hI' hbw (by simp; omega)
            have hjI2 : jv'.ownBlock ≠ some ib := fun e => by
              rcases HJ.out with h | h
              · exact hjI (h.symm.trans e)
              · have := h ib e; omega
            clear HF HF2 hI' hnm e4
            go_wp2_with (refine wpList_load_run rfl 73 _ rfl ⟨b, off + (k + 1) * 3, none⟩ rfl _ hRk ?_; clear hRk)
            refine hfc.mono ?_
            clear hfc
            rintro e w6 ⟨rfl, jv6, hI6, hb6, k6⟩
            have hU6 := hU'.keep (by show 0 < 11; decide) k6 (fun e => e.elim hibR hjI2)
            have K6 : Keeps (fun k => k = R ∨ jv.ownBlock = some k ∨ k = ib) w5 w6 := kr.trans' k6 (fun _ _ e => e) (fun i hi e => by
              rcases e with e | e
              · exact .inl e
              · rcases HJ.out with h | h
                · exact .inr (.inl (h.symm.trans e))
                · have := h i e; omega)
            have HJ6 : Hid (jv6.ownBlock = jv.ownBlock ∨ ∀ g, jv6.ownBlock = some g → w5.heap.size ≤ g) := by
              rcases hb6 with h | h
              · rcases HJ.out with h2 | h2
                · exact .inl (h.trans h2)
                · exact .inr (fun g hg => h2 g (h.symm.trans hg))
              · exact .inr (fun g hg => by have := h g hg; omega)
            clear hb6 k6 hU' kr HJ
            go_wp2_with fail
            go_roundw
            case rel => exact ⟨k + 1, u, jv6, ps ++ [⟨pt, pln, pcol⟩], by go_num, by omega, by omega, hcd, HF3, by rw [List.map_append, ← List.append_assoc]; exact hI6, by simp; omega, hU6, K6, HJ6⟩
            case measure => simp [intOf]; omega
          · rw [if_neg hnm] at HF2
            have HE : Hid (RES = .error (103, pln, pcol)) := HF2.symm
            have hfc := filn_6 (w := wr) (r := .pointer (some ⟨R, 0, none⟩)) (ib := ib) pt pln pcol hpm.1 (by simpa using hnm)
            clear HF HF2 hI' hnm e4 hU' HJ
            go_wp2_with (refine wpList_load_run rfl 73 _ rfl ⟨b, off + (k + 1) * 3, none⟩ rfl _ hRk ?_; clear hRk)
            refine hfc.mono ?_
            rintro e w6 ⟨rfl, k6⟩
            exact ⟨rfl, HPE.out _ _ HE.out (KB.trans (k6.mono (fun _ _ e => e.elim)))⟩
        · have HF2 : (if s = 6 then (if nmB pt = true then fls u ((slo c).drop (k + 1)) ⟨pt, pln, pcol⟩ (r.drop (k + 1)) (ps ++ [⟨pt, pln, pcol⟩]) else .error (103, pln, pcol)) else match fil u s pt with | none => .error (103, pln, pcol) | some u' => fls u' ((slo c).drop (k + 1)) ⟨pt, pln, pcol⟩ (r.drop (k + 1)) ps) = RES := HF.out
          rw [if_neg h6] at HF2
          cases hfi : fil u s pt with
          | none =>
            rw [hfi] at HF2
            have HE : Hid (RES = .error (103, pln, pcol)) := HF2.symm
            have hfc := filn_any (w := wr) (r := .pointer (some ⟨R, 0, none⟩)) (ib := ib) (u := u) (s := s) (by omega) pt pln pcol hpm.1 (hT.keep Kr) hfi
            clear HF HF2 hI' hfi e4 hU' HJ
            go_wp2_with (refine wpList_load_run rfl 73 _ rfl ⟨b, off + (k + 1) * 3, none⟩ rfl _ hRk ?_; clear hRk)
            refine hfc.mono ?_
            rintro e w6 ⟨rfl, k6⟩
            exact ⟨rfl, HPE.out _ _ HE.out (KB.trans (k6.mono (fun _ _ e => e.elim)))⟩
          | some u' =>
            rw [hfi] at HF2
            have HF3 : Hid (fls u' ((slo c).drop (k + 1)) ((p0 :: r).getD (k + 1) p0) (r.drop (k + 1)) ps = RES) := by rw [e4]; exact HF2
            have hfc := fill_ok (w := wr) (r := .pointer (some ⟨R, 0, none⟩)) pt pln pcol hpm.1 (hT.keep Kr) hU' hfi
            have hcd' := (fil_code hfi).trans hcd
            have hjI2 : jv'.ownBlock ≠ some ib := fun e => by
              rcases HJ.out with h | h
              · exact hjI (h.symm.trans e)
              · have := h ib e; omega
            have hmI : mb ≠ ib := fun e => by
              obtain ⟨es, cc, hm⟩ := hI.m.isMap
              have hcI := hU.c 0 _ rfl
              rw [← e] at hcI
              unfold World.cell? at hcI
              rw [hm] at hcI
              cases hcI
            clear HF HF2 hfi e4
            go_wp2_with (refine wpList_load_run rfl 73 _ rfl ⟨b, off + (k + 1) * 3, none⟩ rfl _ hRk ?_; clear hRk)
            refine hfc.mono ?_
            clear hfc
            rintro e w6 ⟨rfl, hU6, k6⟩
            have hI6 : RX w6 w0.heap.size R mb cv jv' qs n f (js ++ ps.map (fun p => (qs.length, p))) := ⟨hI'.c.keep (by show 0 < 3; decide) k6 (fun e => hibR e.symm), k6.owns hI'.o (fun g hg e => hcI (e ▸ hg)), k6.owns hI'.j (fun g hg e => hjI2 (e ▸ hg)), hI'.m.keep k6 hmI, hI'.b, hI'.d1, hI'.d2, hI'.d3⟩
            have K6 : Keeps (fun k => k = R ∨ jv.ownBlock = some k ∨ k = ib) w5 w6 := kr.trans' k6 (fun _ _ e => e) (fun i hi e => .inr (.inr e))
            clear k6 hU' kr hI'
            go_wp2_with fail
            go_roundw
            case rel => exact ⟨k + 1, u', jv', ps, by go_num, by omega, by omega, hcd', HF3, hI6, by omega, hU6, K6, HJ⟩
            case measure => simp [intOf]; omega
    · obtain rfl : k = (slo c).length := by omega
      have hltI : decide (((slo c).length : Int) < ((slo c).length : Int)) = false := by simp
      rw [List.drop_eq_nil_of_le (Nat.le_refl _)] at HF
      have ic := hU'.c 0 _ rfl
      rw [hcd] at ic
      have s5 := Kr.cell hsv (fun e => e)
      have hw1 : IntKind.i64.wrap (1 + ((slo c).length : Int)) = 1 + ((slo c).length : Int) := by rw [IntKind.wrap_i64]; omega
      go_wp2_with fail
      refine hKH.out _ _ ?_
      refine wp_seq_k (fun K2 hK2 => ?_)
      have hKH2 : Hid _ := hK2
      clear hK2
      by_cases hex : (slo c).length < r.length
      · have hne : decide (1 + ((slo c).length : Int) < (r.length : Int) + 1) = true := by simp; omega
        have hk0 : (0 : Int) ≤ 1 + ((slo c).length : Int) := by omega
        have hk1 : 1 + ((slo c).length : Int) < (r.length : Int) + 1 := by omega
        obtain ⟨p, hp⟩ : ∃ p, r[(slo c).length]? = some p := ⟨_, List.getElem?_eq_getElem hex⟩
        have e3 : r.drop (slo c).length = p :: r.drop ((slo c).length + 1) := by
          obtain ⟨hk, e⟩ := List.getElem?_eq_some_iff.1 hp
          rw [List.drop_eq_getElem_cons hk, e]
        rw [e3] at HF
        obtain ⟨pt, pln, pcol⟩ := p
        have HE : Hid (RES = .error (104, pln, pcol)) := HF.out.symm
        obtain ⟨b', off', e', hpc⟩ := hwr ((slo c).length + 1) _ (by rw [List.getElem?_cons_succ]; exact hp)
        injection e' with e'
        injection e' with e1 e2 _
        subst e1 e2
        have hRk : (loadVar 73 ⟨b, off + ((slo c).length + 1) * 3, none⟩).run Tryz.prog wr = .ok (.agg #[.string pt, .int .i64 pln, .int .i64 pcol]) wr := run_pcAt (W := wr) (b := b) (o := off + ((slo c).length + 1) * 3) (p := ⟨pt, pln, pcol⟩) hpc
        have hLv := fun W => leave_any W pt pln pcol 104
        have ew : 1 + ((slo c).length : Int) = (((slo c).length + 1 : Nat) : Int) := by omega
        rw [ew] at hw1 hne hk0 hk1
        clear HF e3 hpc hp hwr hw hsl hI' hU' HJ
        go_wp2_with (first | (refine wpList_load_run rfl 73 _ rfl ⟨b, off + ((slo c).length + 1) * 3, none⟩ rfl _ hRk ?_; clear hRk) | (go_at_call 23; refine (hLv _).mono ?_; clear hLv; rintro e w7 ⟨rfl, k7⟩))
        exact ⟨rfl, HPE.out _ _ HE.out (KB.trans (k7.mono (fun _ _ e => e.elim)))⟩
      · have hne : decide (1 + ((slo c).length : Int) < (r.length : Int) + 1) = false := by simp; omega
        have e3 : r.drop (slo c).length = [] := List.drop_eq_nil_of_le (by omega)
        rw [e3] at HF
        have HE : Hid (RES = .ok (u, ps)) := HF.out.symm
        go_wp2_with fail
        refine hKH2.out _ _ ?_
        refine ins_end hI' hU' hcI hibR Kr.size hq (fun w' cv' hX kx => HPO.out u ps w' cv' jv' HE.out hX (kr.trans' kx (fun i _ e => ?_) (fun i hi e => ?_)))
        · rcases e with e | e | e
          · exact .inl e
          · exact .inr (.inr (.inl e))
          · exact .inr (.inr (.inr e))
        · rcases e with e | e
          · exact .inl e
          · exact .inr (.inl e)
end Go.Proofs.YtchbhmolnoggfaaGreatDoor

namespace Go.Proofs.YtchbhmolnoggfaaGreatDoor
open Go.RowKit Go.Deep Go.ChangeShapes Go.WideShapes Go.ChangeAt
attribute [local go_sem] Oper.semAt_some run_store_nf run_store_f
set_option maxHeartbeats 1000000 in
set_option maxRecDepth 1000000 in
theorem ins_any {w0 w : World} {R mb n b off cap : Nat} {cv jv : Value} {qs : List Ins} {f : ByteArray → Option Nat} {js : List (Nat × Pc)} {p0 : Pc} {r : List Pc}
    (hT : PT w0) (hNT : NT w0) (k0 : Keeps (fun _ => False) w0 w) (hI : RX w w0.heap.size R mb cv jv qs n f js) (hw : PCL w (some ⟨b, off, none⟩) (p0 :: r)) (hsz : ∀ p ∈ (p0 :: r), p.t.size ≤ 4096 ∧ 0 ≤ p.col ∧ p.col ≤ 100000) (hbR : b ≠ R) (hbj : jv.ownBlock ≠ some b) (hq : qs.length ≤ 64) (hjl : js.length ≤ 4000000) :
    Calls Tryz.prog 21 #[.pointer (some ⟨R, 0, none⟩), .slice (some ⟨b, off, none⟩) (r.length + 1) cap] w (InsP w w0.heap.size R mb cv jv qs n f js (insR qs.length (p0 :: r))) := by
  have HQ : Hid (qs.length ≤ 64) := hq
  clear hq
  obtain ⟨p0t, p0l, p0c⟩ := p0
  obtain ⟨b', off', e', hp0⟩ := hw 0 _ rfl
  injection e' with e'
  injection e' with e1 e2 _
  subst e1 e2
  have hR0 : ∀ W, Keeps (fun _ => False) w W → (loadVar 73 ⟨b, off, none⟩).run Tryz.prog W = .ok (.agg #[.string p0t, .int .i64 p0l, .int .i64 p0c]) W := fun W k => run_pcAt (W := W) (b := b) (o := off) (p := ⟨p0t, p0l, p0c⟩) (fun j v e => by have := k.cell (hp0 j v e) (fun e => e); rw [Nat.zero_mul, Nat.add_zero] at this; exact this)
  have hR1 := hR0 w (Keeps.refl _ w)
  cases hn : nmd p0t with
  | none =>
    have hRES : insR qs.length (⟨p0t, p0l, p0c⟩ :: r) = .error (101, p0l, p0c) := by unfold insR; simp only [hn]
    rw [hRES]
    have hNm := named_no p0t p0l p0c (hT.keep k0).lt (hNT.keep k0) hn
    clear hR0 hp0 hw
    go_enter Tryz.func21, Tryz.ntmps21
    go_wp2_with (refine wpList_load_run rfl 73 _ rfl ⟨b, off, none⟩ rfl _ hR1 ?_; clear hR1)
    refine hNm.mono ?_
    rintro e w1 ⟨rfl, k1⟩
    exact ⟨rfl, rfl, k1.mono (fun _ _ e => e.elim)⟩
  | some q0 =>
    have hNm := named_ok p0t p0l p0c (hT.keep k0).lt (hNT.keep k0) hn
    obtain ⟨c, hcd, hc1, hc2⟩ := nmd_code hn
    have hRES : insR qs.length (⟨p0t, p0l, p0c⟩ :: r) = if qs.length = 64 then .error (106, p0l, p0c) else fls q0 (slo c) ⟨p0t, p0l, p0c⟩ r [] := by
      unfold insR
      simp only [hn]
      rw [hcd, Int.toNat_natCast]
    rw [hRES]
    clear hRES hn
    obtain ⟨RES, hRS⟩ : ∃ RES, (if qs.length = 64 then .error (106, p0l, p0c) else fls q0 (slo c) ⟨p0t, p0l, p0c⟩ r []) = RES := ⟨_, rfl⟩
    rw [hRS]
    have HRS : Hid (_ = _) := hRS
    clear hRS
    obtain ⟨ac, capc, rfl⟩ := slice_of_owns hI.o
    go_enter Tryz.func21, Tryz.ntmps21
    refine wp_seq_k (fun KK hKK => ?_)
    have hKH : Hid _ := hKK
    clear hKK
    go_wp2_with (refine wpList_load_run rfl 73 _ rfl ⟨b, off, none⟩ rfl _ hR1 ?_; clear hR1)
    refine hNm.mono ?_
    rintro e w1 ⟨rfl, k1⟩
    obtain ⟨W4, hW4⟩ : ∃ W4, W4 = w1.alloc (.cells #[.int .i64 0, .int .i64 0, .bool false, .int .i64 0, .bool false, .int .i64 0, .bool false, .int .i64 0, .int .i64 0, .int .i64 0, .int .i64 0] 65) := ⟨_, rfl⟩
    have k4 : Keeps (fun _ => False) w1 W4 := by rw [hW4]; exact (Keeps.refl _ w1).alloc _
    have hU4 : CL W4 w1.heap.size ins0.cells := by rw [hW4]; exact CL.made w1 ins0.cells _
    have hA := all_oneCell_ins q0
    have HW : Hid (_ = _) := hW4
    clear hW4 hNm
    go_wp2_with (rw [← HW.out]; clear HW; refine wpList_store_cl rfl 65 _ _ rfl w1.heap.size 0 11 _ rfl rfl rfl hU4 (by show 11 ≤ 11; decide) iIn hA ?_; intro w5 hc5 k5 hsz5; clear hsz5)
    refine hKH.out _ _ ?_
    clear hKH KK
    have hU5 : CL w5 w1.heap.size q0.cells := hc5
    clear hc5
    have K5 : Keeps (fun _ => False) w w5 := (k1.trans k4).trans' k5 (fun _ _ e => e) (fun i hi e => by have := k1.size; have e : i = w1.heap.size := e; omega)
    have hI5 := hI.keep K5
    have r0 := hI5.c.c 0 _ rfl
    have hib := k1.size
    have hibl : w1.heap.size < w5.heap.size := hU5.lt (by show 0 < 11; decide)
    have hibR : w1.heap.size ≠ R := fun e => by have := hI.lt; omega
    have hcI : Value.ownBlock (.slice ac qs.length capc) ≠ some w1.heap.size := fun e => by have := owns_lt' hI.o _ e; omega
    have hjI : jv.ownBlock ≠ some w1.heap.size := fun e => by have := owns_lt' hI.j _ e; omega
    have hblt : b < w.heap.size := World.block_lt_of_cell? w ⟨b, off + 0 * 3 + 0, none⟩ (hp0 0 _ rfl)
    have hbi : b ≠ w1.heap.size := by omega
    have hib0 : w0.heap.size ≤ w1.heap.size := by have := k0.size; omega
    have hR5 := hR0 w5 K5
    clear hU4 hA k1 k4 k5 hp0 hR0
    generalize w1.heap.size = ib at *
    clear w1
    refine wp_seq_k (fun KK hKK => ?_)
    have hKH : Hid _ := hKK
    clear hKK
    by_cases h64 : qs.length = 64
    · have hE := HRS.out
      rw [if_pos h64] at hE
      subst hE
      have hl64 : ((qs.length : Int) == 64) = true := by simp; omega
      have hLv := fun W => leave_any W p0t p0l p0c 106
      clear h64
      go_wp2_with (first | (refine wpList_load_run rfl 73 _ rfl ⟨b, off, none⟩ rfl _ hR5 ?_; clear hR5) | (go_at_call 23; refine (hLv _).mono ?_; clear hLv; rintro e w7 ⟨rfl, k7⟩))
      exact ⟨rfl, rfl, (K5.trans k7).mono (fun _ _ e => e.elim)⟩
    · have hF := HRS.out
      rw [if_neg h64] at hF
      have hl64 : ((qs.length : Int) == 64) = false := by simp; omega
      have HF : Hid (_ = _) := hF
      have hq2 : qs.length < 64 := by have := HQ.out; omega
      clear hF h64
      go_wp2_with fail
      refine hKH.out _ _ ?_
      clear hKH KK
      refine ins_mid (w0 := w0) hT (k0.trans K5) hI5 hU5 hcd hc1 hc2 (hw.keep K5) hsz HF.out hibR hib0 hibl hcI hjI hbR hbj hbi hq2 hjl (fun fl w' e k => ?_) (fun q ps w' cv' jv' e hX k => ?_)
      · subst e
        exact ⟨rfl, (K5.mono (fun _ _ e => e.elim)).trans k⟩
      · subst e
        refine ⟨rfl, cv', jv', hX, K5.trans' k (fun _ _ e => e.elim) (fun i hi e => ?_)⟩
        rcases e with e | e | e | e
        · exact .inl e
        · exact .inr (.inl e)
        · exact .inr (.inr e)
        · omega
end Go.Proofs.YtchbhmolnoggfaaGreatDoor

