import Derived.Test.YtchbhmolnoggfaaGreatDoorG05
import Derived.Test.YtchbhmolnoggfaaGreatDoorG03
namespace Go.Proofs.YtchbhmolnoggfaaGreatDoor
open Go.RowKit Go.Deep Go.ChangeShapes Go.WideShapes Go.ChangeAt
attribute [local go_sem] Oper.semAt_some run_store_nf run_store_f
def jcl (l : List (Nat × Pc)) : List Value := l.flatMap fun x => [.int .i64 (x.1 : Int), .string x.2.t, .int .i64 x.2.ln, .int .i64 x.2.col]
theorem jI : Tryz.prog.underlying 39 = some (.slice 79) := by kernel_rfl
theorem jI0 : (Tryz.prog.info? 79).map (fun i => (i.zero, i.size, i.bytes)) = some (some (.agg #[.int .i64 0, .string ⟨#[]⟩, .int .i64 0, .int .i64 0]), 4, 40) := by kernel_rfl
theorem jIi : ∃ i, Tryz.prog.info? 79 = some i ∧ i.zero = some (.agg #[.int .i64 0, .string ⟨#[]⟩, .int .i64 0, .int .i64 0]) ∧ i.size = 4 ∧ i.bytes = 40 := by
  have h := jI0
  cases hq : Tryz.prog.info? 79 with
  | none => rw [hq] at h; cases h
  | some i =>
    rw [hq] at h
    injection h with h
    injection h with h1 h2
    injection h2 with h2 h3
    exact ⟨i, rfl, h1, h2, h3⟩
theorem append_j {W : World} {base k : Nat} {v : Value} {js : List (Nat × Pc)} (hown : W.ownsRow base 79 4 v k (jcl js)) (hb : base ≤ W.heap.size) (hk : (k + 1) * 40 ≤ 140737488355328) (n : Nat) (p : Pc) :
    ∃ v' w', (Builtin.append_ #[39, 39] 39 #[v, .slice (some ⟨W.heap.size, 0, none⟩) 1 1]).run Tryz.prog (W.alloc (.cells #[.int .i64 (n : Int), .string p.t, .int .i64 p.ln, .int .i64 p.col] 79)) = .ok v' w' ∧ w'.ownsRow base 79 4 v' (k + 1) (jcl (js ++ [(n, p)])) ∧ Keeps (fun i => v.ownBlock = some i) W w' ∧ (v'.ownBlock = v.ownBlock ∨ v'.ownBlock = some (W.heap.size + 1)) := by
  obtain ⟨i0, hi0, hz0, hz1, hz2⟩ := jIi
  obtain ⟨v', w', hr, ho, hg, _, hbl⟩ := run_append_own_at (P := Tryz.prog) (w := W.alloc (.cells (jcl [(n, p)]).toArray 79)) base 39 39 79 i0 _ 4 40 jI hi0 hz0 hz1 hz2 rfl (by decide) v k (jcl js) (((Keeps.refl (fun _ => False) W).alloc _).owns hown (fun _ _ e => e)) ⟨W.heap.size, 0, none⟩ 1 1 (jcl [(n, p)]) rfl (fun j u hu => by
      rw [add_at]
      have := (CL.made W (jcl [(n, p)]) 79).c j u hu
      simpa using this) (fun u hu => by
      simp [jcl] at hu
      rcases hu with rfl | rfl | rfl | rfl <;> rfl) (by unfold maxLen; omega) (by omega) (Nat.le_trans hb (by simp))
  refine ⟨v', w', hr, ?_, ((Keeps.refl _ W).alloc _).grown hg (fun i _ e => e), by simpa using hbl⟩
  unfold jcl
  rw [List.flatMap_append]
  simpa [jcl] using ho
structure RJ (w : World) (base R mb : Nat) (qs : List Ins) (n : Nat) (f : ByteArray → Option Nat) (js : List (Nat × Pc)) : Prop where
  x : ∃ cv jv, CL w R [cv, .map (some mb), jv] ∧ w.ownsRow base 65 11 cv qs.length (icl qs) ∧ w.ownsRow base 79 4 jv js.length (jcl js) ∧ cv.ownBlock ≠ some R ∧ jv.ownBlock ≠ some R ∧ cv.ownBlock ≠ some mb ∧ jv.ownBlock ≠ some mb ∧ ∀ g, cv.ownBlock = some g → jv.ownBlock ≠ some g
  m : SM w mb n f
  b : base ≤ R ∧ base ≤ mb ∧ mb ≠ R
theorem RJ.keep {w w' : World} {base R mb n : Nat} {qs : List Ins} {f : ByteArray → Option Nat} {js : List (Nat × Pc)} (h : RJ w base R mb qs n f js) (k : Keeps (fun _ => False) w w') : RJ w' base R mb qs n f js := by
  obtain ⟨⟨cv, jv, hc, ho, hj, hn⟩, hm, hb⟩ := h
  exact ⟨⟨cv, jv, hc.keep (by show 0 < 3; decide) k (fun e => e), k.owns ho (fun _ _ e => e), k.owns hj (fun _ _ e => e), hn⟩, hm.keep k (fun e => e), hb⟩
def JRw (w : World) (base R mb k : Nat) : Prop := base ≤ k ∧ (k = R ∨ k = mb ∨ (∃ cur x, w.heap[k]? = some (.cells cur 65 x)) ∨ ∃ cur x, w.heap[k]? = some (.cells cur 79 x))
set_option maxHeartbeats 500000 in
set_option maxRecDepth 100000 in
theorem filn_1 {w : World} {r : Value} {ib : Nat} (t : ByteArray) (ln col : Int) (_hs : t.size ≤ 4096) (hT : PT w) (hb : regB t = false) : Calls Tryz.prog 33 #[r, .pointer (some ⟨ib, 0, none⟩), .int .i64 1, .agg #[.string t, .int .i64 ln, .int .i64 col]] w fun e w' => e = pan (103, ln, col) ∧ Keeps (fun _ => False) w w' := by
  have m1 := CL.made w [.string t, .int .i64 ln, .int .i64 col] 73
  have k2 : Keeps (fun _ => False) w (w.alloc (.cells #[.string t, .int .i64 ln, .int .i64 col] 73)) := (Keeps.refl _ w).alloc _
  have hC := regm_no (w := (w.alloc (.cells #[.string t, .int .i64 ln, .int .i64 col] 73))) t ln col _hs (errIs_keep hT.er k2) hb
  have y0 := m1.c 0 _ rfl
  have y1 := m1.c 1 _ rfl
  have y2 := m1.c 2 _ rfl
  go_enter Tryz.func33, Tryz.ntmps33
  go_wp2_with (go_at_call 46; refine hC.mono ?_; rintro e w4 ⟨rfl, k4⟩; have K2 := k2.trans k4)
  exact ⟨rfl, rfl, K2⟩
set_option maxHeartbeats 500000 in
set_option maxRecDepth 100000 in
theorem filn_2 {w : World} {r : Value} {ib : Nat} (t : ByteArray) (ln col : Int) (_hs : t.size ≤ 4096) (hT : PT w) (hb : objO t = none) : Calls Tryz.prog 33 #[r, .pointer (some ⟨ib, 0, none⟩), .int .i64 2, .agg #[.string t, .int .i64 ln, .int .i64 col]] w fun e w' => e = pan (103, ln, col) ∧ Keeps (fun _ => False) w w' := by
  have m1 := CL.made w [.string t, .int .i64 ln, .int .i64 col] 73
  have k2 : Keeps (fun _ => False) w (w.alloc (.cells #[.string t, .int .i64 ln, .int .i64 col] 73)) := (Keeps.refl _ w).alloc _
  have hC := object_no (w := (w.alloc (.cells #[.string t, .int .i64 ln, .int .i64 col] 73))) t ln col _hs (errIs_keep hT.er k2) hb
  have y0 := m1.c 0 _ rfl
  have y1 := m1.c 1 _ rfl
  have y2 := m1.c 2 _ rfl
  go_enter Tryz.func33, Tryz.ntmps33
  go_wp2_with (go_at_call 47; refine hC.mono ?_; rintro e w4 ⟨rfl, k4⟩; have K2 := k2.trans k4)
  exact ⟨rfl, rfl, K2⟩
set_option maxHeartbeats 500000 in
set_option maxRecDepth 100000 in
theorem filn_3 {w : World} {r : Value} {ib : Nat} (t : ByteArray) (ln col : Int) (_hs : t.size ≤ 4096) (hT : PT w) (hb : src t = none) : Calls Tryz.prog 33 #[r, .pointer (some ⟨ib, 0, none⟩), .int .i64 3, .agg #[.string t, .int .i64 ln, .int .i64 col]] w fun e w' => e = pan (103, ln, col) ∧ Keeps (fun _ => False) w w' := by
  have m1 := CL.made w [.string t, .int .i64 ln, .int .i64 col] 73
  have k2 : Keeps (fun _ => False) w (w.alloc (.cells #[.string t, .int .i64 ln, .int .i64 col] 73)) := (Keeps.refl _ w).alloc _
  have hC := source_no (w := (w.alloc (.cells #[.string t, .int .i64 ln, .int .i64 col] 73))) t ln col t _hs (errIs_keep hT.er k2) hb
  have y0 := m1.c 0 _ rfl
  have y1 := m1.c 1 _ rfl
  have y2 := m1.c 2 _ rfl
  go_enter Tryz.func33, Tryz.ntmps33
  go_wp2_with (go_at_call 48; refine hC.mono ?_; rintro e w4 ⟨rfl, k4⟩; have K2 := k2.trans k4)
  exact ⟨rfl, rfl, K2⟩
set_option maxHeartbeats 500000 in
set_option maxRecDepth 100000 in
theorem filn_4 {w : World} {r : Value} {ib : Nat} (t : ByteArray) (ln col : Int) (_hs : t.size ≤ 4096) (hT : PT w) (hb : src t = none) : Calls Tryz.prog 33 #[r, .pointer (some ⟨ib, 0, none⟩), .int .i64 4, .agg #[.string t, .int .i64 ln, .int .i64 col]] w fun e w' => e = pan (103, ln, col) ∧ Keeps (fun _ => False) w w' := by
  have m1 := CL.made w [.string t, .int .i64 ln, .int .i64 col] 73
  have k2 : Keeps (fun _ => False) w (w.alloc (.cells #[.string t, .int .i64 ln, .int .i64 col] 73)) := (Keeps.refl _ w).alloc _
  have hC := source_no (w := (w.alloc (.cells #[.string t, .int .i64 ln, .int .i64 col] 73))) t ln col t _hs (errIs_keep hT.er k2) hb
  have y0 := m1.c 0 _ rfl
  have y1 := m1.c 1 _ rfl
  have y2 := m1.c 2 _ rfl
  go_enter Tryz.func33, Tryz.ntmps33
  go_wp2_with (go_at_call 48; refine hC.mono ?_; rintro e w4 ⟨rfl, k4⟩; have K2 := k2.trans k4)
  exact ⟨rfl, rfl, K2⟩
set_option maxHeartbeats 500000 in
set_option maxRecDepth 100000 in
theorem filn_5 {w : World} {r : Value} {ib : Nat} (t : ByteArray) (ln col : Int) (_hs : t.size ≤ 4096) (hT : PT w) (hb : look relT t 1 6 = 0) : Calls Tryz.prog 33 #[r, .pointer (some ⟨ib, 0, none⟩), .int .i64 5, .agg #[.string t, .int .i64 ln, .int .i64 col]] w fun e w' => e = pan (103, ln, col) ∧ Keeps (fun _ => False) w w' := by
  have m1 := CL.made w [.string t, .int .i64 ln, .int .i64 col] 73
  have k2 : Keeps (fun _ => False) w (w.alloc (.cells #[.string t, .int .i64 ln, .int .i64 col] 73)) := (Keeps.refl _ w).alloc _
  have hC := relation_no (w := (w.alloc (.cells #[.string t, .int .i64 ln, .int .i64 col] 73))) t ln col (hT.lt.keep k2) hb
  have y0 := m1.c 0 _ rfl
  have y1 := m1.c 1 _ rfl
  have y2 := m1.c 2 _ rfl
  go_enter Tryz.func33, Tryz.ntmps33
  go_wp2_with (go_at_call 49; refine hC.mono ?_; rintro e w4 ⟨rfl, k4⟩; have K2 := k2.trans k4)
  exact ⟨rfl, rfl, K2⟩
theorem filn_any {w : World} {r : Value} {ib : Nat} {u : Ins} {s : Int} (hs6 : 1 ≤ s ∧ s ≤ 5) (t : ByteArray) (ln col : Int) (hs : t.size ≤ 4096) (hT : PT w) (h : fil u s t = none) : Calls Tryz.prog 33 #[r, .pointer (some ⟨ib, 0, none⟩), .int .i64 s, .agg #[.string t, .int .i64 ln, .int .i64 col]] w fun e w' => e = pan (103, ln, col) ∧ Keeps (fun _ => False) w w' := by
  unfold fil at h
  rcases (by omega : s = 1 ∨ s = 2 ∨ s = 3 ∨ s = 4 ∨ s = 5) with rfl | rfl | rfl | rfl | rfl
  · refine filn_1 t ln col hs hT ?_
    cases hb : regB t with
    | false => rfl
    | true => rw [if_pos rfl, if_pos hb] at h; cases h
  · refine filn_2 t ln col hs hT ?_
    rw [if_neg (by decide), if_pos rfl] at h
    cases ho : objO t with
    | none => rfl
    | some x => rw [ho] at h; cases h
  · refine filn_3 t ln col hs hT ?_
    rw [if_neg (by decide), if_neg (by decide), if_pos rfl] at h
    cases ho : src t with
    | none => rfl
    | some x => rw [ho] at h; cases h
  · refine filn_4 t ln col hs hT ?_
    rw [if_neg (by decide), if_neg (by decide), if_neg (by decide), if_pos rfl] at h
    cases ho : src t with
    | none => rfl
    | some x => rw [ho] at h; cases h
  · refine filn_5 t ln col hs hT ?_
    rw [if_neg (by decide), if_neg (by decide), if_neg (by decide), if_neg (by decide), if_pos rfl] at h
    by_cases hb : look relT t 1 6 = 0
    · exact hb
    · rw [if_pos hb] at h; cases h
set_option maxHeartbeats 500000 in
set_option maxRecDepth 1000000 in
theorem filn_6 {w : World} {r : Value} {ib : Nat} (t : ByteArray) (ln col : Int) (hs : t.size ≤ 4096) (hb : nmB t = false) : Calls Tryz.prog 33 #[r, .pointer (some ⟨ib, 0, none⟩), .int .i64 6, .agg #[.string t, .int .i64 ln, .int .i64 col]] w fun e w' => e = pan (103, ln, col) ∧ Keeps (fun _ => False) w w' := by
  have m1 := CL.made w [.string t, .int .i64 ln, .int .i64 col] 73
  have k2 : Keeps (fun _ => False) w (w.alloc (.cells #[.string t, .int .i64 ln, .int .i64 col] 73)) := (Keeps.refl _ w).alloc _
  go_enter Tryz.func33, Tryz.ntmps33
  go_wp2_with fail
  refine wp_region_held_drew (S := fun w' => Keeps (fun _ => False) (w.alloc (.cells #[.string t, .int .i64 ln, .int .i64 col] 73)) w') (by kernel_rfl) (Keeps.refl _ _).drew (fun hHeld => ?_)
  refine wpAnyH_take (i := 0) (v := .agg #[.string t, .int .i64 ln, .int .i64 col]) rfl (by kernel_rfl) (by kernel_rfl) (by kernel_rfl) (fun _ _ _ h => h) (Or.inl ⟨by rfl, ?_⟩) (by assumption) ?_
  · intro wx hSw
    exact takes_load' 73 _ rfl ⟨w.heap.size, 0, none⟩ rfl (run_pcAt (W := wx) (b := w.heap.size) (o := 0) (p := ⟨t, ln, col⟩) (fun j v e => by have := (m1.keep (by show 0 < 3; decide) hSw (fun e => e)).c j v e; rwa [Nat.zero_add]))
  (try simp only [List.getElem_toArray]); (try simp only [List.getElem_cons_succ]); (try simp only [List.getElem_cons_zero]); (try simp only [Act.put]); (try simp only [List.setIfInBounds_toArray]); (repeat first | simp only [List.set_cons_succ] | simp only [List.set_cons_zero])
  refine wpAnyH_take (i := 1) (v := ?_) rfl (by kernel_rfl) (by kernel_rfl) (by kernel_rfl) (fun _ _ _ h => h) (Or.inl ⟨by rfl, ?_⟩) (by assumption) ?_
  rotate_left
  · intro wx hSw;  go_simp <;> with_reducible rfl
  (try simp only [List.getElem_toArray]); (try simp only [List.getElem_cons_succ]); (try simp only [List.getElem_cons_zero]); (try simp only [Act.put]); (try simp only [List.setIfInBounds_toArray]); (repeat first | simp only [List.set_cons_succ] | simp only [List.set_cons_zero])
  refine wpAnyH_take (i := 2) (v := ?_) rfl (by kernel_rfl) (by kernel_rfl) (by kernel_rfl) (fun _ _ _ h => h) (Or.inl ⟨by rfl, ?_⟩) (by assumption) ?_
  rotate_left
  · intro wx hSw; have p0 := (m1.keep (by show 0 < 3; decide) hSw (fun e => e)).c 0 _ rfl;  go_simp <;> with_reducible rfl
  (try simp only [List.getElem_toArray]); (try simp only [List.getElem_cons_succ]); (try simp only [List.getElem_cons_zero]); (try simp only [Act.put]); (try simp only [List.setIfInBounds_toArray]); (repeat first | simp only [List.set_cons_succ] | simp only [List.set_cons_zero])
  refine wpAnyH_one 3 (by kernel_rfl) rfl rfl ?_
  go_simp
  refine (isName_any _ t hs).mono ?_
  rintro e V1 ⟨rfl, kv1⟩
  refine ⟨hHeld.trans kv1, fun hS1 => ?_⟩
  (try simp only [List.getElem_toArray]); (try simp only [List.getElem_cons_succ]); (try simp only [List.getElem_cons_zero]); (try simp only [Act.put]); (try simp only [List.setIfInBounds_toArray]); (repeat first | simp only [List.set_cons_succ] | simp only [List.set_cons_zero])
  refine wpAnyH_one 4 (by kernel_rfl) rfl rfl ?_
  go_simp
  refine (need_no _ t ln col).mono ?_
  rintro e V2 ⟨rfl, kv2⟩
  exact ⟨rfl, rfl, (k2.trans hS1).trans kv2⟩
end Go.Proofs.YtchbhmolnoggfaaGreatDoor

namespace Go.Proofs.YtchbhmolnoggfaaGreatDoor
open Go.RowKit Go.Deep Go.ChangeShapes Go.WideShapes Go.ChangeAt
attribute [local go_sem] Oper.semAt_some run_store_nf run_store_f
structure RX (w : World) (base R mb : Nat) (cv jv : Value) (qs : List Ins) (n : Nat) (f : ByteArray → Option Nat) (js : List (Nat × Pc)) : Prop where
  c : CL w R [cv, .map (some mb), jv]
  o : w.ownsRow base 65 11 cv qs.length (icl qs)
  j : w.ownsRow base 79 4 jv js.length (jcl js)
  m : SM w mb n f
  b : base ≤ R ∧ base ≤ mb ∧ mb ≠ R
  d1 : cv.ownBlock ≠ some R ∧ cv.ownBlock ≠ some mb
  d2 : jv.ownBlock ≠ some R ∧ jv.ownBlock ≠ some mb
  d3 : ∀ g, cv.ownBlock = some g → jv.ownBlock ≠ some g
theorem RX.keep {w w' : World} {base R mb n : Nat} {cv jv : Value} {qs : List Ins} {f : ByteArray → Option Nat} {js : List (Nat × Pc)} (h : RX w base R mb cv jv qs n f js) (k : Keeps (fun _ => False) w w') : RX w' base R mb cv jv qs n f js :=
  ⟨h.c.keep (by show 0 < 3; decide) k (fun e => e), k.owns h.o (fun _ _ e => e), k.owns h.j (fun _ _ e => e), h.m.keep k (fun e => e), h.b, h.d1, h.d2, h.d3⟩
theorem RX.lt {w : World} {base R mb n : Nat} {cv jv : Value} {qs : List Ins} {f : ByteArray → Option Nat} {js : List (Nat × Pc)} (h : RX w base R mb cv jv qs n f js) : R < w.heap.size := h.c.lt (by show 0 < 3; decide)
structure SJ (jb : Option Nat) (R : Nat) (cv : Value) (V w' : World) : Prop where
  k : Keeps (fun i => jb = some i ∨ i = R) V w'
  c : w'.cell? ⟨R, 0, none⟩ = some cv
theorem slice_of_owns {W : World} {base : Nat} {e : TypeId} {size n : Nat} {v : Value} {xs : List Value} (h : W.ownsRow base e size v n xs) : ∃ a cap, v = .slice a n cap := by
  rcases h.2 with ⟨rfl, h0⟩ | ⟨g, cap, cur, rfl, _⟩
  · exact ⟨none, 0, by rw [h0]⟩
  · exact ⟨_, _, rfl⟩
set_option maxHeartbeats 1000000 in
set_option maxRecDepth 1000000 in
theorem fill_6 {w : World} {base R mb ib n : Nat} {cv jv : Value} {qs : List Ins} {f : ByteArray → Option Nat} {js : List (Nat × Pc)} (t : ByteArray) (ln col : Int) (hs : t.size ≤ 4096) (hb : nmB t = true) (hI : RX w base R mb cv jv qs n f js) (hbw : base ≤ w.heap.size) (hjl : js.length ≤ 5000000) : Calls Tryz.prog 33 #[.pointer (some ⟨R, 0, none⟩), .pointer (some ⟨ib, 0, none⟩), .int .i64 6, .agg #[.string t, .int .i64 ln, .int .i64 col]] w fun e w' => e = .returned (.tuple #[]) ∧ ∃ jv', RX w' base R mb cv jv' qs n f (js ++ [(qs.length, ⟨t, ln, col⟩)]) ∧ (jv'.ownBlock = jv.ownBlock ∨ ∀ g, jv'.ownBlock = some g → w.heap.size ≤ g) ∧ Keeps (fun k => k = R ∨ jv.ownBlock = some k) w w' := by
  have m1 := CL.made w [.string t, .int .i64 ln, .int .i64 col] 73
  have k2 : Keeps (fun _ => False) w (w.alloc (.cells #[.string t, .int .i64 ln, .int .i64 col] 73)) := (Keeps.refl _ w).alloc _
  go_enter Tryz.func33, Tryz.ntmps33
  go_wp2_with fail
  refine wp_region_held_drew (S := fun w' => Keeps (fun _ => False) (w.alloc (.cells #[.string t, .int .i64 ln, .int .i64 col] 73)) w') (by kernel_rfl) (Keeps.refl _ _).drew (fun hHeld => ?_)
  refine wpAnyH_take (i := 0) (v := .agg #[.string t, .int .i64 ln, .int .i64 col]) rfl (by kernel_rfl) (by kernel_rfl) (by kernel_rfl) (fun _ _ _ h => h) (Or.inl ⟨by rfl, ?_⟩) (by assumption) ?_
  · intro wx hSw
    exact takes_load' 73 _ rfl ⟨w.heap.size, 0, none⟩ rfl (run_pcAt (W := wx) (b := w.heap.size) (o := 0) (p := ⟨t, ln, col⟩) (fun j v e => by have := (m1.keep (by show 0 < 3; decide) hSw (fun e => e)).c j v e; rwa [Nat.zero_add]))
  (try simp only [List.getElem_toArray]); (try simp only [List.getElem_cons_succ]); (try simp only [List.getElem_cons_zero]); (try simp only [Act.put]); (try simp only [List.setIfInBounds_toArray]); (repeat first | simp only [List.set_cons_succ] | simp only [List.set_cons_zero])
  refine wpAnyH_take (i := 1) (v := ?_) rfl (by kernel_rfl) (by kernel_rfl) (by kernel_rfl) (fun _ _ _ h => h) (Or.inl ⟨by rfl, ?_⟩) (by assumption) ?_
  rotate_left
  · intro wx hSw;  go_simp <;> with_reducible rfl
  (try simp only [List.getElem_toArray]); (try simp only [List.getElem_cons_succ]); (try simp only [List.getElem_cons_zero]); (try simp only [Act.put]); (try simp only [List.setIfInBounds_toArray]); (repeat first | simp only [List.set_cons_succ] | simp only [List.set_cons_zero])
  refine wpAnyH_take (i := 2) (v := ?_) rfl (by kernel_rfl) (by kernel_rfl) (by kernel_rfl) (fun _ _ _ h => h) (Or.inl ⟨by rfl, ?_⟩) (by assumption) ?_
  rotate_left
  · intro wx hSw; have p0 := (m1.keep (by show 0 < 3; decide) hSw (fun e => e)).c 0 _ rfl;  go_simp <;> with_reducible rfl
  (try simp only [List.getElem_toArray]); (try simp only [List.getElem_cons_succ]); (try simp only [List.getElem_cons_zero]); (try simp only [Act.put]); (try simp only [List.setIfInBounds_toArray]); (repeat first | simp only [List.set_cons_succ] | simp only [List.set_cons_zero])
  refine wpAnyH_one 3 (by kernel_rfl) rfl rfl ?_
  go_simp
  refine (isName_any _ t hs).mono ?_
  rintro e V1 ⟨rfl, kv1⟩
  refine ⟨hHeld.trans kv1, fun hS1 => ?_⟩
  (try simp only [List.getElem_toArray]); (try simp only [List.getElem_cons_succ]); (try simp only [List.getElem_cons_zero]); (try simp only [Act.put]); (try simp only [List.setIfInBounds_toArray]); (repeat first | simp only [List.set_cons_succ] | simp only [List.set_cons_zero])
  refine wpAnyH_one 4 (by kernel_rfl) rfl rfl ?_
  go_simp
  refine (need_ok _ t ln col).mono ?_
  rintro e V2 ⟨rfl, kv2⟩
  refine ⟨hS1.trans kv2, fun hS2 => ?_⟩
  (try simp only [List.getElem_toArray]); (try simp only [List.getElem_cons_succ]); (try simp only [List.getElem_cons_zero]); (try simp only [Act.put]); (try simp only [List.setIfInBounds_toArray]); (repeat first | simp only [List.set_cons_succ] | simp only [List.set_cons_zero])
  refine wpAnyH_done (by kernel_rfl) ?_ _
  have KV := k2.trans hS2
  have hI2 := hI.keep KV
  have m2 := m1.keep (by show 0 < 3; decide) hS2 (fun e => e)
  have hlV : w.heap.size < V2.heap.size := m2.lt (by show 0 < 3; decide)
  obtain ⟨ac, capc, rfl⟩ := slice_of_owns hI2.o
  have Kd : Keeps (fun _ => False) V2 V2.drew := (Keeps.refl _ V2).drew
  obtain ⟨v', w', hr, ho, kk, hbl⟩ := append_j (Kd.owns hI2.j (fun _ _ e => e)) (by have := KV.size; show base ≤ V2.heap.size; omega) (by omega) qs.length ⟨t, ln, col⟩
  obtain ⟨a', cap', rfl⟩ := slice_of_owns ho
  obtain ⟨aj, capj, rfl⟩ := slice_of_owns hI2.j
  have hr' : (Builtin.append_ #[39, 39] 39 #[.slice aj js.length capj, .slice (some ⟨V2.heap.size, 0, none⟩) 1 1]).run Tryz.prog (V2.alloc (.cells #[.int .i64 (qs.length : Int), .string t, .int .i64 ln, .int .i64 col] 79)).drew = .ok (.slice a' (js.length + 1) cap') w' := hr
  clear hr
  have KK : Keeps (fun k => Value.ownBlock (.slice aj js.length capj) = some k) V2 w' := (Kd.mono (fun _ _ e => e.elim)).trans kk
  have nW : Value.ownBlock (.slice aj js.length capj) ≠ some w.heap.size := fun e => by have := owns_lt' hI.j _ e; omega
  have nR : w.heap.size ≠ R := fun e => by have := hI.lt; omega
  have r0 := hI2.c.c 0 _ rfl
  have r2 := hI2.c.c 2 _ rfl
  have CR' := hI2.c.keep (by show 0 < 3; decide) KK hI2.d2.1
  go_wp2_with fail
  refine wp_region_held_drew (S := fun w' => SJ (Value.ownBlock (.slice aj js.length capj)) R (.slice ac qs.length capc) V2 w') (by kernel_rfl) ⟨(Keeps.refl _ V2).drew, r0⟩ (fun hHeld => ?_)
  refine wpAnyH_take (i := 0) (v := ?_) rfl (by kernel_rfl) (by kernel_rfl) (by kernel_rfl) (fun _ _ _ h => h) (Or.inl ⟨by rfl, ?_⟩) (by assumption) ?_
  rotate_left
  · intro wx hSw;  go_simp <;> with_reducible rfl
  (try simp only [List.getElem_toArray]); (try simp only [List.getElem_cons_succ]); (try simp only [List.getElem_cons_zero]); (try simp only [Act.put]); (try simp only [List.setIfInBounds_toArray]); (repeat first | simp only [List.set_cons_succ] | simp only [List.set_cons_zero])
  refine wpAnyH_take (i := 1) (v := ?_) rfl (by kernel_rfl) (by kernel_rfl) (by kernel_rfl) (fun _ _ _ h => h) (Or.inl ⟨by rfl, ?_⟩) (by assumption) ?_
  rotate_left
  · intro wx hSw;  go_simp <;> with_reducible rfl
  (try simp only [List.getElem_toArray]); (try simp only [List.getElem_cons_succ]); (try simp only [List.getElem_cons_zero]); (try simp only [Act.put]); (try simp only [List.setIfInBounds_toArray]); (repeat first | simp only [List.set_cons_succ] | simp only [List.set_cons_zero])
  refine wpAnyH_take (i := 2) (v := ?_) rfl (by kernel_rfl) (by kernel_rfl) (by kernel_rfl) (fun _ _ _ h => h) (Or.inl ⟨by rfl, ?_⟩) (by assumption) ?_
  rotate_left
  · intro wx hSw;  go_simp <;> with_reducible rfl
  (try simp only [List.getElem_toArray]); (try simp only [List.getElem_cons_succ]); (try simp only [List.getElem_cons_zero]); (try simp only [Act.put]); (try simp only [List.setIfInBounds_toArray]); (repeat first | simp only [List.set_cons_succ] | simp only [List.set_cons_zero])
  refine wpAnyH_take (i := 3) (v := ?_) rfl (by kernel_rfl) (by kernel_rfl) (by kernel_rfl) (fun _ _ _ h => h) (Or.inl ⟨by rfl, ?_⟩) (by assumption) ?_
  rotate_left
  · intro wx hSw;  go_simp <;> with_reducible rfl
  (try simp only [List.getElem_toArray]); (try simp only [List.getElem_cons_succ]); (try simp only [List.getElem_cons_zero]); (try simp only [Act.put]); (try simp only [List.setIfInBounds_toArray]); (repeat first | simp only [List.set_cons_succ] | simp only [List.set_cons_zero])
  refine wpAnyH_take (i := 5) (v := ?_) rfl (by kernel_rfl) (by kernel_rfl) (by kernel_rfl) (fun _ _ _ h => h) (Or.inl ⟨by rfl, ?_⟩) (by assumption) ?_
  rotate_left
  · intro wx hSw;  go_simp <;> with_reducible rfl
  (try simp only [List.getElem_toArray]); (try simp only [List.getElem_cons_succ]); (try simp only [List.getElem_cons_zero]); (try simp only [Act.put]); (try simp only [List.setIfInBounds_toArray]); (repeat first | simp only [List.set_cons_succ] | simp only [List.set_cons_zero])
  refine wpAnyH_take (i := 6) (v := ?_) rfl (by kernel_rfl) (by kernel_rfl) (by kernel_rfl) (fun _ _ _ h => h) (Or.inl ⟨by rfl, ?_⟩) (by assumption) ?_
  rotate_left
  · intro wx hSw;  go_simp <;> with_reducible rfl
  (try simp only [List.getElem_toArray]); (try simp only [List.getElem_cons_succ]); (try simp only [List.getElem_cons_zero]); (try simp only [Act.put]); (try simp only [List.setIfInBounds_toArray]); (repeat first | simp only [List.set_cons_succ] | simp only [List.set_cons_zero])
  refine wpAnyH_take (i := 7) (v := ?_) rfl (by kernel_rfl) (by kernel_rfl) (by kernel_rfl) (fun _ _ _ h => h) (Or.inl ⟨by rfl, ?_⟩) (by assumption) ?_
  rotate_left
  · intro wx hSw;  go_simp <;> with_reducible rfl
  (try simp only [List.getElem_toArray]); (try simp only [List.getElem_cons_succ]); (try simp only [List.getElem_cons_zero]); (try simp only [Act.put]); (try simp only [List.setIfInBounds_toArray]); (repeat first | simp only [List.set_cons_succ] | simp only [List.set_cons_zero])
  refine wpAnyH_take (i := 8) (v := ?_) rfl (by kernel_rfl) (by kernel_rfl) (by kernel_rfl) (fun _ _ _ h => h) (Or.inl ⟨by rfl, ?_⟩) (by assumption) ?_
  rotate_left
  · intro wx hSw; have q0 := hSw.c;  go_simp <;> with_reducible rfl
  (try simp only [List.getElem_toArray]); (try simp only [List.getElem_cons_succ]); (try simp only [List.getElem_cons_zero]); (try simp only [Act.put]); (try simp only [List.setIfInBounds_toArray]); (repeat first | simp only [List.set_cons_succ] | simp only [List.set_cons_zero])
  refine wpAnyH_take (i := 9) (v := ?_) rfl (by kernel_rfl) (by kernel_rfl) (by kernel_rfl) (fun _ _ _ h => h) (Or.inl ⟨by rfl, ?_⟩) (by assumption) ?_
  rotate_left
  · intro wx hSw;  go_simp <;> with_reducible rfl
  (try simp only [List.getElem_toArray]); (try simp only [List.getElem_cons_succ]); (try simp only [List.getElem_cons_zero]); (try simp only [Act.put]); (try simp only [List.setIfInBounds_toArray]); (repeat first | simp only [List.set_cons_succ] | simp only [List.set_cons_zero])
  refine wpAnyH_take (i := 10) (v := .agg #[.string t, .int .i64 ln, .int .i64 col]) rfl (by kernel_rfl) (by kernel_rfl) (by kernel_rfl) (fun _ _ _ h => h) (Or.inl ⟨by rfl, ?_⟩) (by assumption) ?_
  · intro wx hSw
    exact takes_load' 73 _ rfl ⟨w.heap.size, 0, none⟩ rfl (run_pcAt (W := wx) (b := w.heap.size) (o := 0) (p := ⟨t, ln, col⟩) (fun j v e => by have := (m2.keep (by show 0 < 3; decide) hSw.k (fun e => e.elim nW nR)).c j v e; rwa [Nat.zero_add]))
  (try simp only [List.getElem_toArray]); (try simp only [List.getElem_cons_succ]); (try simp only [List.getElem_cons_zero]); (try simp only [Act.put]); (try simp only [List.setIfInBounds_toArray]); (repeat first | simp only [List.set_cons_succ] | simp only [List.set_cons_zero])
  refine wpAnyH_take (i := 11) (v := ?_) rfl (by kernel_rfl) (by kernel_rfl) (by kernel_rfl) (fun _ _ _ h => h) (Or.inl ⟨by rfl, ?_⟩) (by assumption) ?_
  rotate_left
  · intro wx hSw;  go_simp <;> with_reducible rfl
  (try simp only [List.getElem_toArray]); (try simp only [List.getElem_cons_succ]); (try simp only [List.getElem_cons_zero]); (try simp only [Act.put]); (try simp only [List.setIfInBounds_toArray]); (repeat first | simp only [List.set_cons_succ] | simp only [List.set_cons_zero])
  refine wpAnyH_two' 4 12 (by kernel_rfl) rfl rfl (by kernel_rfl) (by kernel_rfl) ?_ ?_
  · go_simp
    (try simp only [List.getElem_toArray]); (try simp only [List.getElem_cons_succ]); (try simp only [List.getElem_cons_zero]); (try simp only [Act.put]); (try simp only [List.setIfInBounds_toArray]); (repeat first | simp only [List.set_cons_succ] | simp only [List.set_cons_zero])
    refine wpAnyH_one 12 (by kernel_rfl) rfl rfl ?_
    go_simp
    refine ⟨⟨hHeld.k.alloc _, (Keeps.refl (fun _ => False) V2).drew.alloc _ |>.cell r0 (fun e => e)⟩, fun hS2' => ?_⟩
    (try simp only [List.getElem_toArray]); (try simp only [List.getElem_cons_succ]); (try simp only [List.getElem_cons_zero]); (try simp only [Act.put]); (try simp only [List.setIfInBounds_toArray]); (repeat first | simp only [List.set_cons_succ] | simp only [List.set_cons_zero])
    refine wpAnyH_one 13 (by kernel_rfl) rfl rfl ?_
    refine wp_append_run _ _ 39 rfl _ _ _ _ rfl rfl hr' ?_
    refine ⟨⟨KK.mono (fun _ _ e => .inl e), CR'.c 0 _ rfl⟩, fun hS3 => ?_⟩
    (try simp only [List.getElem_toArray]); (try simp only [List.getElem_cons_succ]); (try simp only [List.getElem_cons_zero]); (try simp only [Act.put]); (try simp only [List.setIfInBounds_toArray]); (repeat first | simp only [List.set_cons_succ] | simp only [List.set_cons_zero])
    have z2 := CR'.z 2 (by show 2 < 3; decide)
    have x2 := CR'.c 2 _ rfl
    refine wpAnyH_take (i := 14) (v := ?_) rfl (by kernel_rfl) (by kernel_rfl) (by kernel_rfl) (fun _ _ _ h => h) (Or.inl ⟨by rfl, ?_⟩) (by assumption) ?_
    rotate_left
    · intro wx hSw;  go_simp <;> with_reducible rfl
    (try simp only [List.getElem_toArray]); (try simp only [List.getElem_cons_succ]); (try simp only [List.getElem_cons_zero]); (try simp only [Act.put]); (try simp only [List.setIfInBounds_toArray]); (repeat first | simp only [List.set_cons_succ] | simp only [List.set_cons_zero])
    refine wpAnyH_take (i := 15) (v := ?_) rfl (by kernel_rfl) (by kernel_rfl) (by kernel_rfl) (fun _ _ _ h => h) (Or.inl ⟨by rfl, ?_⟩) (by assumption) ?_
    rotate_left
    · intro wx hSw;  go_simp <;> with_reducible rfl
    (try simp only [List.getElem_toArray]); (try simp only [List.getElem_cons_succ]); (try simp only [List.getElem_cons_zero]); (try simp only [Act.put]); (try simp only [List.setIfInBounds_toArray]); (repeat first | simp only [List.set_cons_succ] | simp only [List.set_cons_zero])
    refine wpAnyH_one 16 (by kernel_rfl) rfl rfl ?_
    go_simp
    refine ⟨⟨hS3.k.setCell (fun _ => .inr rfl) _, (CR'.set (o := 2) (by show 2 < 3; decide) (.slice a' (js.length + 1) cap')).c 0 _ rfl⟩, fun hS4 => ?_⟩
    (try simp only [List.getElem_toArray]); (try simp only [List.getElem_cons_succ]); (try simp only [List.getElem_cons_zero]); (try simp only [Act.put]); (try simp only [List.setIfInBounds_toArray]); (repeat first | simp only [List.set_cons_succ] | simp only [List.set_cons_zero])
    refine wpAnyH_done (by kernel_rfl) ?_ _
    go_wp2_with fail
    go_end0
    have hRn : Value.ownBlock (.slice a' (js.length + 1) cap') ≠ some R := fun e => by
      rcases hbl with h | h
      · exact hI2.d2.1 (h.symm.trans e)
      · have h2 : some (V2.heap.size + 1) = some R := h.symm.trans e
        have h3 := hI2.lt
        injection h2 with h2
        omega
    have hMn : Value.ownBlock (.slice a' (js.length + 1) cap') ≠ some mb := fun e => by
      rcases hbl with h | h
      · exact hI2.d2.2 (h.symm.trans e)
      · have h2 : some (V2.heap.size + 1) = some mb := h.symm.trans e
        have h3 := hI2.m.lt
        injection h2 with h2
        omega
    have hCn : ∀ g, Value.ownBlock (.slice ac qs.length capc) = some g → Value.ownBlock (.slice a' (js.length + 1) cap') ≠ some g := fun g hg e => by
      rcases hbl with h | h
      · exact hI2.d3 g hg (h.symm.trans e)
      · have h2 : some (V2.heap.size + 1) = some g := h.symm.trans e
        have h3 := owns_lt' hI2.o g hg
        injection h2 with h2
        omega
    have kS : Keeps (fun k => k = R) w' (w'.setCell ⟨R, 2, none⟩ (.slice a' (js.length + 1) cap')) := (Keeps.refl _ w').setA 2 _
    refine ⟨rfl, .slice a' (js.length + 1) cap', ⟨CR'.set (o := 2) (by show 2 < 3; decide) _, ?_, ?_, ?_, hI.b, hI2.d1, ⟨hRn, hMn⟩, hCn⟩, ?_, ?_⟩
    · exact kS.owns (KK.owns hI2.o (fun g hg e => hI2.d3 g hg e)) (fun g hg e => hI2.d1.1 (e ▸ hg))
    · rw [List.length_append]
      exact kS.owns ho (fun g hg e => hRn (e ▸ hg))
    · exact (hI2.m.keep KK hI2.d2.2).keep kS hI.b.2.2
    · rcases hbl with h | h
      · exact .inl h
      · refine .inr (fun g hg => ?_)
        have h2 : some (V2.heap.size + 1) = some g := h.symm.trans hg
        injection h2 with h2
        have := KV.size
        omega
    · exact (KV.mono (fun _ _ e => e.elim)).trans' hS4.k (fun _ _ e => e) (fun i hi e => e.elim (fun e => .inr e) (fun e => .inl e))
  · go_simp
    refine ⟨⟨hHeld.k.alloc _, (Keeps.refl (fun _ => False) V2).drew.alloc _ |>.cell r0 (fun e => e)⟩, fun hS1 => ?_⟩
    (try simp only [List.getElem_toArray]); (try simp only [List.getElem_cons_succ]); (try simp only [List.getElem_cons_zero]); (try simp only [Act.put]); (try simp only [List.setIfInBounds_toArray]); (repeat first | simp only [List.set_cons_succ] | simp only [List.set_cons_zero])
    have r2a := ((Keeps.refl (fun _ => False) V2).alloc (.cells #[.int .i64 (qs.length : Int), .string t, .int .i64 ln, .int .i64 col] 79)).cell r2 (fun e => e)
    refine wpAnyH_one 4 (by kernel_rfl) rfl rfl ?_
    go_simp
    (try simp only [List.getElem_toArray]); (try simp only [List.getElem_cons_succ]); (try simp only [List.getElem_cons_zero]); (try simp only [Act.put]); (try simp only [List.setIfInBounds_toArray]); (repeat first | simp only [List.set_cons_succ] | simp only [List.set_cons_zero])
    refine wpAnyH_one 13 (by kernel_rfl) rfl rfl ?_
    refine wp_append_run _ _ 39 rfl _ _ _ _ rfl rfl hr' ?_
    refine ⟨⟨KK.mono (fun _ _ e => .inl e), CR'.c 0 _ rfl⟩, fun hS3 => ?_⟩
    (try simp only [List.getElem_toArray]); (try simp only [List.getElem_cons_succ]); (try simp only [List.getElem_cons_zero]); (try simp only [Act.put]); (try simp only [List.setIfInBounds_toArray]); (repeat first | simp only [List.set_cons_succ] | simp only [List.set_cons_zero])
    have z2 := CR'.z 2 (by show 2 < 3; decide)
    have x2 := CR'.c 2 _ rfl
    refine wpAnyH_take (i := 14) (v := ?_) rfl (by kernel_rfl) (by kernel_rfl) (by kernel_rfl) (fun _ _ _ h => h) (Or.inl ⟨by rfl, ?_⟩) (by assumption) ?_
    rotate_left
    · intro wx hSw;  go_simp <;> with_reducible rfl
    (try simp only [List.getElem_toArray]); (try simp only [List.getElem_cons_succ]); (try simp only [List.getElem_cons_zero]); (try simp only [Act.put]); (try simp only [List.setIfInBounds_toArray]); (repeat first | simp only [List.set_cons_succ] | simp only [List.set_cons_zero])
    refine wpAnyH_take (i := 15) (v := ?_) rfl (by kernel_rfl) (by kernel_rfl) (by kernel_rfl) (fun _ _ _ h => h) (Or.inl ⟨by rfl, ?_⟩) (by assumption) ?_
    rotate_left
    · intro wx hSw;  go_simp <;> with_reducible rfl
    (try simp only [List.getElem_toArray]); (try simp only [List.getElem_cons_succ]); (try simp only [List.getElem_cons_zero]); (try simp only [Act.put]); (try simp only [List.setIfInBounds_toArray]); (repeat first | simp only [List.set_cons_succ] | simp only [List.set_cons_zero])
    refine wpAnyH_one 16 (by kernel_rfl) rfl rfl ?_
    go_simp
    refine ⟨⟨hS3.k.setCell (fun _ => .inr rfl) _, (CR'.set (o := 2) (by show 2 < 3; decide) (.slice a' (js.length + 1) cap')).c 0 _ rfl⟩, fun hS4 => ?_⟩
    (try simp only [List.getElem_toArray]); (try simp only [List.getElem_cons_succ]); (try simp only [List.getElem_cons_zero]); (try simp only [Act.put]); (try simp only [List.setIfInBounds_toArray]); (repeat first | simp only [List.set_cons_succ] | simp only [List.set_cons_zero])
    refine wpAnyH_done (by kernel_rfl) ?_ _
    go_wp2_with fail
    go_end0
    have hRn : Value.ownBlock (.slice a' (js.length + 1) cap') ≠ some R := fun e => by
      rcases hbl with h | h
      · exact hI2.d2.1 (h.symm.trans e)
      · have h2 : some (V2.heap.size + 1) = some R := h.symm.trans e
        have h3 := hI2.lt
        injection h2 with h2
        omega
    have hMn : Value.ownBlock (.slice a' (js.length + 1) cap') ≠ some mb := fun e => by
      rcases hbl with h | h
      · exact hI2.d2.2 (h.symm.trans e)
      · have h2 : some (V2.heap.size + 1) = some mb := h.symm.trans e
        have h3 := hI2.m.lt
        injection h2 with h2
        omega
    have hCn : ∀ g, Value.ownBlock (.slice ac qs.length capc) = some g → Value.ownBlock (.slice a' (js.length + 1) cap') ≠ some g := fun g hg e => by
      rcases hbl with h | h
      · exact hI2.d3 g hg (h.symm.trans e)
      · have h2 : some (V2.heap.size + 1) = some g := h.symm.trans e
        have h3 := owns_lt' hI2.o g hg
        injection h2 with h2
        omega
    have kS : Keeps (fun k => k = R) w' (w'.setCell ⟨R, 2, none⟩ (.slice a' (js.length + 1) cap')) := (Keeps.refl _ w').setA 2 _
    refine ⟨rfl, .slice a' (js.length + 1) cap', ⟨CR'.set (o := 2) (by show 2 < 3; decide) _, ?_, ?_, ?_, hI.b, hI2.d1, ⟨hRn, hMn⟩, hCn⟩, ?_, ?_⟩
    · exact kS.owns (KK.owns hI2.o (fun g hg e => hI2.d3 g hg e)) (fun g hg e => hI2.d1.1 (e ▸ hg))
    · rw [List.length_append]
      exact kS.owns ho (fun g hg e => hRn (e ▸ hg))
    · exact (hI2.m.keep KK hI2.d2.2).keep kS hI.b.2.2
    · rcases hbl with h | h
      · exact .inl h
      · refine .inr (fun g hg => ?_)
        have h2 : some (V2.heap.size + 1) = some g := h.symm.trans hg
        injection h2 with h2
        have := KV.size
        omega
    · exact (KV.mono (fun _ _ e => e.elim)).trans' hS4.k (fun _ _ e => e) (fun i hi e => e.elim (fun e => .inr e) (fun e => .inl e))
end Go.Proofs.YtchbhmolnoggfaaGreatDoor

