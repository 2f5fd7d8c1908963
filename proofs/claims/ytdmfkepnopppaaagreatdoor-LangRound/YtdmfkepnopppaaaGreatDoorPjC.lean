import Derived.Test.YtdmfkepnopppaaaGreatDoorPjM
import Derived.Test.YtdmfkepnopppaaaGreatDoorPhF
namespace Go.Proofs.YtdmfkepnopppaaaGreatDoor
open Go.RowKit Go.Deep Go.ChangeShapes Go.WideShapes Go.ChangeAt
attribute [local go_sem] Oper.semAt_some run_store_nf run_store_f
/-- Jumps' cells: the place, the word. -/
def jcl (l : List (Nat × Pc)) : List Value := l.flatMap fun x => [.int .i64 (x.1 : Int), .string x.2.t, .int .i64 x.2.ln, .int .i64 x.2.col]
theorem jI : Tryz.prog.underlying 48 = some (.slice 82) := by kernel_rfl
theorem jI0 : (Tryz.prog.info? 82).map (fun i => (i.zero, i.size, i.bytes)) = some (some (.agg #[.int .i64 0, .string ⟨#[]⟩, .int .i64 0, .int .i64 0]), 4, 40) := by kernel_rfl
theorem jIi : ∃ i, Tryz.prog.info? 82 = some i ∧ i.zero = some (.agg #[.int .i64 0, .string ⟨#[]⟩, .int .i64 0, .int .i64 0]) ∧ i.size = 4 ∧ i.bytes = 40 := by
  have h := jI0
  cases hq : Tryz.prog.info? 82 with
  | none => rw [hq] at h; cases h
  | some i =>
    rw [hq] at h
    injection h with h
    injection h with h1 h2
    injection h2 with h2 h3
    exact ⟨i, rfl, h1, h2, h3⟩
theorem append_j {W : World} {base k : Nat} {v : Value} {js : List (Nat × Pc)} (hown : W.ownsRow base 82 4 v k (jcl js)) (hb : base ≤ W.heap.size) (hk : (k + 1) * 40 ≤ 140737488355328) (n : Nat) (p : Pc) :
    ∃ v' w', (Builtin.append_ #[48, 48] 48 #[v, .slice (some ⟨W.heap.size, 0, none⟩) 1 1]).run Tryz.prog (W.alloc (.cells #[.int .i64 (n : Int), .string p.t, .int .i64 p.ln, .int .i64 p.col] 82)) = .ok v' w' ∧ w'.ownsRow base 82 4 v' (k + 1) (jcl (js ++ [(n, p)])) ∧ Keeps (fun i => v.ownBlock = some i) W w' ∧ (v'.ownBlock = v.ownBlock ∨ v'.ownBlock = some (W.heap.size + 1)) := by
  obtain ⟨i0, hi0, hz0, hz1, hz2⟩ := jIi
  obtain ⟨v', w', hr, ho, hg, _, hbl⟩ := run_append_own_at (P := Tryz.prog) (w := W.alloc (.cells (jcl [(n, p)]).toArray 82)) base 48 48 82 i0 _ 4 40 jI hi0 hz0 hz1 hz2 rfl (by decide) v k (jcl js) (((Keeps.refl (fun _ => False) W).alloc _).owns hown (fun _ _ e => e)) ⟨W.heap.size, 0, none⟩ 1 1 (jcl [(n, p)]) rfl (fun j u hu => by
      rw [add_at]
      have := (CL.made W (jcl [(n, p)]) 82).c j u hu
      simpa using this) (fun u hu => by
      simp [jcl] at hu
      rcases hu with rfl | rfl | rfl | rfl <;> rfl) (by unfold maxLen; omega) (by omega) (Nat.le_trans hb (by simp))
  refine ⟨v', w', hr, ?_, ((Keeps.refl _ W).alloc _).grown hg (fun i _ e => e), by simpa using hbl⟩
  unfold jcl
  rw [List.flatMap_append]
  simpa [jcl] using ho
/-- A reader in memory: code, labels, jumps. -/
structure RJ (w : World) (base R mb : Nat) (qs : List Ins) (n : Nat) (f : ByteArray → Option Nat) (js : List (Nat × Pc)) : Prop where
  x : ∃ cv jv, CL w R [cv, .map (some mb), jv] ∧ w.ownsRow base 45 11 cv qs.length (icl qs) ∧ w.ownsRow base 82 4 jv js.length (jcl js) ∧ cv.ownBlock ≠ some R ∧ jv.ownBlock ≠ some R ∧ cv.ownBlock ≠ some mb ∧ jv.ownBlock ≠ some mb ∧ ∀ g, cv.ownBlock = some g → jv.ownBlock ≠ some g
  m : SM w mb n f
  b : base ≤ R ∧ base ≤ mb ∧ mb ≠ R
theorem RJ.keep {w w' : World} {base R mb n : Nat} {qs : List Ins} {f : ByteArray → Option Nat} {js : List (Nat × Pc)} (h : RJ w base R mb qs n f js) (k : Keeps (fun _ => False) w w') : RJ w' base R mb qs n f js := by
  obtain ⟨⟨cv, jv, hc, ho, hj, hn⟩, hm, hb⟩ := h
  exact ⟨⟨cv, jv, hc.keep (by show 0 < 3; decide) k (fun e => e), k.owns ho (fun _ _ e => e), k.owns hj (fun _ _ e => e), hn⟩, hm.keep k (fun e => e), hb⟩
/-- What reading a line may turn: the reader, its code, its labels, its jumps. -/
def JRw (w : World) (base R mb k : Nat) : Prop := base ≤ k ∧ (k = R ∨ k = mb ∨ (∃ cur x, w.heap[k]? = some (.cells cur 45 x)) ∨ ∃ cur x, w.heap[k]? = some (.cells cur 82 x))
set_option maxHeartbeats 500000 in
set_option maxRecDepth 100000 in
theorem filn_1 {w : World} {r : Value} {ib : Nat} (t : ByteArray) (ln col : Int) (_hs : t.size ≤ 4096) (hT : PT w) (hb : regB t = false) : Calls Tryz.prog 43 #[r, .pointer (some ⟨ib, 0, none⟩), .int .i64 1, .agg #[.string t, .int .i64 ln, .int .i64 col]] w fun e w' => e = pan (103, ln, col) ∧ Keeps (fun _ => False) w w' := by
  have m1 := CL.made w [.string t, .int .i64 ln, .int .i64 col] 76
  have k2 : Keeps (fun _ => False) w (w.alloc (.cells #[.string t, .int .i64 ln, .int .i64 col] 76)) := (Keeps.refl _ w).alloc _
  have hC := regm_no (w := (w.alloc (.cells #[.string t, .int .i64 ln, .int .i64 col] 76))) t ln col _hs (errIs_keep hT.er k2) hb
  have y0 := m1.c 0 _ rfl
  have y1 := m1.c 1 _ rfl
  have y2 := m1.c 2 _ rfl
  go_enter Tryz.func43, Tryz.ntmps43
  go_wp2_with (go_at_call 61; refine hC.mono ?_; rintro e w4 ⟨rfl, k4⟩; have K2 := k2.trans k4)
  exact ⟨rfl, rfl, K2⟩
set_option maxHeartbeats 500000 in
set_option maxRecDepth 100000 in
theorem filn_2 {w : World} {r : Value} {ib : Nat} (t : ByteArray) (ln col : Int) (_hs : t.size ≤ 4096) (hT : PT w) (hb : objO t = none) : Calls Tryz.prog 43 #[r, .pointer (some ⟨ib, 0, none⟩), .int .i64 2, .agg #[.string t, .int .i64 ln, .int .i64 col]] w fun e w' => e = pan (103, ln, col) ∧ Keeps (fun _ => False) w w' := by
  have m1 := CL.made w [.string t, .int .i64 ln, .int .i64 col] 76
  have k2 : Keeps (fun _ => False) w (w.alloc (.cells #[.string t, .int .i64 ln, .int .i64 col] 76)) := (Keeps.refl _ w).alloc _
  have hC := object_no (w := (w.alloc (.cells #[.string t, .int .i64 ln, .int .i64 col] 76))) t ln col _hs (errIs_keep hT.er k2) hb
  have y0 := m1.c 0 _ rfl
  have y1 := m1.c 1 _ rfl
  have y2 := m1.c 2 _ rfl
  go_enter Tryz.func43, Tryz.ntmps43
  go_wp2_with (go_at_call 62; refine hC.mono ?_; rintro e w4 ⟨rfl, k4⟩; have K2 := k2.trans k4)
  exact ⟨rfl, rfl, K2⟩
set_option maxHeartbeats 500000 in
set_option maxRecDepth 100000 in
theorem filn_3 {w : World} {r : Value} {ib : Nat} (t : ByteArray) (ln col : Int) (_hs : t.size ≤ 4096) (hT : PT w) (hb : src t = none) : Calls Tryz.prog 43 #[r, .pointer (some ⟨ib, 0, none⟩), .int .i64 3, .agg #[.string t, .int .i64 ln, .int .i64 col]] w fun e w' => e = pan (103, ln, col) ∧ Keeps (fun _ => False) w w' := by
  have m1 := CL.made w [.string t, .int .i64 ln, .int .i64 col] 76
  have k2 : Keeps (fun _ => False) w (w.alloc (.cells #[.string t, .int .i64 ln, .int .i64 col] 76)) := (Keeps.refl _ w).alloc _
  have hC := source_no (w := (w.alloc (.cells #[.string t, .int .i64 ln, .int .i64 col] 76))) t ln col t _hs (errIs_keep hT.er k2) hb
  have y0 := m1.c 0 _ rfl
  have y1 := m1.c 1 _ rfl
  have y2 := m1.c 2 _ rfl
  go_enter Tryz.func43, Tryz.ntmps43
  go_wp2_with (go_at_call 63; refine hC.mono ?_; rintro e w4 ⟨rfl, k4⟩; have K2 := k2.trans k4)
  exact ⟨rfl, rfl, K2⟩
set_option maxHeartbeats 500000 in
set_option maxRecDepth 100000 in
theorem filn_4 {w : World} {r : Value} {ib : Nat} (t : ByteArray) (ln col : Int) (_hs : t.size ≤ 4096) (hT : PT w) (hb : src t = none) : Calls Tryz.prog 43 #[r, .pointer (some ⟨ib, 0, none⟩), .int .i64 4, .agg #[.string t, .int .i64 ln, .int .i64 col]] w fun e w' => e = pan (103, ln, col) ∧ Keeps (fun _ => False) w w' := by
  have m1 := CL.made w [.string t, .int .i64 ln, .int .i64 col] 76
  have k2 : Keeps (fun _ => False) w (w.alloc (.cells #[.string t, .int .i64 ln, .int .i64 col] 76)) := (Keeps.refl _ w).alloc _
  have hC := source_no (w := (w.alloc (.cells #[.string t, .int .i64 ln, .int .i64 col] 76))) t ln col t _hs (errIs_keep hT.er k2) hb
  have y0 := m1.c 0 _ rfl
  have y1 := m1.c 1 _ rfl
  have y2 := m1.c 2 _ rfl
  go_enter Tryz.func43, Tryz.ntmps43
  go_wp2_with (go_at_call 63; refine hC.mono ?_; rintro e w4 ⟨rfl, k4⟩; have K2 := k2.trans k4)
  exact ⟨rfl, rfl, K2⟩
set_option maxHeartbeats 500000 in
set_option maxRecDepth 100000 in
theorem filn_5 {w : World} {r : Value} {ib : Nat} (t : ByteArray) (ln col : Int) (_hs : t.size ≤ 4096) (hT : PT w) (hb : look relT t 1 6 = 0) : Calls Tryz.prog 43 #[r, .pointer (some ⟨ib, 0, none⟩), .int .i64 5, .agg #[.string t, .int .i64 ln, .int .i64 col]] w fun e w' => e = pan (103, ln, col) ∧ Keeps (fun _ => False) w w' := by
  have m1 := CL.made w [.string t, .int .i64 ln, .int .i64 col] 76
  have k2 : Keeps (fun _ => False) w (w.alloc (.cells #[.string t, .int .i64 ln, .int .i64 col] 76)) := (Keeps.refl _ w).alloc _
  have hC := relation_no (w := (w.alloc (.cells #[.string t, .int .i64 ln, .int .i64 col] 76))) t ln col (hT.lt.keep k2) hb
  have y0 := m1.c 0 _ rfl
  have y1 := m1.c 1 _ rfl
  have y2 := m1.c 2 _ rfl
  go_enter Tryz.func43, Tryz.ntmps43
  go_wp2_with (go_at_call 64; refine hC.mono ?_; rintro e w4 ⟨rfl, k4⟩; have K2 := k2.trans k4)
  exact ⟨rfl, rfl, K2⟩
theorem filn_any {w : World} {r : Value} {ib : Nat} {u : Ins} {s : Int} (hs6 : 1 ≤ s ∧ s ≤ 5) (t : ByteArray) (ln col : Int) (hs : t.size ≤ 4096) (hT : PT w) (h : fil u s t = none) : Calls Tryz.prog 43 #[r, .pointer (some ⟨ib, 0, none⟩), .int .i64 s, .agg #[.string t, .int .i64 ln, .int .i64 col]] w fun e w' => e = pan (103, ln, col) ∧ Keeps (fun _ => False) w w' := by
  unfold fil at h
  rcases (by omega : s = 1 ∨ s = 2 ∨ s = 3 ∨ s = 4 ∨ s = 5) with rfl | rfl | rfl | rfl | rfl
  · refine filn_1 t ln col hs hT ?_
    cases hb : regB t with
    | false => rfl
    | true => rw [if_pos rfl, if_pos hb] at h; cases h
  · refine filn_2 t ln col hs hT ?_
    rw [if_neg (by decide), if_pos rfl] at h
    cases ho : objO t with
    | none => rfl
    | some x => rw [ho] at h; cases h
  · refine filn_3 t ln col hs hT ?_
    rw [if_neg (by decide), if_neg (by decide), if_pos rfl] at h
    cases ho : src t with
    | none => rfl
    | some x => rw [ho] at h; cases h
  · refine filn_4 t ln col hs hT ?_
    rw [if_neg (by decide), if_neg (by decide), if_neg (by decide), if_pos rfl] at h
    cases ho : src t with
    | none => rfl
    | some x => rw [ho] at h; cases h
  · refine filn_5 t ln col hs hT ?_
    rw [if_neg (by decide), if_neg (by decide), if_neg (by decide), if_neg (by decide), if_pos rfl] at h
    by_cases hb : look relT t 1 6 = 0
    · exact hb
    · rw [if_pos hb] at h; cases h
set_option maxHeartbeats 500000 in
set_option maxRecDepth 1000000 in
theorem filn_6 {w : World} {r : Value} {ib : Nat} (t : ByteArray) (ln col : Int) (hs : t.size ≤ 4096) (hb : nmB t = false) : Calls Tryz.prog 43 #[r, .pointer (some ⟨ib, 0, none⟩), .int .i64 6, .agg #[.string t, .int .i64 ln, .int .i64 col]] w fun e w' => e = pan (103, ln, col) ∧ Keeps (fun _ => False) w w' := by
  have m1 := CL.made w [.string t, .int .i64 ln, .int .i64 col] 76
  have k2 : Keeps (fun _ => False) w (w.alloc (.cells #[.string t, .int .i64 ln, .int .i64 col] 76)) := (Keeps.refl _ w).alloc _
  go_enter Tryz.func43, Tryz.ntmps43
  go_wp2_with fail
  refine wp_region_held_drew (S := fun w' => Keeps (fun _ => False) (w.alloc (.cells #[.string t, .int .i64 ln, .int .i64 col] 76)) w') (by kernel_rfl) (Keeps.refl _ _).drew (fun hHeld => ?_)
  refine wpAnyH_take (i := 0) (v := .agg #[.string t, .int .i64 ln, .int .i64 col]) rfl (by kernel_rfl) (by kernel_rfl) (by kernel_rfl) (fun _ _ _ h => h) (Or.inl ⟨by rfl, ?_⟩) (by assumption) ?_
  · intro wx hSw
    exact takes_load' 76 _ rfl ⟨w.heap.size, 0, none⟩ rfl (run_pcAt (W := wx) (b := w.heap.size) (o := 0) (p := ⟨t, ln, col⟩) (fun j v e => by have := (m1.keep (by show 0 < 3; decide) hSw (fun e => e)).c j v e; rwa [Nat.zero_add]))
  (try simp only [List.getElem_toArray]); (try simp only [List.getElem_cons_succ]); (try simp only [List.getElem_cons_zero]); (try simp only [Act.put]); (try simp only [List.setIfInBounds_toArray]); (repeat first | simp only [List.set_cons_succ] | simp only [List.set_cons_zero])
  refine wpAnyH_take (i := 1) (v := ?_) rfl (by kernel_rfl) (by kernel_rfl) (by kernel_rfl) (fun _ _ _ h => h) (Or.inl ⟨by rfl, ?_⟩) (by assumption) ?_
  rotate_left
  · intro wx hSw;  go_simp <;> with_reducible rfl
  (try simp only [List.getElem_toArray]); (try simp only [List.getElem_cons_succ]); (try simp only [List.getElem_cons_zero]); (try simp only [Act.put]); (try simp only [List.setIfInBounds_toArray]); (repeat first | simp only [List.set_cons_succ] | simp only [List.set_cons_zero])
  refine wpAnyH_take (i := 2) (v := ?_) rfl (by kernel_rfl) (by kernel_rfl) (by kernel_rfl) (fun _ _ _ h => h) (Or.inl ⟨by rfl, ?_⟩) (by assumption) ?_
  rotate_left
  · intro wx hSw; have p0 := (m1.keep (by show 0 < 3; decide) hSw (fun e => e)).c 0 _ rfl;  go_simp <;> with_reducible rfl
  (try simp only [List.getElem_toArray]); (try simp only [List.getElem_cons_succ]); (try simp only [List.getElem_cons_zero]); (try simp only [Act.put]); (try simp only [List.setIfInBounds_toArray]); (repeat first | simp only [List.set_cons_succ] | simp only [List.set_cons_zero])
  refine wpAnyH_one 3 (by kernel_rfl) rfl rfl ?_
  go_simp
  refine (isName_any _ t hs).mono ?_
  rintro e V1 ⟨rfl, kv1⟩
  refine ⟨hHeld.trans kv1, fun hS1 => ?_⟩
  (try simp only [List.getElem_toArray]); (try simp only [List.getElem_cons_succ]); (try simp only [List.getElem_cons_zero]); (try simp only [Act.put]); (try simp only [List.setIfInBounds_toArray]); (repeat first | simp only [List.set_cons_succ] | simp only [List.set_cons_zero])
  refine wpAnyH_one 4 (by kernel_rfl) rfl rfl ?_
  go_simp
  refine (need_no _ t ln col).mono ?_
  rintro e V2 ⟨rfl, kv2⟩
  exact ⟨rfl, rfl, (k2.trans hS1).trans kv2⟩
end Go.Proofs.YtdmfkepnopppaaaGreatDoor
