import Derived.Test.YtclednbclgkdaaaGreatDoorPqC
import Derived.Laws.OwnMore
import Derived.Test.YtclednbclgkdaaaGreatDoorPhI
namespace Go.Proofs.YtclednbclgkdaaaGreatDoor
open Go.RowKit Go.Deep Go.ChangeShapes Go.WideShapes Go.ChangeAt
attribute [local go_sem] Oper.semAt_some run_store_nf run_store_f
/-- The jumps get their places. -/
def joR (f : ByteArray → Option Nat) : List (Nat × Pc) → List Ins → Except Flt (List Ins)
  | [], qs => .ok qs
  | x :: r, qs => match f x.2.t with
    | none => .error (107, x.2.ln, x.2.col)
    | some v => joR f r (qs.set x.1 { qs.getD x.1 ins0 with to := (v : Int) })
theorem icl_cons (q : Ins) (l : List Ins) : icl (q :: l) = q.cells ++ icl l := by unfold icl; rw [List.flatMap_cons]
theorem icl_set : ∀ (l : List Ins) (p : Nat) (v : Int), p < l.length → icl (l.set p { l.getD p ins0 with to := v }) = (icl l).set (p * 11 + 10) (.int .i64 v)
  | [], p, v, h => absurd h (Nat.not_lt_zero _)
  | q :: l, 0, v, h => by
    obtain ⟨cd, dst, oR, oN, xR, xN, yR, yN, op, rel, to⟩ := q
    rfl
  | q :: l, p + 1, v, h => by
    have i := icl_set l p v (by simpa using h)
    have hl : q.cells.length = 11 := rfl
    rw [List.set_cons_succ, icl_cons, icl_cons]
    have e : (q :: l).getD (p + 1) ins0 = l.getD p ins0 := rfl
    rw [e, i, show (p + 1) * 11 + 10 = q.cells.length + (p * 11 + 10) by rw [hl]; omega, List.set_append_right _ _ (by omega), Nat.add_sub_cancel_left]
theorem jcl_get : ∀ (l : List (Nat × Pc)) (i c : Nat) (v : Value) (x : Nat × Pc), l[i]? = some x → ([.int .i64 (x.1 : Int), .string x.2.t, .int .i64 x.2.ln, .int .i64 x.2.col] : List Value)[c]? = some v → (jcl l)[i * 4 + c]? = some v
  | [], i, c, v, x, h, _ => by simp at h
  | y :: l, 0, c, v, x, h, hv => by
    have h : y = x := by simpa using h
    subst h
    have hc : c < 4 := (List.getElem?_eq_some_iff.1 hv).1
    show ((jcl (y :: l)))[0 * 4 + c]? = _
    unfold jcl
    rw [List.flatMap_cons, List.getElem?_append_left (by simpa using hc)]
    simpa using hv
  | y :: l, i + 1, c, v, x, h, hv => by
    have := jcl_get l i c v x (by simpa using h) hv
    unfold jcl at this ⊢
    rw [List.flatMap_cons, List.getElem?_append_right (by simp; omega)]
    rw [show (i + 1) * 4 + c - ([Value.int .i64 (y.1 : Int), .string y.2.t, .int .i64 y.2.ln, .int .i64 y.2.col] : List Value).length = i * 4 + c by simp; omega]
    exact this
theorem iJm : (Tryz.prog.info? 64).map (·.size) = some 4 := by kernel_rfl
/-- What the jumps come to. -/
def JoP (w0 w : World) (R mb : Nat) (cv jv : Value) (n : Nat) (f : ByteArray → Option Nat) (js : List (Nat × Pc)) (RES : Except Flt (List Ins)) (e : Ending) (w' : World) : Prop := match RES with
  | .error fl => e = pan fl ∧ Keeps (fun k => cv.ownBlock = some k) w w'
  | .ok qs => e = .returned (.tuple #[]) ∧ RX w' w0.heap.size R mb cv jv qs n f js ∧ Keeps (fun k => cv.ownBlock = some k) w w'
set_option maxHeartbeats 1000000 in
set_option maxRecDepth 1000000 in
theorem join_any {w0 w : World} {R mb n : Nat} {cv jv : Value} {qs : List Ins} {f : ByteArray → Option Nat} {js : List (Nat × Pc)} (hI : RX w w0.heap.size R mb cv jv qs n f js) (hjs : ∀ x ∈ js, x.1 < qs.length ∧ x.2.t.size ≤ 4096) (hq : qs.length ≤ 64) (hjl : js.length ≤ 5000) : Calls Tryz.prog 14 #[.pointer (some ⟨R, 0, none⟩)] w (JoP w0 w R mb cv jv n f js (joR f js qs)) := by
  obtain ⟨RES, hRES⟩ : ∃ RES, joR f js qs = RES := ⟨_, rfl⟩
  rw [hRES]
  have HQ : Hid (qs.length ≤ 64) := hq
  clear hq
  have c2 := hI.c.c 2 _ rfl
  obtain ⟨aj, capj, rfl⟩ := slice_of_owns hI.j
  obtain ⟨ac, capc, rfl⟩ := slice_of_owns hI.o
  obtain ⟨N, hN⟩ : ∃ N, qs.length = N := ⟨_, rfl⟩
  obtain ⟨M, hM⟩ : ∃ M, js.length = M := ⟨_, rfl⟩
  rw [hN] at HQ hI hjs
  rw [hM] at hI c2 hjl
  rw [hN, hM]
  go_enter Tryz.func14, Tryz.ntmps14
  go_wp2_with fail
  go_loopw [11] (fun iv Wr => ∃ (k : Nat) (qs' : List Ins), iv = .int .i64 (k : Int) ∧ k ≤ M ∧ Hid (joR f (js.drop k) qs' = RES) ∧ RX Wr w0.heap.size R mb (.slice ac N capc) (.slice aj M capj) qs' n f js ∧ Hid (qs'.length = N) ∧ Keeps (fun k => Value.ownBlock (.slice ac N capc) = some k) w Wr) (fun iv _ => M - (intOf iv).toNat)
  case atStart => exact ⟨0, qs, rfl, Nat.zero_le _, hRES, hI, hN, Keeps.refl _ _⟩
  case round =>
    clear c2
    obtain ⟨k, qs', rfl, hk, HM, hI', HN, kr⟩ := hrel
    by_cases hlt : k < M
    · have hltI : decide ((k : Int) < (M : Int)) = true := by simp; omega
      have hltJ : (k : Int) < (M : Int) := by omega
      have hk0 : (0 : Int) ≤ (k : Int) := by omega
      have hwk : IntKind.i64.wrap ((k : Int) + 1) = (k : Int) + 1 := by rw [IntKind.wrap_i64]; omega
      obtain ⟨x, hx⟩ : ∃ x, js[k]? = some x := ⟨_, List.getElem?_eq_getElem (by omega)⟩
      have hxm := hjs x (List.mem_of_getElem? hx)
      have e3 : js.drop k = x :: js.drop (k + 1) := by
        obtain ⟨hk, e⟩ := List.getElem?_eq_some_iff.1 hx
        rw [List.drop_eq_getElem_cons hk, e]
      rw [e3] at HM
      obtain ⟨jb, hjb⟩ : ∃ jb, aj = some ⟨jb, 0, none⟩ := by
        rcases hI'.j.2 with ⟨h1, h2⟩ | ⟨g, cap, cur, h1, _⟩
        · injection h1 with h1 h3 _; omega
        · injection h1 with h1 _ _; exact ⟨g, h1⟩
      subst hjb
      obtain ⟨pl, pt, pln, pcol⟩ := x
      have hR0 : (loadVar 64 ⟨jb, k * 4, none⟩).run Tryz.prog wr = .ok (.agg #[.int .i64 (pl : Int), .string pt, .int .i64 pln, .int .i64 pcol]) wr := run_loadVar_mid wr jb (k * 4) 64 [.int .i64 (pl : Int), .string pt, .int .i64 pln, .int .i64 pcol] _ (fun c v hv => by
        have := hI'.j.cells (g := jb) rfl (k * 4 + c) v (jcl_get js k c v _ hx hv)
        rw [add_at, Nat.zero_add] at this
        exact this) Tryz.underlying64 rfl (by rw [iJm]; rfl)
      obtain ⟨W4, hW4⟩ : ∃ W4, W4 = wr.alloc (.cells #[.int .i64 (pl : Int), .string pt, .int .i64 pln, .int .i64 pcol] 64) := ⟨_, rfl⟩
      have k4 : Keeps (fun _ => False) wr W4 := by rw [hW4]; exact (Keeps.refl _ wr).alloc _
      have c4 : CL W4 wr.heap.size [.int .i64 (pl : Int), .string pt, .int .i64 pln, .int .i64 pcol] := by rw [hW4]; exact CL.made wr _ _
      have x0 := c4.c 0 _ rfl
      have x1 := c4.c 1 _ rfl
      have hI4 := hI'.keep k4
      have r1 := hI4.c.c 1 _ rfl
      have r0 := hI4.c.c 0 _ rfl
      simp only at hxm
      have hz : Sz pt := by unfold Sz; omega
      have HW4 : Hid (_ = _) := hW4
      clear hW4 hx e3
      have HM2 : (match f pt with | none => .error (107, pln, pcol) | some v => joR f (js.drop (k + 1)) (qs'.set pl { qs'.getD pl ins0 with to := (v : Int) })) = RES := HM.out
      cases hfp : f pt with
      | none =>
        rw [hfp] at HM2
        have HE : Hid (RES = .error (107, pln, pcol)) := HM2.symm
        have hLv := fun W => leave_any W pt pln pcol 107
        have KW : Keeps (fun k => Value.ownBlock (.slice ac N capc) = some k) w W4 := kr.trans (k4.mono (fun _ _ e => e.elim))
        clear HM HM2
        go_wp2_with (refine wpList_load_run rfl 64 _ rfl ⟨jb, k * 4, none⟩ rfl _ hR0 ?_; clear hR0)
        rw [← HW4.out]
        clear HW4
        refine wp_region_held_drew (S := fun w' => Keeps (fun _ => False) W4 w') (by kernel_rfl) (Keeps.refl _ W4).drew (fun hHeld => ?_)
        refine wpAnyH_take (i := 0) (v := ?_) rfl (by kernel_rfl) (by kernel_rfl) (by kernel_rfl) (fun _ _ _ h => h) (Or.inl ⟨by rfl, ?_⟩) (by assumption) ?_
        rotate_left
        · intro wx hSw;  go_simp <;> with_reducible rfl
        (try simp only [List.getElem_toArray]); (try simp only [List.getElem_cons_succ]); (try simp only [List.getElem_cons_zero]); (try simp only [Act.put]); (try simp only [List.setIfInBounds_toArray]); (repeat first | simp only [List.set_cons_succ] | simp only [List.set_cons_zero])
        refine wpAnyH_take (i := 1) (v := ?_) rfl (by kernel_rfl) (by kernel_rfl) (by kernel_rfl) (fun _ _ _ h => h) (Or.inl ⟨by rfl, ?_⟩) (by assumption) ?_
        rotate_left
        · intro wx hSw;  go_simp <;> with_reducible rfl
        (try simp only [List.getElem_toArray]); (try simp only [List.getElem_cons_succ]); (try simp only [List.getElem_cons_zero]); (try simp only [Act.put]); (try simp only [List.setIfInBounds_toArray]); (repeat first | simp only [List.set_cons_succ] | simp only [List.set_cons_zero])
        refine wpAnyH_take (i := 2) (v := ?_) rfl (by kernel_rfl) (by kernel_rfl) (by kernel_rfl) (fun _ _ _ h => h) (Or.inl ⟨by rfl, ?_⟩) (by assumption) ?_
        rotate_left
        · intro wx hSw;  go_simp <;> with_reducible rfl
        (try simp only [List.getElem_toArray]); (try simp only [List.getElem_cons_succ]); (try simp only [List.getElem_cons_zero]); (try simp only [Act.put]); (try simp only [List.setIfInBounds_toArray]); (repeat first | simp only [List.set_cons_succ] | simp only [List.set_cons_zero])
        refine wpAnyH_take (i := 3) (v := ?_) rfl (by kernel_rfl) (by kernel_rfl) (by kernel_rfl) (fun _ _ _ h => h) (Or.inl ⟨by rfl, ?_⟩) (by assumption) ?_
        rotate_left
        · intro wx hSw; have q1 := hSw.cell r1 (fun e => e);  go_simp <;> with_reducible rfl
        (try simp only [List.getElem_toArray]); (try simp only [List.getElem_cons_succ]); (try simp only [List.getElem_cons_zero]); (try simp only [Act.put]); (try simp only [List.setIfInBounds_toArray]); (repeat first | simp only [List.set_cons_succ] | simp only [List.set_cons_zero])
        refine wpAnyH_take (i := 4) (v := ?_) rfl (by kernel_rfl) (by kernel_rfl) (by kernel_rfl) (fun _ _ _ h => h) (Or.inl ⟨by rfl, ?_⟩) (by assumption) ?_
        rotate_left
        · intro wx hSw;  go_simp <;> with_reducible rfl
        (try simp only [List.getElem_toArray]); (try simp only [List.getElem_cons_succ]); (try simp only [List.getElem_cons_zero]); (try simp only [Act.put]); (try simp only [List.setIfInBounds_toArray]); (repeat first | simp only [List.set_cons_succ] | simp only [List.set_cons_zero])
        refine wpAnyH_take (i := 5) (v := ?_) rfl (by kernel_rfl) (by kernel_rfl) (by kernel_rfl) (fun _ _ _ h => h) (Or.inl ⟨by rfl, ?_⟩) (by assumption) ?_
        rotate_left
        · intro wx hSw;  go_simp <;> with_reducible rfl
        (try simp only [List.getElem_toArray]); (try simp only [List.getElem_cons_succ]); (try simp only [List.getElem_cons_zero]); (try simp only [Act.put]); (try simp only [List.setIfInBounds_toArray]); (repeat first | simp only [List.set_cons_succ] | simp only [List.set_cons_zero])
        refine wpAnyH_take (i := 6) (v := ?_) rfl (by kernel_rfl) (by kernel_rfl) (by kernel_rfl) (fun _ _ _ h => h) (Or.inl ⟨by rfl, ?_⟩) (by assumption) ?_
        rotate_left
        · intro wx hSw; have q2 := hSw.cell x1 (fun e => e);  go_simp <;> with_reducible rfl
        (try simp only [List.getElem_toArray]); (try simp only [List.getElem_cons_succ]); (try simp only [List.getElem_cons_zero]); (try simp only [Act.put]); (try simp only [List.setIfInBounds_toArray]); (repeat first | simp only [List.set_cons_succ] | simp only [List.set_cons_zero])
        refine wpAnyH_take (i := 7) (v := ?_) rfl (by kernel_rfl) (by kernel_rfl) (by kernel_rfl) (fun _ _ _ h => h) (Or.inl ⟨by rfl, ?_⟩) (by assumption) ?_
        rotate_left
        · intro wx hSw; have hl := (hI4.keep hSw).m.look (k := pt) hz; rw [hfp] at hl; simp only [Option.getD_none, Option.isSome_none] at hl;  go_simp <;> with_reducible rfl
        (try simp only [List.getElem_toArray]); (try simp only [List.getElem_cons_succ]); (try simp only [List.getElem_cons_zero]); (try simp only [Act.put]); (try simp only [List.setIfInBounds_toArray]); (repeat first | simp only [List.set_cons_succ] | simp only [List.set_cons_zero])
        refine wpAnyH_take (i := 8) (v := ?_) rfl (by kernel_rfl) (by kernel_rfl) (by kernel_rfl) (fun _ _ _ h => h) (Or.inl ⟨by rfl, ?_⟩) (by assumption) ?_
        rotate_left
        · intro wx hSw;  go_simp <;> with_reducible rfl
        (try simp only [List.getElem_toArray]); (try simp only [List.getElem_cons_succ]); (try simp only [List.getElem_cons_zero]); (try simp only [Act.put]); (try simp only [List.setIfInBounds_toArray]); (repeat first | simp only [List.set_cons_succ] | simp only [List.set_cons_zero])
        refine wpAnyH_take (i := 9) (v := ?_) rfl (by kernel_rfl) (by kernel_rfl) (by kernel_rfl) (fun _ _ _ h => h) (Or.inl ⟨by rfl, ?_⟩) (by assumption) ?_
        rotate_left
        · intro wx hSw;  go_simp <;> with_reducible rfl
        (try simp only [List.getElem_toArray]); (try simp only [List.getElem_cons_succ]); (try simp only [List.getElem_cons_zero]); (try simp only [Act.put]); (try simp only [List.setIfInBounds_toArray]); (repeat first | simp only [List.set_cons_succ] | simp only [List.set_cons_zero])
        refine wpAnyH_take (i := 10) (v := ?_) rfl (by kernel_rfl) (by kernel_rfl) (by kernel_rfl) (fun _ _ _ h => h) (Or.inl ⟨by rfl, ?_⟩) (by assumption) ?_
        rotate_left
        · intro wx hSw;  go_simp <;> with_reducible rfl
        (try simp only [List.getElem_toArray]); (try simp only [List.getElem_cons_succ]); (try simp only [List.getElem_cons_zero]); (try simp only [Act.put]); (try simp only [List.setIfInBounds_toArray]); (repeat first | simp only [List.set_cons_succ] | simp only [List.set_cons_zero])
        refine wpAnyH_take (i := 11) (v := ?_) rfl (by kernel_rfl) (by kernel_rfl) (by kernel_rfl) (fun _ _ _ h => h) (Or.inl ⟨by rfl, ?_⟩) (by assumption) ?_
        rotate_left
        · intro wx hSw;  go_simp <;> with_reducible rfl
        (try simp only [List.getElem_toArray]); (try simp only [List.getElem_cons_succ]); (try simp only [List.getElem_cons_zero]); (try simp only [Act.put]); (try simp only [List.setIfInBounds_toArray]); (repeat first | simp only [List.set_cons_succ] | simp only [List.set_cons_zero])
        refine wpAnyH_take (i := 12) (v := ?_) rfl (by kernel_rfl) (by kernel_rfl) (by kernel_rfl) (fun _ _ _ h => h) (Or.inl ⟨by rfl, ?_⟩) (by assumption) ?_
        rotate_left
        · intro wx hSw;  go_simp <;> with_reducible rfl
        (try simp only [List.getElem_toArray]); (try simp only [List.getElem_cons_succ]); (try simp only [List.getElem_cons_zero]); (try simp only [Act.put]); (try simp only [List.setIfInBounds_toArray]); (repeat first | simp only [List.set_cons_succ] | simp only [List.set_cons_zero])
        refine wpAnyH_done (by kernel_rfl) ?_ _
        have kd : Keeps (fun _ => False) W4 W4.drew := (Keeps.refl _ W4).drew
        have hRL : (loadVar 58 ⟨wr.heap.size, 1, none⟩).run Tryz.prog W4.drew = .ok (.agg #[.string pt, .int .i64 pln, .int .i64 pcol]) W4.drew := run_pcAt (W := W4.drew) (b := wr.heap.size) (o := 1) (p := ⟨pt, pln, pcol⟩) (fun c v hv => by
          have := (c4.keep (by show 0 < 4; decide) kd (fun e => e)).c (1 + c) v (by
            have hc : c < 3 := (List.getElem?_eq_some_iff.1 hv).1
            rcases (by omega : c = 0 ∨ c = 1 ∨ c = 2) with rfl | rfl | rfl <;> exact hv)
          exact this)
        go_wp2_with (first | (refine wpList_load_run rfl 58 _ rfl ⟨wr.heap.size, 1, none⟩ rfl _ hRL ?_; clear hRL) | (go_at_call 25; refine (hLv _).mono ?_; clear hLv; rintro e w7 ⟨rfl, k7⟩))
        exact ⟨rfl, by rw [HE.out]; exact ⟨rfl, KW.trans ((kd.trans k7).mono (fun _ _ e => e.elim))⟩⟩
      | some v =>
        rw [hfp] at HM2
        have HM3 : Hid (joR f (js.drop (k + 1)) (qs'.set pl { qs'.getD pl ins0 with to := (v : Int) }) = RES) := HM2
        obtain ⟨cb, hcb⟩ : ∃ cb, ac = some ⟨cb, 0, none⟩ := by
          rcases hI'.o.2 with ⟨h1, h2⟩ | ⟨g, cap, cur, h1, _⟩
          · injection h1 with h1 h3 _; omega
          · injection h1 with h1 _ _; exact ⟨g, h1⟩
        subst hcb
        have hpN : pl < qs'.length := by rw [HN.out]; exact hxm.1
        have hp0 : (0 : Int) ≤ (pl : Int) := by omega
        have hp1 : (pl : Int) < (N : Int) := by omega
        have hilen : (icl qs').length = qs'.length * 11 := hI'.o.1
        have KC : Keeps (fun k => Value.ownBlock (.slice (some ⟨cb, 0, none⟩) N capc) = some k) w W4 := kr.trans (k4.mono (fun _ _ e => e.elim))
        have hstd := hI4.o
        have nR : R ≠ cb := fun e => hI'.d1.1 (by rw [e]; rfl)
        have nW : wr.heap.size ≠ cb := fun e => by have := owns_lt' hI'.o cb rfl; omega
        clear HM HM2
        go_wp2_with (refine wpList_load_run rfl 64 _ rfl ⟨jb, k * 4, none⟩ rfl _ hR0 ?_; clear hR0)
        rw [← HW4.out]
        clear HW4
        refine wp_region_held_drew (S := fun w' => Keeps (fun _ => False) W4 w') (by kernel_rfl) (Keeps.refl _ W4).drew (fun hHeld => ?_)
        refine wpAnyH_take (i := 0) (v := ?_) rfl (by kernel_rfl) (by kernel_rfl) (by kernel_rfl) (fun _ _ _ h => h) (Or.inl ⟨by rfl, ?_⟩) (by assumption) ?_
        rotate_left
        · intro wx hSw;  go_simp <;> with_reducible rfl
        (try simp only [List.getElem_toArray]); (try simp only [List.getElem_cons_succ]); (try simp only [List.getElem_cons_zero]); (try simp only [Act.put]); (try simp only [List.setIfInBounds_toArray]); (repeat first | simp only [List.set_cons_succ] | simp only [List.set_cons_zero])
        refine wpAnyH_take (i := 1) (v := ?_) rfl (by kernel_rfl) (by kernel_rfl) (by kernel_rfl) (fun _ _ _ h => h) (Or.inl ⟨by rfl, ?_⟩) (by assumption) ?_
        rotate_left
        · intro wx hSw;  go_simp <;> with_reducible rfl
        (try simp only [List.getElem_toArray]); (try simp only [List.getElem_cons_succ]); (try simp only [List.getElem_cons_zero]); (try simp only [Act.put]); (try simp only [List.setIfInBounds_toArray]); (repeat first | simp only [List.set_cons_succ] | simp only [List.set_cons_zero])
        refine wpAnyH_take (i := 2) (v := ?_) rfl (by kernel_rfl) (by kernel_rfl) (by kernel_rfl) (fun _ _ _ h => h) (Or.inl ⟨by rfl, ?_⟩) (by assumption) ?_
        rotate_left
        · intro wx hSw;  go_simp <;> with_reducible rfl
        (try simp only [List.getElem_toArray]); (try simp only [List.getElem_cons_succ]); (try simp only [List.getElem_cons_zero]); (try simp only [Act.put]); (try simp only [List.setIfInBounds_toArray]); (repeat first | simp only [List.set_cons_succ] | simp only [List.set_cons_zero])
        refine wpAnyH_take (i := 3) (v := ?_) rfl (by kernel_rfl) (by kernel_rfl) (by kernel_rfl) (fun _ _ _ h => h) (Or.inl ⟨by rfl, ?_⟩) (by assumption) ?_
        rotate_left
        · intro wx hSw; have q1 := hSw.cell r1 (fun e => e);  go_simp <;> with_reducible rfl
        (try simp only [List.getElem_toArray]); (try simp only [List.getElem_cons_succ]); (try simp only [List.getElem_cons_zero]); (try simp only [Act.put]); (try simp only [List.setIfInBounds_toArray]); (repeat first | simp only [List.set_cons_succ] | simp only [List.set_cons_zero])
        refine wpAnyH_take (i := 4) (v := ?_) rfl (by kernel_rfl) (by kernel_rfl) (by kernel_rfl) (fun _ _ _ h => h) (Or.inl ⟨by rfl, ?_⟩) (by assumption) ?_
        rotate_left
        · intro wx hSw;  go_simp <;> with_reducible rfl
        (try simp only [List.getElem_toArray]); (try simp only [List.getElem_cons_succ]); (try simp only [List.getElem_cons_zero]); (try simp only [Act.put]); (try simp only [List.setIfInBounds_toArray]); (repeat first | simp only [List.set_cons_succ] | simp only [List.set_cons_zero])
        refine wpAnyH_take (i := 5) (v := ?_) rfl (by kernel_rfl) (by kernel_rfl) (by kernel_rfl) (fun _ _ _ h => h) (Or.inl ⟨by rfl, ?_⟩) (by assumption) ?_
        rotate_left
        · intro wx hSw;  go_simp <;> with_reducible rfl
        (try simp only [List.getElem_toArray]); (try simp only [List.getElem_cons_succ]); (try simp only [List.getElem_cons_zero]); (try simp only [Act.put]); (try simp only [List.setIfInBounds_toArray]); (repeat first | simp only [List.set_cons_succ] | simp only [List.set_cons_zero])
        refine wpAnyH_take (i := 6) (v := ?_) rfl (by kernel_rfl) (by kernel_rfl) (by kernel_rfl) (fun _ _ _ h => h) (Or.inl ⟨by rfl, ?_⟩) (by assumption) ?_
        rotate_left
        · intro wx hSw; have q2 := hSw.cell x1 (fun e => e);  go_simp <;> with_reducible rfl
        (try simp only [List.getElem_toArray]); (try simp only [List.getElem_cons_succ]); (try simp only [List.getElem_cons_zero]); (try simp only [Act.put]); (try simp only [List.setIfInBounds_toArray]); (repeat first | simp only [List.set_cons_succ] | simp only [List.set_cons_zero])
        refine wpAnyH_take (i := 7) (v := ?_) rfl (by kernel_rfl) (by kernel_rfl) (by kernel_rfl) (fun _ _ _ h => h) (Or.inl ⟨by rfl, ?_⟩) (by assumption) ?_
        rotate_left
        · intro wx hSw; have hl := (hI4.keep hSw).m.look (k := pt) hz; rw [hfp] at hl; simp only [Option.getD_some, Option.isSome_some] at hl;  go_simp <;> with_reducible rfl
        (try simp only [List.getElem_toArray]); (try simp only [List.getElem_cons_succ]); (try simp only [List.getElem_cons_zero]); (try simp only [Act.put]); (try simp only [List.setIfInBounds_toArray]); (repeat first | simp only [List.set_cons_succ] | simp only [List.set_cons_zero])
        refine wpAnyH_take (i := 8) (v := ?_) rfl (by kernel_rfl) (by kernel_rfl) (by kernel_rfl) (fun _ _ _ h => h) (Or.inl ⟨by rfl, ?_⟩) (by assumption) ?_
        rotate_left
        · intro wx hSw;  go_simp <;> with_reducible rfl
        (try simp only [List.getElem_toArray]); (try simp only [List.getElem_cons_succ]); (try simp only [List.getElem_cons_zero]); (try simp only [Act.put]); (try simp only [List.setIfInBounds_toArray]); (repeat first | simp only [List.set_cons_succ] | simp only [List.set_cons_zero])
        refine wpAnyH_take (i := 9) (v := ?_) rfl (by kernel_rfl) (by kernel_rfl) (by kernel_rfl) (fun _ _ _ h => h) (Or.inl ⟨by rfl, ?_⟩) (by assumption) ?_
        rotate_left
        · intro wx hSw;  go_simp <;> with_reducible rfl
        (try simp only [List.getElem_toArray]); (try simp only [List.getElem_cons_succ]); (try simp only [List.getElem_cons_zero]); (try simp only [Act.put]); (try simp only [List.setIfInBounds_toArray]); (repeat first | simp only [List.set_cons_succ] | simp only [List.set_cons_zero])
        refine wpAnyH_take (i := 10) (v := ?_) rfl (by kernel_rfl) (by kernel_rfl) (by kernel_rfl) (fun _ _ _ h => h) (Or.inl ⟨by rfl, ?_⟩) (by assumption) ?_
        rotate_left
        · intro wx hSw;  go_simp <;> with_reducible rfl
        (try simp only [List.getElem_toArray]); (try simp only [List.getElem_cons_succ]); (try simp only [List.getElem_cons_zero]); (try simp only [Act.put]); (try simp only [List.setIfInBounds_toArray]); (repeat first | simp only [List.set_cons_succ] | simp only [List.set_cons_zero])
        refine wpAnyH_take (i := 11) (v := ?_) rfl (by kernel_rfl) (by kernel_rfl) (by kernel_rfl) (fun _ _ _ h => h) (Or.inl ⟨by rfl, ?_⟩) (by assumption) ?_
        rotate_left
        · intro wx hSw;  go_simp <;> with_reducible rfl
        (try simp only [List.getElem_toArray]); (try simp only [List.getElem_cons_succ]); (try simp only [List.getElem_cons_zero]); (try simp only [Act.put]); (try simp only [List.setIfInBounds_toArray]); (repeat first | simp only [List.set_cons_succ] | simp only [List.set_cons_zero])
        refine wpAnyH_take (i := 12) (v := ?_) rfl (by kernel_rfl) (by kernel_rfl) (by kernel_rfl) (fun _ _ _ h => h) (Or.inl ⟨by rfl, ?_⟩) (by assumption) ?_
        rotate_left
        · intro wx hSw;  go_simp <;> with_reducible rfl
        (try simp only [List.getElem_toArray]); (try simp only [List.getElem_cons_succ]); (try simp only [List.getElem_cons_zero]); (try simp only [Act.put]); (try simp only [List.setIfInBounds_toArray]); (repeat first | simp only [List.set_cons_succ] | simp only [List.set_cons_zero])
        refine wpAnyH_done (by kernel_rfl) ?_ _
        have kd : Keeps (fun _ => False) W4 W4.drew := (Keeps.refl _ W4).drew
        have hID := hI4.keep kd
        have d0 := kd.cell x0 (fun e => e)
        have rr0 := kd.cell r0 (fun e => e)
        go_wp2_with fail
        obtain ⟨VD, hVD⟩ : ∃ VD, VD = W4.drew := ⟨_, rfl⟩
        rw [← hVD] at hID d0 rr0 ⊢
        have kVD : Keeps (fun _ => False) W4 VD := by rw [hVD]; exact kd
        clear hVD
        refine wp_region_held_drew (S := fun w' => Keeps (fun k => k = cb) VD w') (by kernel_rfl) (Keeps.refl _ VD).drew (fun hHeld => ?_)
        refine wpAnyH_take (i := 0) (v := ?_) rfl (by kernel_rfl) (by kernel_rfl) (by kernel_rfl) (fun _ _ _ h => h) (Or.inl ⟨by rfl, ?_⟩) (by assumption) ?_
        rotate_left
        · intro wx hSw;  go_simp <;> with_reducible rfl
        (try simp only [List.getElem_toArray]); (try simp only [List.getElem_cons_succ]); (try simp only [List.getElem_cons_zero]); (try simp only [Act.put]); (try simp only [List.setIfInBounds_toArray]); (repeat first | simp only [List.set_cons_succ] | simp only [List.set_cons_zero])
        refine wpAnyH_take (i := 1) (v := ?_) rfl (by kernel_rfl) (by kernel_rfl) (by kernel_rfl) (fun _ _ _ h => h) (Or.inl ⟨by rfl, ?_⟩) (by assumption) ?_
        rotate_left
        · intro wx hSw;  go_simp <;> with_reducible rfl
        (try simp only [List.getElem_toArray]); (try simp only [List.getElem_cons_succ]); (try simp only [List.getElem_cons_zero]); (try simp only [Act.put]); (try simp only [List.setIfInBounds_toArray]); (repeat first | simp only [List.set_cons_succ] | simp only [List.set_cons_zero])
        refine wpAnyH_take (i := 2) (v := ?_) rfl (by kernel_rfl) (by kernel_rfl) (by kernel_rfl) (fun _ _ _ h => h) (Or.inl ⟨by rfl, ?_⟩) (by assumption) ?_
        rotate_left
        · intro wx hSw;  go_simp <;> with_reducible rfl
        (try simp only [List.getElem_toArray]); (try simp only [List.getElem_cons_succ]); (try simp only [List.getElem_cons_zero]); (try simp only [Act.put]); (try simp only [List.setIfInBounds_toArray]); (repeat first | simp only [List.set_cons_succ] | simp only [List.set_cons_zero])
        refine wpAnyH_take (i := 3) (v := ?_) rfl (by kernel_rfl) (by kernel_rfl) (by kernel_rfl) (fun _ _ _ h => h) (Or.inl ⟨by rfl, ?_⟩) (by assumption) ?_
        rotate_left
        · intro wx hSw; have q1 := hSw.cell rr0 nR;  go_simp <;> with_reducible rfl
        (try simp only [List.getElem_toArray]); (try simp only [List.getElem_cons_succ]); (try simp only [List.getElem_cons_zero]); (try simp only [Act.put]); (try simp only [List.setIfInBounds_toArray]); (repeat first | simp only [List.set_cons_succ] | simp only [List.set_cons_zero])
        refine wpAnyH_take (i := 4) (v := ?_) rfl (by kernel_rfl) (by kernel_rfl) (by kernel_rfl) (fun _ _ _ h => h) (Or.inl ⟨by rfl, ?_⟩) (by assumption) ?_
        rotate_left
        · intro wx hSw;  go_simp <;> with_reducible rfl
        (try simp only [List.getElem_toArray]); (try simp only [List.getElem_cons_succ]); (try simp only [List.getElem_cons_zero]); (try simp only [Act.put]); (try simp only [List.setIfInBounds_toArray]); (repeat first | simp only [List.set_cons_succ] | simp only [List.set_cons_zero])
        refine wpAnyH_take (i := 5) (v := ?_) rfl (by kernel_rfl) (by kernel_rfl) (by kernel_rfl) (fun _ _ _ h => h) (Or.inl ⟨by rfl, ?_⟩) (by assumption) ?_
        rotate_left
        · intro wx hSw; have q2 := hSw.cell d0 nW;  go_simp <;> with_reducible rfl
        (try simp only [List.getElem_toArray]); (try simp only [List.getElem_cons_succ]); (try simp only [List.getElem_cons_zero]); (try simp only [Act.put]); (try simp only [List.setIfInBounds_toArray]); (repeat first | simp only [List.set_cons_succ] | simp only [List.set_cons_zero])
        refine wpAnyH_take (i := 6) (v := ?_) rfl (by kernel_rfl) (by kernel_rfl) (by kernel_rfl) (fun _ _ _ h => h) (Or.inl ⟨by rfl, ?_⟩) (by assumption) ?_
        rotate_left
        · intro wx hSw;  go_simp <;> with_reducible rfl
        (try simp only [List.getElem_toArray]); (try simp only [List.getElem_cons_succ]); (try simp only [List.getElem_cons_zero]); (try simp only [Act.put]); (try simp only [List.setIfInBounds_toArray]); (repeat first | simp only [List.set_cons_succ] | simp only [List.set_cons_zero])
        refine wpAnyH_take (i := 7) (v := ?_) rfl (by kernel_rfl) (by kernel_rfl) (by kernel_rfl) (fun _ _ _ h => h) (Or.inl ⟨by rfl, ?_⟩) (by assumption) ?_
        rotate_left
        · intro wx hSw;  go_simp <;> with_reducible rfl
        (try simp only [List.getElem_toArray]); (try simp only [List.getElem_cons_succ]); (try simp only [List.getElem_cons_zero]); (try simp only [Act.put]); (try simp only [List.setIfInBounds_toArray]); (repeat first | simp only [List.set_cons_succ] | simp only [List.set_cons_zero])
        refine wpAnyH_take (i := 8) (v := ?_) rfl (by kernel_rfl) (by kernel_rfl) (by kernel_rfl) (fun _ _ _ h => h) (Or.inl ⟨by rfl, ?_⟩) (by assumption) ?_
        rotate_left
        · intro wx hSw;  go_simp <;> with_reducible rfl
        (try simp only [List.getElem_toArray]); (try simp only [List.getElem_cons_succ]); (try simp only [List.getElem_cons_zero]); (try simp only [Act.put]); (try simp only [List.setIfInBounds_toArray]); (repeat first | simp only [List.set_cons_succ] | simp only [List.set_cons_zero])
        have hDD := hID.keep (Keeps.refl (fun _ => False) VD).drew
        have ycell : VD.drew.cell? ⟨cb, pl * 11 + 10, none⟩ = some ((icl qs')[pl * 11 + 10]'(by rw [hilen]; omega)) := by
          have := hDD.o.cells (g := cb) rfl (pl * 11 + 10) _ (List.getElem?_eq_getElem (by rw [hilen]; omega))
          rw [add_at, Nat.zero_add] at this
          exact this
        have yz : VD.drew.frozen? ⟨cb, pl * 11 + 10, none⟩ = false := by
          rcases hDD.o.2 with ⟨h1, h2⟩ | ⟨g, cap, cur, h1, _, hgg, _⟩
          · cases h1
          · injection h1 with h1 _ _
            injection h1 with h1
            injection h1 with h1 _ _
            subst h1
            simp [World.frozen?, hgg]
        refine wpAnyH_one 9 (by kernel_rfl) rfl rfl ?_
        go_simp
        refine ⟨hHeld.setCell (fun _ => rfl) _, fun hS2 => ?_⟩
        (try simp only [List.getElem_toArray]); (try simp only [List.getElem_cons_succ]); (try simp only [List.getElem_cons_zero]); (try simp only [Act.put]); (try simp only [List.setIfInBounds_toArray]); (repeat first | simp only [List.set_cons_succ] | simp only [List.set_cons_zero])
        refine wpAnyH_done (by kernel_rfl) ?_ _
        have hlen' : (qs'.set pl { qs'.getD pl ins0 with to := (v : Int) }).length = qs'.length := List.length_set
        have hnew : (VD.drew.setCell ⟨cb, pl * 11 + 10, none⟩ (.int .i64 (v : Int))).ownsRow w0.heap.size 73 11 (.slice (some ⟨cb, 0, none⟩) N capc) (qs'.set pl { qs'.getD pl ins0 with to := (v : Int) }).length (icl (qs'.set pl { qs'.getD pl ins0 with to := (v : Int) })) := by
          rw [icl_set qs' pl (v : Int) hpN, hlen']
          have ho := hDD.o
          rw [HN.out] at ho ⊢
          exact (ho.stored (pl * 11 + 10) (.int .i64 (v : Int))).1
        have kS : Keeps (fun k => k = cb) VD.drew (VD.drew.setCell ⟨cb, pl * 11 + 10, none⟩ (.int .i64 (v : Int))) := (Keeps.refl _ _).setA _ _
        have hI6 : RX (VD.drew.setCell ⟨cb, pl * 11 + 10, none⟩ (.int .i64 (v : Int))) w0.heap.size R mb (.slice (some ⟨cb, 0, none⟩) N capc) (.slice (some ⟨jb, 0, none⟩) M capj) (qs'.set pl { qs'.getD pl ins0 with to := (v : Int) }) n f js :=
          ⟨hDD.c.keep (by show 0 < 3; decide) kS nR, hnew, kS.owns hDD.j (fun g hg e => hI'.d3 cb rfl (by rw [← (show g = cb from e)]; exact hg)), hDD.m.keep kS (fun e => hI'.d1.2 (by rw [show mb = cb from e]; rfl)), hI'.b, hI'.d1, hI'.d2, hI'.d3⟩
        have K6 : Keeps (fun k => Value.ownBlock (.slice (some ⟨cb, 0, none⟩) N capc) = some k) w (VD.drew.setCell ⟨cb, pl * 11 + 10, none⟩ (.int .i64 (v : Int))) := (KC.trans (kVD.mono (fun _ _ e => e.elim))).trans (hS2.mono (fun i _ e => by have e : i = cb := e; rw [e]; rfl))
        have HN6 : Hid ((qs'.set pl { qs'.getD pl ins0 with to := (v : Int) }).length = N) := hlen'.trans HN.out
        go_wp2_with fail
        go_roundw
        case rel => exact ⟨k + 1, _, by go_num, by omega, HM3, hI6, HN6, K6⟩
        case measure => simp [intOf]; omega
    · have hltI : decide ((k : Int) < (M : Int)) = false := by simp; omega
      have hE : RES = .ok qs' := by
        have := HM.out
        rw [List.drop_eq_nil_of_le (by omega)] at this
        exact this.symm
      subst hE
      go_wp2_with fail
      go_end0
      exact ⟨rfl, hI', kr⟩
end Go.Proofs.YtclednbclgkdaaaGreatDoor
namespace Go.Proofs.YtclednbclgkdaaaGreatDoor
open Go.RowKit Go.Deep Go.ChangeShapes Go.WideShapes Go.ChangeAt
attribute [local go_sem] Oper.semAt_some run_store_nf run_store_f
theorem iFa : (Tryz.prog.info? 28).map (·.size) = some 3 := by kernel_rfl
theorem run_fa {W : World} {b : Nat} {x y z : Int} (h : CL W b [.int .i64 x, .int .i64 y, .int .i64 z]) : (loadVar 28 ⟨b, 0, none⟩).run Tryz.prog W = .ok (.agg #[.int .i64 x, .int .i64 y, .int .i64 z]) W :=
  run_loadVar_mid W b 0 28 [.int .i64 x, .int .i64 y, .int .i64 z] _ (fun j v e => by have := h.c j v e; rwa [Nat.zero_add]) Tryz.underlying28 rfl (by rw [iFa]; rfl)
set_option maxHeartbeats 400000 in
set_option maxRecDepth 1000000 in
theorem caught_any (w : World) (x y z : Int) : Calls Tryz.prog 12 #[.iface 28 (.agg #[.int .i64 x, .int .i64 y, .int .i64 z])] w fun e w' => e = .returned (.agg #[.int .i64 x, .int .i64 y, .int .i64 z]) ∧ Keeps (fun _ => False) w w' := by
  have ht : ∀ w : World, (Instr.typeAssert (.iface 28 (.agg #[.int .i64 x, .int .i64 y, .int .i64 z])) 20 28 true).run Tryz.prog w = .ok (.tuple #[.agg #[.int .i64 x, .int .i64 y, .int .i64 z], .bool true]) w := fun _ => rfl
  obtain ⟨W2, hW2⟩ : ∃ W2, W2 = (w.alloc (.cells #[.int .i64 0, .int .i64 0, .int .i64 0] 28)).alloc (.cells #[.int .i64 x, .int .i64 y, .int .i64 z] 28) := ⟨_, rfl⟩
  have m1 : CL W2 w.heap.size [.int .i64 0, .int .i64 0, .int .i64 0] := by rw [hW2]; exact made1 w [.int .i64 0, .int .i64 0, .int .i64 0] 28 _ (by show 0 < 3; decide)
  have m2 : CL W2 (w.heap.size + 1) [.int .i64 x, .int .i64 y, .int .i64 z] := by rw [hW2]; exact made2 w [.int .i64 x, .int .i64 y, .int .i64 z] 28 _
  have k2 : Keeps (fun _ => False) w W2 := by rw [hW2]; exact ks2 w _ _
  have HW : Hid (_ = _) := hW2
  have hRL := run_fa m2
  have hA : ([.int .i64 x, .int .i64 y, .int .i64 z] : List Value).toArray.all (·.oneCell') = true := all_oneCell_toArray (by simp [Value.oneCell'])
  clear hW2 m2
  go_enter Tryz.func12, Tryz.ntmps12
  go_wp2_with (first | (rw [← HW.out]; clear HW; refine wpList_load_run rfl 28 _ rfl ⟨w.heap.size + 1, 0, none⟩ rfl _ hRL ?_; clear hRL) | (refine wpList_store_cl rfl 28 _ _ rfl w.heap.size 0 3 _ rfl rfl rfl m1 (by show 3 ≤ 3; decide) iFa hA ?_; intro w5 hc5 k5 hsz5; clear hsz5))
  have hc6 : CL w5 w.heap.size [.int .i64 x, .int .i64 y, .int .i64 z] := hc5
  have hr6 := run_fa hc6
  refine bodyPost_ret (v := .agg #[.int .i64 x, .int .i64 y, .int .i64 z]) (by rw [results_cell1 rfl]; simp [asAddr, hr6]) rfl ⟨rfl, ?_⟩
  exact k2.trans' k5 (fun _ _ e => e) (fun i hi e => by have e : i = w.heap.size := e; omega)
set_option maxHeartbeats 800000 in
set_option maxRecDepth 1000000 in
/-- The deferred closure on a frame that a fault has left. -/
theorem pcatch_fault {A B : Nat} (older : List PanicEntry) {v0 : Value} {a0 b0 c0 : Int} (x y z : Int) {w : World} (ca : CL w A [v0]) (cb : CL w B [.int .i64 a0, .int .i64 b0, .int .i64 c0]) (hAB : A ≠ B) :
    CallsD Tryz.prog 11 #[.pointer (some ⟨A, 0, none⟩), .pointer (some ⟨B, 0, none⟩)] (.panicking ({ v := .iface 28 (.agg #[.int .i64 x, .int .i64 y, .int .i64 z]), recovered := false } :: older)) w fun e u' w' =>
      e = .returned (.tuple #[]) ∧ u' = .panicking ({ v := .iface 28 (.agg #[.int .i64 x, .int .i64 y, .int .i64 z]), recovered := true } :: older) ∧ CL w' A [.slice none 0 0] ∧ CL w' B [.int .i64 x, .int .i64 y, .int .i64 z] ∧ Keeps (fun k => k = A ∨ k = B) w w' := by
  have hK := caught_any w x y z
  refine callsD_of_wpS Tryz.func11 rfl fun c₀ cs hu => ?_
  apply wpS_seq
  apply wpS_region
  simp [wpOpsS, go_sem, recoverD, hu, Tryz.ntmps11, Exit.thenS]
  apply wpS_seq
  apply wpS_region
  simp [wpOpsS, go_sem, Exit.thenS]
  refine wpS_cond (t := true) (by simp [Act.eval, Array.replicate]) ?_
  simp only [if_true]
  refine wpS_of_wp ?_
  change Code.wp _ _ _ { tmps := #[.pointer (some ⟨A, 0, none⟩), .pointer (some ⟨B, 0, none⟩), .iface 28 (.agg #[.int .i64 x, .int .i64 y, .int .i64 z]), .iface 28 (.agg #[.int .i64 x, .int .i64 y, .int .i64 z]), .iface 28 (.agg #[.int .i64 x, .int .i64 y, .int .i64 z]), .bool true, undef, undef], defers := [] } w
  have hA : ([.int .i64 x, .int .i64 y, .int .i64 z] : List Value).toArray.all (·.oneCell') = true := all_oneCell_toArray (by simp [Value.oneCell'])
  go_wp2_with fail
  refine hK.mono ?_
  rintro e w1 ⟨rfl, k1⟩
  have ca1 := ca.keep (by show 0 < 1; decide) k1 (fun e => e)
  have cb1 := cb.keep (by show 0 < 3; decide) k1 (fun e => e)
  have y0 := ca1.c 0 _ rfl
  have z0 := ca1.z 0 (by show 0 < 1; decide)
  have ca2 := ca1.set (o := 0) (by show 0 < 1; decide) (.slice none 0 0)
  have cb2 := cb1.other (p := ⟨A, 0, none⟩) hAB (.slice none 0 0)
  have k2 : Keeps (fun k => k = A ∨ k = B) w (w1.setCell ⟨A, 0, none⟩ (.slice none 0 0)) := (k1.mono (fun _ _ e => e.elim)).setCell (fun _ => .inl rfl) _
  clear ca1 cb1 hK
  go_wp2_with (refine wpList_store_cl rfl 28 _ _ rfl B 0 3 _ rfl rfl rfl cb2 (by show 3 ≤ 3; decide) iFa hA ?_; intro w5 hc5 k5 hsz5; clear hsz5)
  have hc6 : CL w5 B [.int .i64 x, .int .i64 y, .int .i64 z] := hc5
  have ca6 := ca2.keep (by show 0 < _; simp) k5 hAB
  simp [bodyPostS, results, Tryz.results11]
  exact ⟨ca6, hc6, k2.trans (k5.mono (fun _ _ e => .inr e))⟩
/-- A text's program, or its fault. -/
def prsR (s : ByteArray) : Except Flt (List Ins) := if 4096 < s.size then .error (100, 0, 0) else match rdR (lns s) 0 ⟨[], 0, fun _ => none, []⟩ with
  | .error e => .error e
  | .ok st => joR st.f st.js st.qs
def prL (r : Except Flt (List Ins)) : List Ins := match r with | .ok l => l | .error _ => []
def prF (r : Except Flt (List Ins)) : Flt := match r with | .ok _ => (0, 0, 0) | .error f => f
theorem joR_len (f : ByteArray → Option Nat) : ∀ (js : List (Nat × Pc)) (qs l : List Ins), joR f js qs = .ok l → l.length = qs.length
  | [], qs, l, h => by
    have h : Except.ok qs = Except.ok l := h
    injection h with h
    rw [h]
  | x :: r, qs, l, h => by
    have h : (match f x.2.t with | none => .error (107, x.2.ln, x.2.col) | some v => joR f r (qs.set x.1 { qs.getD x.1 ins0 with to := (v : Int) })) = Except.ok l := h
    split at h
    · cases h
    · rw [joR_len f r _ l h, List.length_set]
theorem splitB_size : ∀ (k : Nat) (s : ByteArray) (x : ByteArray), x ∈ Lib.splitB ⟨#[10]⟩ 0 k s → x.size ≤ s.size
  | 0, s, x, h => by
    have : x = s := by simpa [Lib.splitB] using h
    rw [this]; exact Nat.le_refl _
  | k + 1, s, x, h => by
    unfold Lib.splitB at h
    split at h
    · have : x = s := by simpa using h
      rw [this]; exact Nat.le_refl _
    · rcases List.mem_cons.1 h with h | h
      · rw [h, ByteArray.size_extract]; omega
      · have := splitB_size k _ x h
        rw [ByteArray.size_extract] at this
        omega
set_option maxHeartbeats 1600000 in
set_option maxRecDepth 1000000 in
theorem parse_all {w : World} (s : ByteArray) (hs0 : s.size ≤ 9223372036854775807) (hT : PT w) (hNT : NT w) : Calls Tryz.prog 6 #[.string s] w fun e w' => ∃ v, e = .returned (.tuple #[v, .agg #[.int .i64 (prF (prsR s)).1, .int .i64 (prF (prsR s)).2.1, .int .i64 (prF (prsR s)).2.2]]) ∧ w'.ownsRow w.heap.size 73 11 v (prL (prsR s)).length (icl (prL (prsR s))) ∧ Keeps (fun _ => False) w w' ∧ (prL (prsR s)).length ≤ 64 := by
  have hmf : ∀ (fn : Fn) (first cap : Array Value) (w : World), (Instr.makeFunc fn first cap).run Tryz.prog w = .ok (.func fn first cap) w := fun _ _ _ _ => rfl
  have hmm := @run_makeMap Tryz.prog
  obtain ⟨w0, hw0⟩ : ∃ w0, w0 = (w.alloc (.cells #[.slice none 0 0] 25)).alloc (.cells #[.int .i64 0, .int .i64 0, .int .i64 0] 28) := ⟨_, rfl⟩
  have k0 : Keeps (fun _ => False) w w0 := by rw [hw0]; exact ks2 w _ _
  have c0 : CL w0 w.heap.size [.slice none 0 0] := by rw [hw0]; exact made1 w [.slice none 0 0] 25 _ (by show 0 < 1; decide)
  have c1 : CL w0 (w.heap.size + 1) [.int .i64 0, .int .i64 0, .int .i64 0] := by rw [hw0]; exact made2 w [.int .i64 0, .int .i64 0, .int .i64 0] 28 _
  have hz0 : w0.heap.size = w.heap.size + 1 + 1 := by rw [hw0]; simp
  have n01 : w.heap.size + 1 ≠ w.heap.size := by omega
  have n10 : w.heap.size ≠ w.heap.size + 1 := by omega
  by_cases hlong : 4096 < s.size
  · have hle : decide ((4096 : Int) < (s.size : Int)) = true := by simp; omega
    have hRES : prsR s = .error (100, 0, 0) := if_pos hlong
    rw [hRES]
    have HW : Hid (_ = _) := hw0
    clear hw0 hlong hRES
    go_enter_defers Tryz.func6, Tryz.ntmps6
    refine wp_seq_k (fun KK hKK => ?_)
    have hKH : Hid _ := hKK
    clear hKK
    go_wp2_with fail
    refine hKH.out _ _ ?_
    clear hKH KK
    rw [← HW.out]
    clear HW
    have y0 := c0.c 0 _ rfl
    have yz := c0.z 0 (by show 0 < 1; decide)
    have f0 := c1.c 0 _ rfl
    have f1 := c1.c 1 _ rfl
    have f2 := c1.c 2 _ rfl
    have g0 := c1.z 0 (by show 0 < 3; decide)
    have g1 := c1.z 1 (by show 1 < 3; decide)
    have g2 := c1.z 2 (by show 2 < 3; decide)
    go_wp2_with fail
    have e0 : CL ((((w0.setCell ⟨w.heap.size, 0, none⟩ (.slice none 0 0)).setCell ⟨w.heap.size + 1, 0, none⟩ (.int .i64 100)).setCell ⟨w.heap.size + 1, 1, none⟩ (.int .i64 0)).setCell ⟨w.heap.size + 1, 2, none⟩ (.int .i64 0)) w.heap.size [.slice none 0 0] := (((c0.set (o := 0) (by show 0 < 1; decide) (.slice none 0 0)).other (p := ⟨w.heap.size + 1, 0, none⟩) n01 _).other (p := ⟨w.heap.size + 1, 1, none⟩) n01 _).other (p := ⟨w.heap.size + 1, 2, none⟩) n01 _
    have e1 : CL ((((w0.setCell ⟨w.heap.size, 0, none⟩ (.slice none 0 0)).setCell ⟨w.heap.size + 1, 0, none⟩ (.int .i64 100)).setCell ⟨w.heap.size + 1, 1, none⟩ (.int .i64 0)).setCell ⟨w.heap.size + 1, 2, none⟩ (.int .i64 0)) (w.heap.size + 1) [.int .i64 100, .int .i64 0, .int .i64 0] := (((c1.other (p := ⟨w.heap.size, 0, none⟩) n10 (.slice none 0 0)).set (o := 0) (by show 0 < 3; decide) (.int .i64 100)).set (o := 1) (by show 1 < 3; decide) (.int .i64 0)).set (o := 2) (by show 2 < 3; decide) (.int .i64 0)
    have kk : Keeps (fun k => k = w.heap.size ∨ k = w.heap.size + 1) w0 ((((w0.setCell ⟨w.heap.size, 0, none⟩ (.slice none 0 0)).setCell ⟨w.heap.size + 1, 0, none⟩ (.int .i64 100)).setCell ⟨w.heap.size + 1, 1, none⟩ (.int .i64 0)).setCell ⟨w.heap.size + 1, 2, none⟩ (.int .i64 0)) := ((((Keeps.refl _ w0).setCell (p := ⟨w.heap.size, 0, none⟩) (fun _ => .inl rfl) _).setCell (p := ⟨w.heap.size + 1, 0, none⟩) (fun _ => .inr rfl) _).setCell (p := ⟨w.heap.size + 1, 1, none⟩) (fun _ => .inr rfl) _).setCell (p := ⟨w.heap.size + 1, 2, none⟩) (fun _ => .inr rfl) _
    generalize ((((w0.setCell ⟨w.heap.size, 0, none⟩ (.slice none 0 0)).setCell ⟨w.heap.size + 1, 0, none⟩ (.int .i64 100)).setCell ⟨w.heap.size + 1, 1, none⟩ (.int .i64 0)).setCell ⟨w.heap.size + 1, 2, none⟩ (.int .i64 0)) = W6 at *
    have K6 : Keeps (fun _ => False) w W6 := k0.trans' kk (fun _ _ e => e) (fun i hi e => by omega)
    have x0 := e0.c 0 _ rfl
    have u0 := e1.c 0 _ rfl
    have u1 := e1.c 1 _ rfl
    have u2 := e1.c 2 _ rfl
    refine ⟨.tuple #[.slice none 0 0, .agg #[.int .i64 100, .int .i64 0, .int .i64 0]], ?_, _, rfl, World.ownsRow_nil _ _ _ _, K6, Nat.zero_le _⟩
    refine results_cell2y Tryz.results6 _ _ _ (a := ⟨w.heap.size, 0, none⟩) (b := ⟨w.heap.size + 1, 0, none⟩) rfl rfl ?_ ?_
    · go_simp
    · go_simp
  have hs : s.size ≤ 4096 := by omega
  have hle : decide ((4096 : Int) < (s.size : Int)) = false := by simp; omega
  have hRES : prsR s = match rdR (lns s) 0 ⟨[], 0, fun _ => none, []⟩ with
    | .error e => .error e
    | .ok st => joR st.f st.js st.qs := if_neg hlong
  rw [hRES]
  clear hRES hlong
  obtain ⟨W4, hW4⟩ : ∃ W4, W4 = (w0.alloc (.map #[] 0)).alloc (.cells #[.slice none 0 0, .map (some (w.heap.size + 1 + 1)), .slice none 0 0] 43) := ⟨_, rfl⟩
  have k4 : Keeps (fun _ => False) w0 W4 := by rw [hW4]; exact ks2 w0 _ _
  have c4 : CL W4 (w.heap.size + 1 + 1 + 1) [.slice none 0 0, .map (some (w.heap.size + 1 + 1)), .slice none 0 0] := by
    rw [hW4, ← hz0]; exact made2 w0 [.slice none 0 0, .map (some w0.heap.size), .slice none 0 0] 43 _
  have m4 : SM W4 (w.heap.size + 1 + 1) 0 (fun _ => none) := by
    rw [hW4, ← hz0]
    exact (SM.made w0).keep ((Keeps.refl (fun _ => False) _).alloc _) (fun e => e)
  have hI : RX W4 w0.heap.size (w.heap.size + 1 + 1 + 1) (w.heap.size + 1 + 1) (.slice none 0 0) (.slice none 0 0) [] 0 (fun _ => none) [] := ⟨c4, World.ownsRow_nil _ _ _ _, World.ownsRow_nil _ _ _ _, m4, ⟨by omega, by omega, by omega⟩, ⟨(fun e => by cases e), (fun e => by cases e)⟩, ⟨(fun e => by cases e), (fun e => by cases e)⟩, (fun g e => by cases e)⟩
  have hRd := read_any (w0 := w0) (w := W4) s hs (hT.keep k0) (hNT.keep k0) k4 hI (fun x hx => by have := splitB_size _ s x hx; omega)
  obtain ⟨RR, hRR⟩ : ∃ RR, rdR (lns s) 0 ⟨[], 0, fun _ => none, []⟩ = RR := ⟨_, rfl⟩
  rw [hRR] at hRd ⊢
  rw [hw0] at hW4
  have HW4 : Hid (_ = _) := hW4
  clear hW4 hw0 hI hT hNT c4 k4 hRR
  go_enter_defers Tryz.func6, Tryz.ntmps6
  cases RR with
  | error fl =>
    obtain ⟨fe, fln, fc⟩ := fl
    go_wp2_with fail
    rw [← HW4.out]
    clear HW4
    refine hRd.mono ?_
    clear hRd
    rintro e w5 ⟨rfl, k5⟩
    have d0 := c0.keep (by show 0 < 1; decide) k5 (fun e => e)
    have d1 := c1.keep (by show 0 < 3; decide) k5 (fun e => e)
    have K5 := k0.trans k5
    clear c0 c1 k5
    show bodyPostD Tryz.prog Tryz.f6 _ (Exit.panic _) _ w5
    refine leaves_cons (f := 11) (args := #[.pointer (some ⟨w.heap.size, 0, none⟩), .pointer (some ⟨w.heap.size + 1, 0, none⟩)]) (by simp) (by simp [go_sem]) ?_
    refine (pcatch_fault [] fe fln fc d0 d1 n10).mono ?_
    rintro e u' w6 ⟨rfl, rfl, e0, e1, k6⟩
    have K6 : Keeps (fun _ => False) w w6 := K5.trans' k6 (fun _ _ e => e) (fun i hi e => by omega)
    have x0 := e0.c 0 _ rfl
    have u0 := e1.c 0 _ rfl
    have u1 := e1.c 1 _ rfl
    have u2 := e1.c 2 _ rfl
    refine ⟨.tuple #[.slice none 0 0, .agg #[.int .i64 fe, .int .i64 fln, .int .i64 fc]], ?_, _, rfl, World.ownsRow_nil _ _ _ _, K6, Nat.zero_le _⟩
    refine results_cell2y Tryz.results6 _ _ _ (a := ⟨w.heap.size, 0, none⟩) (b := ⟨w.heap.size + 1, 0, none⟩) rfl rfl ?_ ?_
    · go_simp
    · go_simp
  | ok st =>
    obtain ⟨qs, n, f, js⟩ := st
    obtain ⟨JR, hJR⟩ : ∃ JR, joR f js qs = JR := ⟨_, rfl⟩
    have HJR : Hid (_ = _) := hJR
    clear hJR
    simp only
    rw [HJR.out]
    go_wp2_with fail
    rw [← HW4.out]
    clear HW4
    refine hRd.mono ?_
    clear hRd
    rintro e w4 ⟨rfl, ⟨cv, jv, hI5⟩, hq, hjl, hjs, k4⟩
    simp only at hI5 hq hjl hjs
    have hJ := join_any hI5 hjs hq (by omega)
    rw [HJR.out] at hJ
    have hcb : ∀ i, cv.ownBlock = some i → w0.heap.size ≤ i := fun i e => owns_base hI5.o i e
    clear hjs hjl
    have HQ : Hid (qs.length ≤ 64) := hq
    clear hq
    go_wp2_with fail
    refine hJ.mono ?_
    clear hJ
    cases JR with
    | error fl =>
      obtain ⟨fe, fln, fc⟩ := fl
      rintro e w5 ⟨rfl, k5'⟩
      have k5 : Keeps (fun _ => False) w0 w5 := k4.trans' k5' (fun _ _ e => e) (fun i hi e => by have := hcb i e; omega)
      have d0 := c0.keep (by show 0 < 1; decide) k5 (fun e => e)
      have d1 := c1.keep (by show 0 < 3; decide) k5 (fun e => e)
      have K5 := k0.trans k5
      clear c0 c1 k5
      show bodyPostD Tryz.prog Tryz.f6 _ (Exit.panic _) _ w5
      refine leaves_cons (f := 11) (args := #[.pointer (some ⟨w.heap.size, 0, none⟩), .pointer (some ⟨w.heap.size + 1, 0, none⟩)]) (by simp) (by simp [go_sem]) ?_
      refine (pcatch_fault [] fe fln fc d0 d1 n10).mono ?_
      rintro e u' w6 ⟨rfl, rfl, e0, e1, k6⟩
      have K6 : Keeps (fun _ => False) w w6 := K5.trans' k6 (fun _ _ e => e) (fun i hi e => by omega)
      have x0 := e0.c 0 _ rfl
      have u0 := e1.c 0 _ rfl
      have u1 := e1.c 1 _ rfl
      have u2 := e1.c 2 _ rfl
      refine ⟨.tuple #[.slice none 0 0, .agg #[.int .i64 fe, .int .i64 fln, .int .i64 fc]], ?_, _, rfl, World.ownsRow_nil _ _ _ _, K6, Nat.zero_le _⟩
      refine results_cell2y Tryz.results6 _ _ _ (a := ⟨w.heap.size, 0, none⟩) (b := ⟨w.heap.size + 1, 0, none⟩) rfl rfl ?_ ?_
      · go_simp
      · go_simp
    | ok l =>
      rintro e w5 ⟨rfl, hI6, k5'⟩
      have HL6 : Hid (l.length ≤ 64) := by have h1 := joR_len f js qs l HJR.out; have h2 := HQ.out; show l.length ≤ 64; omega
      clear HJR
      have k5 : Keeps (fun _ => False) w0 w5 := k4.trans' k5' (fun _ _ e => e) (fun i hi e => by have := hcb i e; omega)
      have d0 := c0.keep (by show 0 < 1; decide) k5 (fun e => e)
      have d1 := c1.keep (by show 0 < 3; decide) k5 (fun e => e)
      have K5 := k0.trans k5
      obtain ⟨a, cap, rfl⟩ := slice_of_owns hI6.o
      have hown' : w5.ownsRow w.heap.size 73 11 (.slice a l.length cap) l.length (icl l) := by
        refine ⟨hI6.o.1, ?_⟩
        rcases hI6.o.2 with h | ⟨g, cp, cur, h1, h2, h3⟩
        · exact .inl h
        · exact .inr ⟨g, cp, cur, h1, by omega, h3⟩
      have ob0 : Value.ownBlock (.slice a l.length cap) ≠ some w.heap.size := fun e => by have := owns_base hI6.o _ e; omega
      have ob1 : Value.ownBlock (.slice a l.length cap) ≠ some (w.heap.size + 1) := fun e => by have := owns_base hI6.o _ e; omega
      have r0 := hI6.c.c 0 _ rfl
      have y0 := d0.c 0 _ rfl
      have yz := d0.z 0 (by show 0 < 1; decide)
      have f0 := d1.c 0 _ rfl
      have f1 := d1.c 1 _ rfl
      have f2 := d1.c 2 _ rfl
      have g0 := d1.z 0 (by show 0 < 3; decide)
      have g1 := d1.z 1 (by show 1 < 3; decide)
      have g2 := d1.z 2 (by show 2 < 3; decide)
      clear hI6 hI5 k5 k4 k5' hcb hz0
      go_wp2_with fail
      have e0 : CL ((((w5.setCell ⟨w.heap.size, 0, none⟩ (.slice a l.length cap)).setCell ⟨w.heap.size + 1, 0, none⟩ (.int .i64 0)).setCell ⟨w.heap.size + 1, 1, none⟩ (.int .i64 0)).setCell ⟨w.heap.size + 1, 2, none⟩ (.int .i64 0)) w.heap.size [.slice a l.length cap] := (((d0.set (o := 0) (by show 0 < 1; decide) (.slice a l.length cap)).other (p := ⟨w.heap.size + 1, 0, none⟩) n01 _).other (p := ⟨w.heap.size + 1, 1, none⟩) n01 _).other (p := ⟨w.heap.size + 1, 2, none⟩) n01 _
      have e1 : CL ((((w5.setCell ⟨w.heap.size, 0, none⟩ (.slice a l.length cap)).setCell ⟨w.heap.size + 1, 0, none⟩ (.int .i64 0)).setCell ⟨w.heap.size + 1, 1, none⟩ (.int .i64 0)).setCell ⟨w.heap.size + 1, 2, none⟩ (.int .i64 0)) (w.heap.size + 1) [.int .i64 0, .int .i64 0, .int .i64 0] := (((d1.other (p := ⟨w.heap.size, 0, none⟩) n10 (.slice a l.length cap)).set (o := 0) (by show 0 < 3; decide) (.int .i64 0)).set (o := 1) (by show 1 < 3; decide) (.int .i64 0)).set (o := 2) (by show 2 < 3; decide) (.int .i64 0)
      have kk : Keeps (fun k => k = w.heap.size ∨ k = w.heap.size + 1) w5 ((((w5.setCell ⟨w.heap.size, 0, none⟩ (.slice a l.length cap)).setCell ⟨w.heap.size + 1, 0, none⟩ (.int .i64 0)).setCell ⟨w.heap.size + 1, 1, none⟩ (.int .i64 0)).setCell ⟨w.heap.size + 1, 2, none⟩ (.int .i64 0)) := ((((Keeps.refl _ w5).setCell (p := ⟨w.heap.size, 0, none⟩) (fun _ => .inl rfl) _).setCell (p := ⟨w.heap.size + 1, 0, none⟩) (fun _ => .inr rfl) _).setCell (p := ⟨w.heap.size + 1, 1, none⟩) (fun _ => .inr rfl) _).setCell (p := ⟨w.heap.size + 1, 2, none⟩) (fun _ => .inr rfl) _
      generalize ((((w5.setCell ⟨w.heap.size, 0, none⟩ (.slice a l.length cap)).setCell ⟨w.heap.size + 1, 0, none⟩ (.int .i64 0)).setCell ⟨w.heap.size + 1, 1, none⟩ (.int .i64 0)).setCell ⟨w.heap.size + 1, 2, none⟩ (.int .i64 0)) = W6 at *
      have K6 : Keeps (fun _ => False) w W6 := K5.trans' kk (fun _ _ e => e) (fun i hi e => by omega)
      have x0 := e0.c 0 _ rfl
      have u0 := e1.c 0 _ rfl
      have u1 := e1.c 1 _ rfl
      have u2 := e1.c 2 _ rfl
      have hown6 := kk.owns hown' (fun g hg e => e.elim (fun e => ob0 (e ▸ hg)) (fun e => ob1 (e ▸ hg)))
      refine leaves_cons (f := 11) (args := #[.pointer (some ⟨w.heap.size, 0, none⟩), .pointer (some ⟨w.heap.size + 1, 0, none⟩)]) (by simp) (by simp [go_sem]) ?_
      refine (pcatch_idle _ _ _).mono ?_
      rintro e u' w'' ⟨rfl, rfl, e2⟩
      subst w''
      refine ⟨.tuple #[.slice a l.length cap, .agg #[.int .i64 0, .int .i64 0, .int .i64 0]], ?_, _, rfl, hown6, K6, HL6.out⟩
      refine results_cell2y Tryz.results6 _ _ _ (a := ⟨w.heap.size, 0, none⟩) (b := ⟨w.heap.size + 1, 0, none⟩) rfl rfl ?_ ?_
      · go_simp
      · go_simp
end Go.Proofs.YtclednbclgkdaaaGreatDoor
