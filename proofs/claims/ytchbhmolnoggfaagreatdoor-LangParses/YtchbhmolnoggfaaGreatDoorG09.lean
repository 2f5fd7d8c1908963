import Derived.Test.YtchbhmolnoggfaaGreatDoorG08
import Derived.Laws.OwnMore
namespace Go.Proofs.YtchbhmolnoggfaaGreatDoor
open Go.RowKit Go.Deep Go.ChangeShapes Go.WideShapes Go.ChangeAt
attribute [local go_sem] Oper.semAt_some run_store_nf run_store_f
def joR (f : ByteArray → Option Nat) : List (Nat × Pc) → List Ins → Except Flt (List Ins)
  | [], qs => .ok qs
  | x :: r, qs => match f x.2.t with
    | none => .error (107, x.2.ln, x.2.col)
    | some v => joR f r (qs.set x.1 { qs.getD x.1 ins0 with to := (v : Int) })
theorem icl_cons (q : Ins) (l : List Ins) : icl (q :: l) = q.cells ++ icl l := by unfold icl; rw [List.flatMap_cons]
theorem icl_set : ∀ (l : List Ins) (p : Nat) (v : Int), p < l.length → icl (l.set p { l.getD p ins0 with to := v }) = (icl l).set (p * 11 + 10) (.int .i64 v)
  | [], p, v, h => absurd h (Nat.not_lt_zero _)
  | q :: l, 0, v, h => by
    obtain ⟨cd, dst, oR, oN, xR, xN, yR, yN, op, rel, to⟩ := q
    rfl
  | q :: l, p + 1, v, h => by
    have i := icl_set l p v (by simpa using h)
    have hl : q.cells.length = 11 := rfl
    rw [List.set_cons_succ, icl_cons, icl_cons]
    have e : (q :: l).getD (p + 1) ins0 = l.getD p ins0 := rfl
    rw [e, i, show (p + 1) * 11 + 10 = q.cells.length + (p * 11 + 10) by rw [hl]; omega, List.set_append_right _ _ (by omega), Nat.add_sub_cancel_left]
theorem jcl_get : ∀ (l : List (Nat × Pc)) (i c : Nat) (v : Value) (x : Nat × Pc), l[i]? = some x → ([.int .i64 (x.1 : Int), .string x.2.t, .int .i64 x.2.ln, .int .i64 x.2.col] : List Value)[c]? = some v → (jcl l)[i * 4 + c]? = some v
  | [], i, c, v, x, h, _ => by simp at h
  | y :: l, 0, c, v, x, h, hv => by
    have h : y = x := by simpa using h
    subst h
    have hc : c < 4 := (List.getElem?_eq_some_iff.1 hv).1
    show ((jcl (y :: l)))[0 * 4 + c]? = _
    unfold jcl
    rw [List.flatMap_cons, List.getElem?_append_left (by simpa using hc)]
    simpa using hv
  | y :: l, i + 1, c, v, x, h, hv => by
    have := jcl_get l i c v x (by simpa using h) hv
    unfold jcl at this ⊢
    rw [List.flatMap_cons, List.getElem?_append_right (by simp; omega)]
    rw [show (i + 1) * 4 + c - ([Value.int .i64 (y.1 : Int), .string y.2.t, .int .i64 y.2.ln, .int .i64 y.2.col] : List Value).length = i * 4 + c by simp; omega]
    exact this
theorem iJm : (Tryz.prog.info? 79).map (·.size) = some 4 := by kernel_rfl
def JoP (w0 w : World) (R mb : Nat) (cv jv : Value) (n : Nat) (f : ByteArray → Option Nat) (js : List (Nat × Pc)) (RES : Except Flt (List Ins)) (e : Ending) (w' : World) : Prop := match RES with
  | .error fl => e = pan fl ∧ Keeps (fun k => cv.ownBlock = some k) w w'
  | .ok qs => e = .returned (.tuple #[]) ∧ RX w' w0.heap.size R mb cv jv qs n f js ∧ Keeps (fun k => cv.ownBlock = some k) w w'
set_option maxHeartbeats 1000000 in
set_option maxRecDepth 1000000 in
theorem join_any {w0 w : World} {R mb n : Nat} {cv jv : Value} {qs : List Ins} {f : ByteArray → Option Nat} {js : List (Nat × Pc)} (hI : RX w w0.heap.size R mb cv jv qs n f js) (hjs : ∀ x ∈ js, x.1 < qs.length ∧ x.2.t.size ≤ 4096) (hq : qs.length ≤ 64) (hjl : js.length ≤ 5000) : Calls Tryz.prog 12 #[.pointer (some ⟨R, 0, none⟩)] w (JoP w0 w R mb cv jv n f js (joR f js qs)) := by
  obtain ⟨RES, hRES⟩ : ∃ RES, joR f js qs = RES := ⟨_, rfl⟩
  rw [hRES]
  have HQ : Hid (qs.length ≤ 64) := hq
  clear hq
  have c2 := hI.c.c 2 _ rfl
  obtain ⟨aj, capj, rfl⟩ := slice_of_owns hI.j
  obtain ⟨ac, capc, rfl⟩ := slice_of_owns hI.o
  obtain ⟨N, hN⟩ : ∃ N, qs.length = N := ⟨_, rfl⟩
  obtain ⟨M, hM⟩ : ∃ M, js.length = M := ⟨_, rfl⟩
  rw [hN] at HQ hI hjs
  rw [hM] at hI c2 hjl
  rw [hN, hM]
  go_enter Tryz.func12, Tryz.ntmps12
  go_wp2_with fail
  go_loopw [11] (fun iv Wr => ∃ (k : Nat) (qs' : List Ins), iv = .int .i64 (k : Int) ∧ k ≤ M ∧ Hid (joR f (js.drop k) qs' = RES) ∧ RX Wr w0.heap.size R mb (.slice ac N capc) (.slice aj M capj) qs' n f js ∧ Hid (qs'.length = N) ∧ Keeps (fun k => Value.ownBlock (.slice ac N capc) = some k) w Wr) (fun iv _ => M - (intOf iv).toNat)
  case atStart => exact ⟨0, qs, rfl, Nat.zero_le _, hRES, hI, hN, Keeps.refl _ _⟩
  case round =>
    clear c2
    obtain ⟨k, qs', rfl, hk, HM, hI', HN, kr⟩ := hrel
    by_cases hlt : k < M
    · have hltI : decide ((k : Int) < (M : Int)) = true := by simp; omega
      have hltJ : (k : Int) < (M : Int) := by omega
      have hk0 : (0 : Int) ≤ (k : Int) := by omega
      have hwk : IntKind.i64.wrap ((k : Int) + 1) = (k : Int) + 1 := by rw [IntKind.wrap_i64]; omega
      obtain ⟨x, hx⟩ : ∃ x, js[k]? = some x := ⟨_, List.getElem?_eq_getElem (by omega)⟩
      have hxm := hjs x (List.mem_of_getElem? hx)
      have e3 : js.drop k = x :: js.drop (k + 1) := by
        obtain ⟨hk, e⟩ := List.getElem?_eq_some_iff.1 hx
        rw [List.drop_eq_getElem_cons hk, e]
      rw [e3] at HM
      obtain ⟨jb, hjb⟩ : ∃ jb, aj = some ⟨jb, 0, none⟩ := by
        rcases hI'.j.2 with ⟨h1, h2⟩ | ⟨g, cap, cur, h1, _⟩
        · injection h1 with h1 h3 _; omega
        · injection h1 with h1 _ _; exact ⟨g, h1⟩
      subst hjb
      obtain ⟨pl, pt, pln, pcol⟩ := x
      have hR0 : (loadVar 79 ⟨jb, k * 4, none⟩).run Tryz.prog wr = .ok (.agg #[.int .i64 (pl : Int), .string pt, .int .i64 pln, .int .i64 pcol]) wr := run_loadVar_mid wr jb (k * 4) 79 [.int .i64 (pl : Int), .string pt, .int .i64 pln, .int .i64 pcol] _ (fun c v hv => by
        have := hI'.j.cells (g := jb) rfl (k * 4 + c) v (jcl_get js k c v _ hx hv)
        rw [add_at, Nat.zero_add] at this
        exact this) Tryz.underlying79 rfl (by rw [iJm]; rfl)
      obtain ⟨W4, hW4⟩ : ∃ W4, W4 = wr.alloc (.cells #[.int .i64 (pl : Int), .string pt, .int .i64 pln, .int .i64 pcol] 79) := ⟨_, rfl⟩
      have k4 : Keeps (fun _ => False) wr W4 := by rw [hW4]; exact (Keeps.refl _ wr).alloc _
      have c4 : CL W4 wr.heap.size [.int .i64 (pl : Int), .string pt, .int .i64 pln, .int .i64 pcol] := by rw [hW4]; exact CL.made wr _ _
      have x0 := c4.c 0 _ rfl
      have x1 := c4.c 1 _ rfl
      have hI4 := hI'.keep k4
      have r1 := hI4.c.c 1 _ rfl
      have r0 := hI4.c.c 0 _ rfl
      simp only at hxm
      have hz : Sz pt := by unfold Sz; omega
      have HW4 : Hid (_ = _) := hW4
      clear hW4 hx e3
      have HM2 : (match f pt with | none => .error (107, pln, pcol) | some v => joR f (js.drop (k + 1)) (qs'.set pl { qs'.getD pl ins0 with to := (v : Int) })) = RES := HM.out
      cases hfp : f pt with
      | none =>
        rw [hfp] at HM2
        have HE : Hid (RES = .error (107, pln, pcol)) := HM2.symm
        have hLv := fun W => leave_any W pt pln pcol 107
        have KW : Keeps (fun k => Value.ownBlock (.slice ac N capc) = some k) w W4 := kr.trans (k4.mono (fun _ _ e => e.elim))
        clear HM HM2
        go_wp2_with (refine wpList_load_run rfl 79 _ rfl ⟨jb, k * 4, none⟩ rfl _ hR0 ?_; clear hR0)
        rw [← HW4.out]
        clear HW4
        refine wp_region_held_drew (S := fun w' => Keeps (fun _ => False) W4 w') (by kernel_rfl) (Keeps.refl _ W4).drew (fun hHeld => ?_)
        refine wpAnyH_take (i := 0) (v := ?_) rfl (by kernel_rfl) (by kernel_rfl) (by kernel_rfl) (fun _ _ _ h => h) (Or.inl ⟨by rfl, ?_⟩) (by assumption) ?_
        rotate_left
        · intro wx hSw;  go_simp <;> with_reducible rfl
        (try simp only [List.getElem_toArray]); (try simp only [List.getElem_cons_succ]); (try simp only [List.getElem_cons_zero]); (try simp only [Act.put]); (try simp only [List.setIfInBounds_toArray]); (repeat first | simp only [List.set_cons_succ] | simp only [List.set_cons_zero])
        refine wpAnyH_take (i := 1) (v := ?_) rfl (by kernel_rfl) (by kernel_rfl) (by kernel_rfl) (fun _ _ _ h => h) (Or.inl ⟨by rfl, ?_⟩) (by assumption) ?_
        rotate_left
        · intro wx hSw;  go_simp <;> with_reducible rfl
        (try simp only [List.getElem_toArray]); (try simp only [List.getElem_cons_succ]); (try simp only [List.getElem_cons_zero]); (try simp only [Act.put]); (try simp only [List.setIfInBounds_toArray]); (repeat first | simp only [List.set_cons_succ] | simp only [List.set_cons_zero])
        refine wpAnyH_take (i := 2) (v := ?_) rfl (by kernel_rfl) (by kernel_rfl) (by kernel_rfl) (fun _ _ _ h => h) (Or.inl ⟨by rfl, ?_⟩) (by assumption) ?_
        rotate_left
        · intro wx hSw;  go_simp <;> with_reducible rfl
        (try simp only [List.getElem_toArray]); (try simp only [List.getElem_cons_succ]); (try simp only [List.getElem_cons_zero]); (try simp only [Act.put]); (try simp only [List.setIfInBounds_toArray]); (repeat first | simp only [List.set_cons_succ] | simp only [List.set_cons_zero])
        refine wpAnyH_take (i := 3) (v := ?_) rfl (by kernel_rfl) (by kernel_rfl) (by kernel_rfl) (fun _ _ _ h => h) (Or.inl ⟨by rfl, ?_⟩) (by assumption) ?_
        rotate_left
        · intro wx hSw; have q1 := hSw.cell r1 (fun e => e);  go_simp <;> with_reducible rfl
        (try simp only [List.getElem_toArray]); (try simp only [List.getElem_cons_succ]); (try simp only [List.getElem_cons_zero]); (try simp only [Act.put]); (try simp only [List.setIfInBounds_toArray]); (repeat first | simp only [List.set_cons_succ] | simp only [List.set_cons_zero])
        refine wpAnyH_take (i := 4) (v := ?_) rfl (by kernel_rfl) (by kernel_rfl) (by kernel_rfl) (fun _ _ _ h => h) (Or.inl ⟨by rfl, ?_⟩) (by assumption) ?_
        rotate_left
        · intro wx hSw;  go_simp <;> with_reducible rfl
        (try simp only [List.getElem_toArray]); (try simp only [List.getElem_cons_succ]); (try simp only [List.getElem_cons_zero]); (try simp only [Act.put]); (try simp only [List.setIfInBounds_toArray]); (repeat first | simp only [List.set_cons_succ] | simp only [List.set_cons_zero])
        refine wpAnyH_take (i := 5) (v := ?_) rfl (by kernel_rfl) (by kernel_rfl) (by kernel_rfl) (fun _ _ _ h => h) (Or.inl ⟨by rfl, ?_⟩) (by assumption) ?_
        rotate_left
        · intro wx hSw;  go_simp <;> with_reducible rfl
        (try simp only [List.getElem_toArray]); (try simp only [List.getElem_cons_succ]); (try simp only [List.getElem_cons_zero]); (try simp only [Act.put]); (try simp only [List.setIfInBounds_toArray]); (repeat first | simp only [List.set_cons_succ] | simp only [List.set_cons_zero])
        refine wpAnyH_take (i := 6) (v := ?_) rfl (by kernel_rfl) (by kernel_rfl) (by kernel_rfl) (fun _ _ _ h => h) (Or.inl ⟨by rfl, ?_⟩) (by assumption) ?_
        rotate_left
        · intro wx hSw; have q2 := hSw.cell x1 (fun e => e);  go_simp <;> with_reducible rfl
        (try simp only [List.getElem_toArray]); (try simp only [List.getElem_cons_succ]); (try simp only [List.getElem_cons_zero]); (try simp only [Act.put]); (try simp only [List.setIfInBounds_toArray]); (repeat first | simp only [List.set_cons_succ] | simp only [List.set_cons_zero])
        refine wpAnyH_take (i := 7) (v := ?_) rfl (by kernel_rfl) (by kernel_rfl) (by kernel_rfl) (fun _ _ _ h => h) (Or.inl ⟨by rfl, ?_⟩) (by assumption) ?_
        rotate_left
        · intro wx hSw; have hl := (hI4.keep hSw).m.look (k := pt) hz; rw [hfp] at hl; simp only [Option.getD_none, Option.isSome_none] at hl;  go_simp <;> with_reducible rfl
        (try simp only [List.getElem_toArray]); (try simp only [List.getElem_cons_succ]); (try simp only [List.getElem_cons_zero]); (try simp only [Act.put]); (try simp only [List.setIfInBounds_toArray]); (repeat first | simp only [List.set_cons_succ] | simp only [List.set_cons_zero])
        refine wpAnyH_take (i := 8) (v := ?_) rfl (by kernel_rfl) (by kernel_rfl) (by kernel_rfl) (fun _ _ _ h => h) (Or.inl ⟨by rfl, ?_⟩) (by assumption) ?_
        rotate_left
        · intro wx hSw;  go_simp <;> with_reducible rfl
        (try simp only [List.getElem_toArray]); (try simp only [List.getElem_cons_succ]); (try simp only [List.getElem_cons_zero]); (try simp only [Act.put]); (try simp only [List.setIfInBounds_toArray]); (repeat first | simp only [List.set_cons_succ] | simp only [List.set_cons_zero])
        refine wpAnyH_take (i := 9) (v := ?_) rfl (by kernel_rfl) (by kernel_rfl) (by kernel_rfl) (fun _ _ _ h => h) (Or.inl ⟨by rfl, ?_⟩) (by assumption) ?_
        rotate_left
        · intro wx hSw;  go_simp <;> with_reducible rfl
        (try simp only [List.getElem_toArray]); (try simp only [List.getElem_cons_succ]); (try simp only [List.getElem_cons_zero]); (try simp only [Act.put]); (try simp only [List.setIfInBounds_toArray]); (repeat first | simp only [List.set_cons_succ] | simp only [List.set_cons_zero])
        refine wpAnyH_take (i := 10) (v := ?_) rfl (by kernel_rfl) (by kernel_rfl) (by kernel_rfl) (fun _ _ _ h => h) (Or.inl ⟨by rfl, ?_⟩) (by assumption) ?_
        rotate_left
        · intro wx hSw;  go_simp <;> with_reducible rfl
        (try simp only [List.getElem_toArray]); (try simp only [List.getElem_cons_succ]); (try simp only [List.getElem_cons_zero]); (try simp only [Act.put]); (try simp only [List.setIfInBounds_toArray]); (repeat first | simp only [List.set_cons_succ] | simp only [List.set_cons_zero])
        refine wpAnyH_take (i := 11) (v := ?_) rfl (by kernel_rfl) (by kernel_rfl) (by kernel_rfl) (fun _ _ _ h => h) (Or.inl ⟨by rfl, ?_⟩) (by assumption) ?_
        rotate_left
        · intro wx hSw;  go_simp <;> with_reducible rfl
        (try simp only [List.getElem_toArray]); (try simp only [List.getElem_cons_succ]); (try simp only [List.getElem_cons_zero]); (try simp only [Act.put]); (try simp only [List.setIfInBounds_toArray]); (repeat first | simp only [List.set_cons_succ] | simp only [List.set_cons_zero])
        refine wpAnyH_take (i := 12) (v := ?_) rfl (by kernel_rfl) (by kernel_rfl) (by kernel_rfl) (fun _ _ _ h => h) (Or.inl ⟨by rfl, ?_⟩) (by assumption) ?_
        rotate_left
        · intro wx hSw;  go_simp <;> with_reducible rfl
        (try simp only [List.getElem_toArray]); (try simp only [List.getElem_cons_succ]); (try simp only [List.getElem_cons_zero]); (try simp only [Act.put]); (try simp only [List.setIfInBounds_toArray]); (repeat first | simp only [List.set_cons_succ] | simp only [List.set_cons_zero])
        refine wpAnyH_done (by kernel_rfl) ?_ _
        have kd : Keeps (fun _ => False) W4 W4.drew := (Keeps.refl _ W4).drew
        have hRL : (loadVar 73 ⟨wr.heap.size, 1, none⟩).run Tryz.prog W4.drew = .ok (.agg #[.string pt, .int .i64 pln, .int .i64 pcol]) W4.drew := run_pcAt (W := W4.drew) (b := wr.heap.size) (o := 1) (p := ⟨pt, pln, pcol⟩) (fun c v hv => by
          have := (c4.keep (by show 0 < 4; decide) kd (fun e => e)).c (1 + c) v (by
            have hc : c < 3 := (List.getElem?_eq_some_iff.1 hv).1
            rcases (by omega : c = 0 ∨ c = 1 ∨ c = 2) with rfl | rfl | rfl <;> exact hv)
          exact this)
        go_wp2_with (first | (refine wpList_load_run rfl 73 _ rfl ⟨wr.heap.size, 1, none⟩ rfl _ hRL ?_; clear hRL) | (go_at_call 23; refine (hLv _).mono ?_; clear hLv; rintro e w7 ⟨rfl, k7⟩))
        exact ⟨rfl, by rw [HE.out]; exact ⟨rfl, KW.trans ((kd.trans k7).mono (fun _ _ e => e.elim))⟩⟩
      | some v =>
        rw [hfp] at HM2
        have HM3 : Hid (joR f (js.drop (k + 1)) (qs'.set pl { qs'.getD pl ins0 with to := (v : Int) }) = RES) := HM2
        obtain ⟨cb, hcb⟩ : ∃ cb, ac = some ⟨cb, 0, none⟩ := by
          rcases hI'.o.2 with ⟨h1, h2⟩ | ⟨g, cap, cur, h1, _⟩
          · injection h1 with h1 h3 _; omega
          · injection h1 with h1 _ _; exact ⟨g, h1⟩
        subst hcb
        have hpN : pl < qs'.length := by rw [HN.out]; exact hxm.1
        have hp0 : (0 : Int) ≤ (pl : Int) := by omega
        have hp1 : (pl : Int) < (N : Int) := by omega
        have hilen : (icl qs').length = qs'.length * 11 := hI'.o.1
        have KC : Keeps (fun k => Value.ownBlock (.slice (some ⟨cb, 0, none⟩) N capc) = some k) w W4 := kr.trans (k4.mono (fun _ _ e => e.elim))
        have hstd := hI4.o
        have nR : R ≠ cb := fun e => hI'.d1.1 (by rw [e]; rfl)
        have nW : wr.heap.size ≠ cb := fun e => by have := owns_lt' hI'.o cb rfl; omega
        clear HM HM2
        go_wp2_with (refine wpList_load_run rfl 79 _ rfl ⟨jb, k * 4, none⟩ rfl _ hR0 ?_; clear hR0)
        rw [← HW4.out]
        clear HW4
        refine wp_region_held_drew (S := fun w' => Keeps (fun _ => False) W4 w') (by kernel_rfl) (Keeps.refl _ W4).drew (fun hHeld => ?_)
        refine wpAnyH_take (i := 0) (v := ?_) rfl (by kernel_rfl) (by kernel_rfl) (by kernel_rfl) (fun _ _ _ h => h) (Or.inl ⟨by rfl, ?_⟩) (by assumption) ?_
        rotate_left
        · intro wx hSw;  go_simp <;> with_reducible rfl
        (try simp only [List.getElem_toArray]); (try simp only [List.getElem_cons_succ]); (try simp only [List.getElem_cons_zero]); (try simp only [Act.put]); (try simp only [List.setIfInBounds_toArray]); (repeat first | simp only [List.set_cons_succ] | simp only [List.set_cons_zero])
        refine wpAnyH_take (i := 1) (v := ?_) rfl (by kernel_rfl) (by kernel_rfl) (by kernel_rfl) (fun _ _ _ h => h) (Or.inl ⟨by rfl, ?_⟩) (by assumption) ?_
        rotate_left
        · intro wx hSw;  go_simp <;> with_reducible rfl
        (try simp only [List.getElem_toArray]); (try simp only [List.getElem_cons_succ]); (try simp only [List.getElem_cons_zero]); (try simp only [Act.put]); (try simp only [List.setIfInBounds_toArray]); (repeat first | simp only [List.set_cons_succ] | simp only [List.set_cons_zero])
        refine wpAnyH_take (i := 2) (v := ?_) rfl (by kernel_rfl) (by kernel_rfl) (by kernel_rfl) (fun _ _ _ h => h) (Or.inl ⟨by rfl, ?_⟩) (by assumption) ?_
        rotate_left
        · intro wx hSw;  go_simp <;> with_reducible rfl
        (try simp only [List.getElem_toArray]); (try simp only [List.getElem_cons_succ]); (try simp only [List.getElem_cons_zero]); (try simp only [Act.put]); (try simp only [List.setIfInBounds_toArray]); (repeat first | simp only [List.set_cons_succ] | simp only [List.set_cons_zero])
        refine wpAnyH_take (i := 3) (v := ?_) rfl (by kernel_rfl) (by kernel_rfl) (by kernel_rfl) (fun _ _ _ h => h) (Or.inl ⟨by rfl, ?_⟩) (by assumption) ?_
        rotate_left
        · intro wx hSw; have q1 := hSw.cell r1 (fun e => e);  go_simp <;> with_reducible rfl
        (try simp only [List.getElem_toArray]); (try simp only [List.getElem_cons_succ]); (try simp only [List.getElem_cons_zero]); (try simp only [Act.put]); (try simp only [List.setIfInBounds_toArray]); (repeat first | simp only [List.set_cons_succ] | simp only [List.set_cons_zero])
        refine wpAnyH_take (i := 4) (v := ?_) rfl (by kernel_rfl) (by kernel_rfl) (by kernel_rfl) (fun _ _ _ h => h) (Or.inl ⟨by rfl, ?_⟩) (by assumption) ?_
        rotate_left
        · intro wx hSw;  go_simp <;> with_reducible rfl
        (try simp only [List.getElem_toArray]); (try simp only [List.getElem_cons_succ]); (try simp only [List.getElem_cons_zero]); (try simp only [Act.put]); (try simp only [List.setIfInBounds_toArray]); (repeat first | simp only [List.set_cons_succ] | simp only [List.set_cons_zero])
        refine wpAnyH_take (i := 5) (v := ?_) rfl (by kernel_rfl) (by kernel_rfl) (by kernel_rfl) (fun _ _ _ h => h) (Or.inl ⟨by rfl, ?_⟩) (by assumption) ?_
        rotate_left
        · intro wx hSw;  go_simp <;> with_reducible rfl
        (try simp only [List.getElem_toArray]); (try simp only [List.getElem_cons_succ]); (try simp only [List.getElem_cons_zero]); (try simp only [Act.put]); (try simp only [List.setIfInBounds_toArray]); (repeat first | simp only [List.set_cons_succ] | simp only [List.set_cons_zero])
        refine wpAnyH_take (i := 6) (v := ?_) rfl (by kernel_rfl) (by kernel_rfl) (by kernel_rfl) (fun _ _ _ h => h) (Or.inl ⟨by rfl, ?_⟩) (by assumption) ?_
        rotate_left
        · intro wx hSw; have q2 := hSw.cell x1 (fun e => e);  go_simp <;> with_reducible rfl
        (try simp only [List.getElem_toArray]); (try simp only [List.getElem_cons_succ]); (try simp only [List.getElem_cons_zero]); (try simp only [Act.put]); (try simp only [List.setIfInBounds_toArray]); (repeat first | simp only [List.set_cons_succ] | simp only [List.set_cons_zero])
        refine wpAnyH_take (i := 7) (v := ?_) rfl (by kernel_rfl) (by kernel_rfl) (by kernel_rfl) (fun _ _ _ h => h) (Or.inl ⟨by rfl, ?_⟩) (by assumption) ?_
        rotate_left
        · intro wx hSw; have hl := (hI4.keep hSw).m.look (k := pt) hz; rw [hfp] at hl; simp only [Option.getD_some, Option.isSome_some] at hl;  go_simp <;> with_reducible rfl
        (try simp only [List.getElem_toArray]); (try simp only [List.getElem_cons_succ]); (try simp only [List.getElem_cons_zero]); (try simp only [Act.put]); (try simp only [List.setIfInBounds_toArray]); (repeat first | simp only [List.set_cons_succ] | simp only [List.set_cons_zero])
        refine wpAnyH_take (i := 8) (v := ?_) rfl (by kernel_rfl) (by kernel_rfl) (by kernel_rfl) (fun _ _ _ h => h) (Or.inl ⟨by rfl, ?_⟩) (by assumption) ?_
        rotate_left
        · intro wx hSw;  go_simp <;> with_reducible rfl
        (try simp only [List.getElem_toArray]); (try simp only [List.getElem_cons_succ]); (try simp only [List.getElem_cons_zero]); (try simp only [Act.put]); (try simp only [List.setIfInBounds_toArray]); (repeat first | simp only [List.set_cons_succ] | simp only [List.set_cons_zero])
        refine wpAnyH_take (i := 9) (v := ?_) rfl (by kernel_rfl) (by kernel_rfl) (by kernel_rfl) (fun _ _ _ h => h) (Or.inl ⟨by rfl, ?_⟩) (by assumption) ?_
        rotate_left
        · intro wx hSw;  go_simp <;> with_reducible rfl
        (try simp only [List.getElem_toArray]); (try simp only [List.getElem_cons_succ]); (try simp only [List.getElem_cons_zero]); (try simp only [Act.put]); (try simp only [List.setIfInBounds_toArray]); (repeat first | simp only [List.set_cons_succ] | simp only [List.set_cons_zero])
        refine wpAnyH_take (i := 10) (v := ?_) rfl (by kernel_rfl) (by kernel_rfl) (by kernel_rfl) (fun _ _ _ h => h) (Or.inl ⟨by rfl, ?_⟩) (by assumption) ?_
        rotate_left
        · intro wx hSw;  go_simp <;> with_reducible rfl
        (try simp only [List.getElem_toArray]); (try simp only [List.getElem_cons_succ]); (try simp only [List.getElem_cons_zero]); (try simp only [Act.put]); (try simp only [List.setIfInBounds_toArray]); (repeat first | simp only [List.set_cons_succ] | simp only [List.set_cons_zero])
        refine wpAnyH_take (i := 11) (v := ?_) rfl (by kernel_rfl) (by kernel_rfl) (by kernel_rfl) (fun _ _ _ h => h) (Or.inl ⟨by rfl, ?_⟩) (by assumption) ?_
        rotate_left
        · intro wx hSw;  go_simp <;> with_reducible rfl
        (try simp only [List.getElem_toArray]); (try simp only [List.getElem_cons_succ]); (try simp only [List.getElem_cons_zero]); (try simp only [Act.put]); (try simp only [List.setIfInBounds_toArray]); (repeat first | simp only [List.set_cons_succ] | simp only [List.set_cons_zero])
        refine wpAnyH_take (i := 12) (v := ?_) rfl (by kernel_rfl) (by kernel_rfl) (by kernel_rfl) (fun _ _ _ h => h) (Or.inl ⟨by rfl, ?_⟩) (by assumption) ?_
        rotate_left
        · intro wx hSw;  go_simp <;> with_reducible rfl
        (try simp only [List.getElem_toArray]); (try simp only [List.getElem_cons_succ]); (try simp only [List.getElem_cons_zero]); (try simp only [Act.put]); (try simp only [List.setIfInBounds_toArray]); (repeat first | simp only [List.set_cons_succ] | simp only [List.set_cons_zero])
        refine wpAnyH_done (by kernel_rfl) ?_ _
        have kd : Keeps (fun _ => False) W4 W4.drew := (Keeps.refl _ W4).drew
        have hID := hI4.keep kd
        have d0 := kd.cell x0 (fun e => e)
        have rr0 := kd.cell r0 (fun e => e)
        go_wp2_with fail
        obtain ⟨VD, hVD⟩ : ∃ VD, VD = W4.drew := ⟨_, rfl⟩
        rw [← hVD] at hID d0 rr0 ⊢
        have kVD : Keeps (fun _ => False) W4 VD := by rw [hVD]; exact kd
        clear hVD
        refine wp_region_held_drew (S := fun w' => Keeps (fun k => k = cb) VD w') (by kernel_rfl) (Keeps.refl _ VD).drew (fun hHeld => ?_)
        refine wpAnyH_take (i := 0) (v := ?_) rfl (by kernel_rfl) (by kernel_rfl) (by kernel_rfl) (fun _ _ _ h => h) (Or.inl ⟨by rfl, ?_⟩) (by assumption) ?_
        rotate_left
        · intro wx hSw;  go_simp <;> with_reducible rfl
        (try simp only [List.getElem_toArray]); (try simp only [List.getElem_cons_succ]); (try simp only [List.getElem_cons_zero]); (try simp only [Act.put]); (try simp only [List.setIfInBounds_toArray]); (repeat first | simp only [List.set_cons_succ] | simp only [List.set_cons_zero])
        refine wpAnyH_take (i := 1) (v := ?_) rfl (by kernel_rfl) (by kernel_rfl) (by kernel_rfl) (fun _ _ _ h => h) (Or.inl ⟨by rfl, ?_⟩) (by assumption) ?_
        rotate_left
        · intro wx hSw;  go_simp <;> with_reducible rfl
        (try simp only [List.getElem_toArray]); (try simp only [List.getElem_cons_succ]); (try simp only [List.getElem_cons_zero]); (try simp only [Act.put]); (try simp only [List.setIfInBounds_toArray]); (repeat first | simp only [List.set_cons_succ] | simp only [List.set_cons_zero])
        refine wpAnyH_take (i := 2) (v := ?_) rfl (by kernel_rfl) (by kernel_rfl) (by kernel_rfl) (fun _ _ _ h => h) (Or.inl ⟨by rfl, ?_⟩) (by assumption) ?_
        rotate_left
        · intro wx hSw;  go_simp <;> with_reducible rfl
        (try simp only [List.getElem_toArray]); (try simp only [List.getElem_cons_succ]); (try simp only [List.getElem_cons_zero]); (try simp only [Act.put]); (try simp only [List.setIfInBounds_toArray]); (repeat first | simp only [List.set_cons_succ] | simp only [List.set_cons_zero])
        refine wpAnyH_take (i := 3) (v := ?_) rfl (by kernel_rfl) (by kernel_rfl) (by kernel_rfl) (fun _ _ _ h => h) (Or.inl ⟨by rfl, ?_⟩) (by assumption) ?_
        rotate_left
        · intro wx hSw; have q1 := hSw.cell rr0 nR;  go_simp <;> with_reducible rfl
        (try simp only [List.getElem_toArray]); (try simp only [List.getElem_cons_succ]); (try simp only [List.getElem_cons_zero]); (try simp only [Act.put]); (try simp only [List.setIfInBounds_toArray]); (repeat first | simp only [List.set_cons_succ] | simp only [List.set_cons_zero])
        refine wpAnyH_take (i := 4) (v := ?_) rfl (by kernel_rfl) (by kernel_rfl) (by kernel_rfl) (fun _ _ _ h => h) (Or.inl ⟨by rfl, ?_⟩) (by assumption) ?_
        rotate_left
        · intro wx hSw;  go_simp <;> with_reducible rfl
        (try simp only [List.getElem_toArray]); (try simp only [List.getElem_cons_succ]); (try simp only [List.getElem_cons_zero]); (try simp only [Act.put]); (try simp only [List.setIfInBounds_toArray]); (repeat first | simp only [List.set_cons_succ] | simp only [List.set_cons_zero])
        refine wpAnyH_take (i := 5) (v := ?_) rfl (by kernel_rfl) (by kernel_rfl) (by kernel_rfl) (fun _ _ _ h => h) (Or.inl ⟨by rfl, ?_⟩) (by assumption) ?_
        rotate_left
        · intro wx hSw; have q2 := hSw.cell d0 nW;  go_simp <;> with_reducible rfl
        (try simp only [List.getElem_toArray]); (try simp only [List.getElem_cons_succ]); (try simp only [List.getElem_cons_zero]); (try simp only [Act.put]); (try simp only [List.setIfInBounds_toArray]); (repeat first | simp only [List.set_cons_succ] | simp only [List.set_cons_zero])
        refine wpAnyH_take (i := 6) (v := ?_) rfl (by kernel_rfl) (by kernel_rfl) (by kernel_rfl) (fun _ _ _ h => h) (Or.inl ⟨by rfl, ?_⟩) (by assumption) ?_
        rotate_left
        · intro wx hSw;  go_simp <;> with_reducible rfl
        (try simp only [List.getElem_toArray]); (try simp only [List.getElem_cons_succ]); (try simp only [List.getElem_cons_zero]); (try simp only [Act.put]); (try simp only [List.setIfInBounds_toArray]); (repeat first | simp only [List.set_cons_succ] | simp only [List.set_cons_zero])
        refine wpAnyH_take (i := 7) (v := ?_) rfl (by kernel_rfl) (by kernel_rfl) (by kernel_rfl) (fun _ _ _ h => h) (Or.inl ⟨by rfl, ?_⟩) (by assumption) ?_
        rotate_left
        · intro wx hSw;  go_simp <;> with_reducible rfl
        (try simp only [List.getElem_toArray]); (try simp only [List.getElem_cons_succ]); (try simp only [List.getElem_cons_zero]); (try simp only [Act.put]); (try simp only [List.setIfInBounds_toArray]); (repeat first | simp only [List.set_cons_succ] | simp only [List.set_cons_zero])
        refine wpAnyH_take (i := 8) (v := ?_) rfl (by kernel_rfl) (by kernel_rfl) (by kernel_rfl) (fun _ _ _ h => h) (Or.inl ⟨by rfl, ?_⟩) (by assumption) ?_
        rotate_left
        · intro wx hSw;  go_simp <;> with_reducible rfl
        (try simp only [List.getElem_toArray]); (try simp only [List.getElem_cons_succ]); (try simp only [List.getElem_cons_zero]); (try simp only [Act.put]); (try simp only [List.setIfInBounds_toArray]); (repeat first | simp only [List.set_cons_succ] | simp only [List.set_cons_zero])
        have hDD := hID.keep (Keeps.refl (fun _ => False) VD).drew
        have ycell : VD.drew.cell? ⟨cb, pl * 11 + 10, none⟩ = some ((icl qs')[pl * 11 + 10]'(by rw [hilen]; omega)) := by
          have := hDD.o.cells (g := cb) rfl (pl * 11 + 10) _ (List.getElem?_eq_getElem (by rw [hilen]; omega))
          rw [add_at, Nat.zero_add] at this
          exact this
        have yz : VD.drew.frozen? ⟨cb, pl * 11 + 10, none⟩ = false := by
          rcases hDD.o.2 with ⟨h1, h2⟩ | ⟨g, cap, cur, h1, _, hgg, _⟩
          · cases h1
          · injection h1 with h1 _ _
            injection h1 with h1
            injection h1 with h1 _ _
            subst h1
            simp [World.frozen?, hgg]
        refine wpAnyH_one 9 (by kernel_rfl) rfl rfl ?_
        go_simp
        refine ⟨hHeld.setCell (fun _ => rfl) _, fun hS2 => ?_⟩
        (try simp only [List.getElem_toArray]); (try simp only [List.getElem_cons_succ]); (try simp only [List.getElem_cons_zero]); (try simp only [Act.put]); (try simp only [List.setIfInBounds_toArray]); (repeat first | simp only [List.set_cons_succ] | simp only [List.set_cons_zero])
        refine wpAnyH_done (by kernel_rfl) ?_ _
        have hlen' : (qs'.set pl { qs'.getD pl ins0 with to := (v : Int) }).length = qs'.length := List.length_set
        have hnew : (VD.drew.setCell ⟨cb, pl * 11 + 10, none⟩ (.int .i64 (v : Int))).ownsRow w0.heap.size 65 11 (.slice (some ⟨cb, 0, none⟩) N capc) (qs'.set pl { qs'.getD pl ins0 with to := (v : Int) }).length (icl (qs'.set pl { qs'.getD pl ins0 with to := (v : Int) })) := by
          rw [icl_set qs' pl (v : Int) hpN, hlen']
          have ho := hDD.o
          rw [HN.out] at ho ⊢
          exact (ho.stored (pl * 11 + 10) (.int .i64 (v : Int))).1
        have kS : Keeps (fun k => k = cb) VD.drew (VD.drew.setCell ⟨cb, pl * 11 + 10, none⟩ (.int .i64 (v : Int))) := (Keeps.refl _ _).setA _ _
        have hI6 : RX (VD.drew.setCell ⟨cb, pl * 11 + 10, none⟩ (.int .i64 (v : Int))) w0.heap.size R mb (.slice (some ⟨cb, 0, none⟩) N capc) (.slice (some ⟨jb, 0, none⟩) M capj) (qs'.set pl { qs'.getD pl ins0 with to := (v : Int) }) n f js :=
          ⟨hDD.c.keep (by show 0 < 3; decide) kS nR, hnew, kS.owns hDD.j (fun g hg e => hI'.d3 cb rfl (by rw [← (show g = cb from e)]; exact hg)), hDD.m.keep kS (fun e => hI'.d1.2 (by rw [show mb = cb from e]; rfl)), hI'.b, hI'.d1, hI'.d2, hI'.d3⟩
        have K6 : Keeps (fun k => Value.ownBlock (.slice (some ⟨cb, 0, none⟩) N capc) = some k) w (VD.drew.setCell ⟨cb, pl * 11 + 10, none⟩ (.int .i64 (v : Int))) := (KC.trans (kVD.mono (fun _ _ e => e.elim))).trans (hS2.mono (fun i _ e => by have e : i = cb := e; rw [e]; rfl))
        have HN6 : Hid ((qs'.set pl { qs'.getD pl ins0 with to := (v : Int) }).length = N) := hlen'.trans HN.out
        go_wp2_with fail
        go_roundw
        case rel => exact ⟨k + 1, _, by go_num, by omega, HM3, hI6, HN6, K6⟩
        case measure => simp [intOf]; omega
    · have hltI : decide ((k : Int) < (M : Int)) = false := by simp; omega
      have hE : RES = .ok qs' := by
        have := HM.out
        rw [List.drop_eq_nil_of_le (by omega)] at this
        exact this.symm
      subst hE
      go_wp2_with fail
      go_end0
      exact ⟨rfl, hI', kr⟩
end Go.Proofs.YtchbhmolnoggfaaGreatDoor

