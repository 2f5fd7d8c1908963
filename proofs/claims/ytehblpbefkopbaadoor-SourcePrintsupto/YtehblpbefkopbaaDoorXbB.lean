import Derived.Test.YtehblpbefkopbaaDoorXbA
namespace Go.Proofs.YtehblpbefkopbaaDoor
open Go.RowKit Go.ChangeShapes Go.WideShapes Go.ChangeAt Go.Deep
attribute [local go_sem] Oper.semAt_some run_store_nf run_store_f
theorem run_store_bb {w : World} {b o : Nat} (hc : (w.cell? ⟨b, o, none⟩).isSome = true) (hz : w.frozen? ⟨b, o, none⟩ = false) (x : Bool) : (storeVar 4 ⟨b, o, none⟩ (.bool x)).run Tryd.prog w = .ok () (w.setCell ⟨b, o, none⟩ (.bool x)) := by
  obtain ⟨u, hu⟩ := Option.isSome_iff_exists.1 hc
  go_simp
theorem wpList_store_bb {w : World} {ops : Array Oper} {rest : List Oper} {o : Oper} {a : Act} {Q : Exit → Act → World → Prop} (hgd : o.guard = none) (hd : o.dst = none) (x y : Operand) (ho : o.op = .store 4 x y) (b off : Nat) (hx : a.eval x = .pointer (some ⟨b, off, none⟩)) (z : Bool) (hy : a.eval y = .bool z)
    {l : List Value} (hB : CL w b l) (hl : off < l.length) (h : ∀ w1, CL w1 b (l.set off (.bool z)) → Keeps (fun k => k = b) w w1 → w1.heap.size = w.heap.size → wpList Tryd.prog ops Q rest a w1) : wpList Tryd.prog ops Q (o :: rest) a w :=
  wpList_plain hgd fun _ hK => by
    unfold Oper.wp execOp
    simp only [ho, hx, hy, Instr.storeAt, Instr.sureAddr, Sem.run_bind, Sem.run_pure, Result.andThen_ok, run_store_bb (by rw [hB.c off _ (List.getElem?_eq_getElem hl)]; rfl) (hB.z off hl) z]
    refine hK _ _ ?_
    have e : a.put o.dst undef = a := by rw [hd]; rfl
    rw [e]
    exact h _ (hB.set hl _) ((Keeps.refl (fun k => k = b) w).setCell (p := ⟨b, off, none⟩) (fun _ => rfl) _) (by simp)
section
variable {w w1 w2 : World} {B v me ms : Nat} {wr wr1 wr2 : Bool} {ns ns1 ns2 : List Bs} {p p1 : Option Addr} {c c1 : Nat}
theorem SVT.of0 (V : SV w B v me ms wr ns p c) (k : Keeps (fun _ => False) w w1) : SVT w B v me ms ns p c w1 wr ns := ⟨p, c, V.keep0 k, fun _ e => .inl e, k.mono (fun _ _ e => e.elim)⟩
theorem SVT.get (h : SVT w B v me ms ns p c w1 wr1 ns1) : ∃ p' c', SV w1 B v me ms wr1 ns1 p' c' ∧ (∀ i, svS v me ms (Value.slice p' ns1.length c').ownBlock i → svS v me ms (Value.slice p ns.length c).ownBlock i ∨ w.heap.size ≤ i) ∧ ∀ {w2 : World} {wr2 : Bool} {ns2 : List Bs}, SVT w1 B v me ms ns1 p' c' w2 wr2 ns2 → SVT w B v me ms ns p c w2 wr2 ns2 := by
  obtain ⟨p1, c1, V1, n1, k1⟩ := h
  refine ⟨p1, c1, V1, fun i e => ?_, fun h2 => ?_⟩
  · rcases e with e | e | e | e
    · exact .inl (.inl e)
    · exact .inl (.inr (.inl e))
    · exact .inl (.inr (.inr (.inl e)))
    · exact (n1 i e).imp (fun q => .inr (.inr (.inr q))) (fun q => q)
  obtain ⟨p2, c2, V2, n2, k2⟩ := h2
  have z := k1.size
  refine ⟨p2, c2, V2, fun g hg => ?_, k1.trans' k2 (fun _ _ e => e) (fun i hi e => ?_)⟩
  · rcases n2 g hg with q | q
    · exact n1 g q
    · exact .inr (by omega)
  · rcases e with e | e | e | e
    · exact .inl e
    · exact .inr (.inl e)
    · exact .inr (.inr (.inl e))
    · rcases n1 i e with e | e
      · exact .inr (.inr (.inr e))
      · omega
/-- A box of the call's own is written at the end. -/
theorem SVT.fin (V : SV w B v me ms wr ns p c) (h : SVT (w.alloc (.cells zZ.toArray 74)) B v me ms ns p c w1 wr1 ns1) (k : Keeps (fun i => i = w.heap.size) w1 w2) : SVT w B v me ms ns p c w2 wr1 ns1 := by
  obtain ⟨p', c', V', no', k'⟩ := h
  have low := V.low
  have zz : (w.alloc (.cells zZ.toArray 74)).heap.size = w.heap.size + 1 := by simp
  refine ⟨p', c', V'.keep k (fun i hi e => ?_) (fun i hi e => ?_), fun g hg => (no' g hg).imp (fun q => q) (fun q => by omega), (((Keeps.refl _ w).alloc _).trans k').trans' k (fun _ _ e => e) (fun i hi e => by omega)⟩
  · rcases hi with q | q | q | q
    · have := (low v (.inl rfl)).2; omega
    · have := (low me (.inr (.inl rfl))).2; omega
    · have := (low ms (.inr (.inr (.inl rfl)))).2; omega
    · rcases no' i q with q | q
      · have := (low i (.inr (.inr (.inr q)))).2; omega
      · omega
  · have := low v (.inl rfl); omega
theorem SVT.stay (V : SV w B v me ms wr ns p c) (h : SVT w B v me ms ns p c w1 wr1 ns1) : Stay (fun g => g < B) w w1 := by
  obtain ⟨p', c', V', no', k'⟩ := h
  exact k'.stay (fun i hi _ e => by have := V.low i e; omega)
theorem SVT.keepB (V : SV w B v me ms wr ns p c) (h : SVT w B v me ms ns p c w1 wr1 ns1) : Keeps (fun i => B ≤ i) w w1 := by
  obtain ⟨p', c', V', no', k'⟩ := h
  exact k'.mono (fun i _ e => (V.low i e).1)
theorem SVT.cl (h : SVT w B v me ms ns p c w1 wr1 ns1) {x : Nat} {l : List Value} (hl : 0 < l.length) (hx : CL w x l) (h2 : ∀ i, svS v me ms (Value.slice p ns.length c).ownBlock i → i ≠ x) : CL w1 x l := by
  obtain ⟨p', c', V', no', k'⟩ := h
  exact hx.keep hl k' (fun e => h2 _ e rfl)
theorem SVT.e4 (V : SV w B v me ms wr ns p c) (h : SVT w B v me ms ns p c w1 wr1 ns1) {b o : Nat} {k n : Int} {wd : Bs} {q : Option Addr} {m cq : Nat} (hb : b < B) (e : E4 w b o k n wd q m cq) : E4 w1 b o k n wd q m cq := by
  obtain ⟨p', c', V', no', k'⟩ := h
  exact e.keep k' (fun e => by have := V.low b e; omega)
theorem SV.get3 (_h : SV w B v me ms wr ns p c) (kd : Keeps (fun _ => False) w w1) {w3 : World} (T4 : SVT w1 B v me ms ns p c w2 wr2 ns2) (k5 : Keeps (fun _ => False) w2 w3) : SVT w B v me ms ns p c w3 wr2 ns2 := by
  obtain ⟨p', c', V', no', k'⟩ := T4
  have z := kd.size
  exact ⟨p', c', V'.keep0 k5, fun g hg => (no' g hg).imp (fun q => q) (fun q => by omega), ((kd.mono (fun _ _ e => e.elim)).trans k').trans (k5.mono (fun _ _ e => e.elim))⟩
/-- Something is wrong. -/
theorem SV.wrong (V : SV w B v me ms wr ns p c) (cl : CL w1 v [.bool true, .slice p ns.length c, .map (some me), .map (some ms)]) (k : Keeps (fun i => i = v) w w1) : SVT w B v me ms ns p c w1 true ns :=
  ⟨p, c, V.go k (fun e => V.nvm e.symm) (fun e => V.nvs e.symm) (fun i hi e => by have := V.bv; omega) cl ⟨k.owns V.nm.1 (fun g hg e => (V.nd g hg).1 e), V.nm.2⟩ (fun _ => rfl) (Ext.refl _) V.nd V.l, fun _ e => .inl e, k.mono (fun i _ e => .inl e)⟩
end
/-- The two cells that a region reads. -/
structure X2 (W : World) (v me b o : Nat) (q : Option Addr) (m cq : Nat) : Prop where
  c0 : W.cell? ⟨v, 2, none⟩ = some (.map (some me))
  c1 : W.cell? ⟨b, o + 3, none⟩ = some (.slice q m cq)
set_option maxHeartbeats 1000000 in
set_option maxRecDepth 100000 in
theorem expr_any {N : Nat} (IH : CX N) : CX (N + 1) := by
  intro t ht hFt w B v me ms wr ns p c b o V hP
  obtain ⟨k, n, wd, ps⟩ := t
  obtain ⟨hbB, l, hT, hC⟩ := hP
  unfold TC at hT
  obtain ⟨hk, hn, hwd, a, xs, rfl, ho, hl⟩ := hT
  obtain ⟨q, cq, rfl, -⟩ := own_slice ho.1
  unfold FtE at hFt
  have hb1 : bgL ps ≤ N := by unfold bgE at ht; omega
  clear ht
  have e4 : E4 w b o k n wd q ps.length cq := ⟨hC 0 _ rfl, hC 1 _ rfl, hC 2 _ rfl, hC 3 _ rfl⟩
  clear hC
  have ka := (Keeps.refl (fun _ => False) w).alloc (.cells zZ.toArray 74)
  have m0 := CL.made w zZ 74
  have Va := V.keep0 ka
  have ea := e4.keep ka (fun e => e)
  have hCB := cbe_any ea hwd Va.g
  have hlw := V.low
  cases hok : okE k n wd ps.length with
  | false =>
    rw [hok] at hCB
    rw [show mzE (.mk k n wd ps) = (0, 0) from by unfold mzE; simp [hok], show wrE (.mk k n wd ps) = true from by unfold wrE; simp [hok], show nmE (.mk k n wd ps) ns = ns from by unfold nmE; simp [hok], Bool.or_true]
    clear hok
    have nv : v ≠ w.heap.size := fun e => by have := (hlw v (.inl rfl)).2; omega
    go_enter Tryd.func54, Tryd.ntmps54
    go_wp2_with (first | (go_at_call 63; refine hCB.mono ?_; rintro e w1 ⟨rfl, k1⟩; have V1 := Va.keep0 k1; have M1 := m0.keep (by show 0 < 2; decide) k1 (fun e => e); have E1 := ea.keep k1 (fun e => e); have y0 := E1.y0; have y2 := E1.y2; clear hCB) | (refine wpList_store_bb rfl rfl _ _ rfl v 0 rfl true rfl V1.cl (by show 0 < 4; decide) ?_; intro w2 c2 k2 z2; clear z2; have M2 := M1.keep (by show 0 < 2; decide) k2 (fun e => nv e.symm)) | (refine wpList_store_cl rfl 74 _ _ rfl w.heap.size 0 2 _ rfl rfl rfl M2 (by show 2 ≤ 2; decide) iSz one2 ?_; intro w9 hc9 k9 zz9; clear zz9))
    have hc6 : CL w9 w.heap.size [.int .i64 0, .int .i64 0] := hc9
    have hrn := run_sz hc6
    refine bodyPost_ret (v := .agg #[.int .i64 0, .int .i64 0]) (by rw [results_cell1 rfl]; simp [asAddr, hrn]) rfl ?_
    have T2 := Va.get3 k1 (V1.wrong c2 k2) (Keeps.refl _ _)
    exact ⟨rfl, SVT.fin V T2 k9⟩
  | true =>
    rw [hok] at hCB
    by_cases h2 : k = 2
    · have hnm : nmE (.mk k n wd ps) ns = nmL ps (nmAdd ns wd) := by unfold nmE; rw [if_pos hok, if_pos h2]
      rw [show mzE (.mk k n wd ps) = undr (mzL ps) from by unfold mzE; simp [hok], show wrE (.mk k n wd ps) = wrL ps from by unfold wrE; simp [hok], hnm]
      have d1 : (k == 2) = true := by simp [h2]
      clear hok hnm
      have low1 := hlw
      have HW := hwd
      go_enter Tryd.func54, Tryd.ntmps54
      go_wp2_with (first | (go_at_call 63; refine hCB.mono ?_; rintro e w1 ⟨rfl, k1⟩; have V1 := Va.keep0 k1; have M1 := m0.keep (by show 0 < 2; decide) k1 (fun e => e); have E1 := ea.keep k1 (fun e => e); have y0 := E1.y0; have y2 := E1.y2; have hNA := vname_any V1 wd HW) | (go_at_call 53; refine hNA.mono ?_; rintro e w3 ⟨rfl, T3⟩; clear hNA))
      have T3a := Va.get3 k1 T3 (Keeps.refl _ _)
      have E3 := T3.e4 V1 hbB E1
      have M3 := T3.cl (by show 0 < 2; decide) M1 (fun i hi e => by have := (hlw i hi).2; omega)
      have kw3 : Keeps (fun i => B ≤ i) w w3 := (ka.mono (fun _ _ e => e.elim)).trans (T3a.keepB Va)
      obtain ⟨p3, c3, V3, lw3, HG3⟩ := T3a.get
      have low3 : ∀ i, svS v me ms (Value.slice p3 (nmAdd ns wd).length c3).ownBlock i → i ≠ w.heap.size := fun i hi e => by
        have hz : (w.alloc (.cells zZ.toArray 74)).heap.size = w.heap.size + 1 := by simp
        rcases lw3 i hi with q | q
        · have := (hlw i q).2; omega
        · omega
      clear T3 y0 y2 M1 E1 V1 d1 h2
      have kd := (Keeps.refl (fun _ => False) w3).drew
      have Vd := V3.keep0 kd
      have Md := M3.keep (by show 0 < 2; decide) kd (fun e => e)
      have Ed := E3.keep kd (fun e => e)
      have std : Stay (fun g => g < B) w w3.drew := (kw3.trans (kd.mono (fun _ _ e => e.elim))).stay (fun i hi _ e => by omega)
      have hSum := sumE IH Vd (ho.stay std) (hl.stay std) hb1 ⟨hFt.2, hFt.1⟩
      have X2d : X2 w3.drew v me b o q ps.length cq := ⟨Vd.cl.c 2 _ rfl, Ed.y3⟩
      have hlow : ∀ i, svS v me ms (Value.slice p3 (nmAdd ns wd).length c3).ownBlock i → i ≠ w.heap.size := low3
      clear std Ed kd M3 E3 kw3 e4 ea ka m0 Va ho hl hCB
      refine wp_region_held_drew (S := fun W => X2 W v me b o q ps.length cq) (by kernel_rfl) X2d (fun hHeld => ?_)
      refine wpAnyH_take (i := 0) (v := ?_) rfl (by kernel_rfl) (by kernel_rfl) (by kernel_rfl) (fun _ _ _ h => h) (Or.inl ⟨by rfl, ?_⟩) (by assumption) ?_
      rotate_left
      · intro wx hSw; clear hSw; go_simp <;> with_reducible rfl
      (try simp only [List.getElem_toArray]); (try simp only [List.getElem_cons_succ]); (try simp only [List.getElem_cons_zero]); (try simp only [Act.put]); (try simp only [List.setIfInBounds_toArray]); (repeat first | simp only [List.set_cons_succ] | simp only [List.set_cons_zero])
      refine wpAnyH_take (i := 1) (v := ?_) rfl (by kernel_rfl) (by kernel_rfl) (by kernel_rfl) (fun _ _ _ h => h) (Or.inl ⟨by rfl, ?_⟩) (by assumption) ?_
      rotate_left
      · intro wx hSw; clear hSw; go_simp <;> with_reducible rfl
      (try simp only [List.getElem_toArray]); (try simp only [List.getElem_cons_succ]); (try simp only [List.getElem_cons_zero]); (try simp only [Act.put]); (try simp only [List.setIfInBounds_toArray]); (repeat first | simp only [List.set_cons_succ] | simp only [List.set_cons_zero])
      refine wpAnyH_take (i := 2) (v := ?_) rfl (by kernel_rfl) (by kernel_rfl) (by kernel_rfl) (fun _ _ _ h => h) (Or.inl ⟨by rfl, ?_⟩) (by assumption) ?_
      rotate_left
      · intro wx hSw; clear hSw; go_simp <;> with_reducible rfl
      (try simp only [List.getElem_toArray]); (try simp only [List.getElem_cons_succ]); (try simp only [List.getElem_cons_zero]); (try simp only [Act.put]); (try simp only [List.setIfInBounds_toArray]); (repeat first | simp only [List.set_cons_succ] | simp only [List.set_cons_zero])
      refine wpAnyH_take (i := 3) (v := ?_) rfl (by kernel_rfl) (by kernel_rfl) (by kernel_rfl) (fun _ _ _ h => h) (Or.inl ⟨by rfl, ?_⟩) (by assumption) ?_
      rotate_left
      · intro wx hSw; have q0 := hSw.c0; clear hSw; go_simp <;> with_reducible rfl
      (try simp only [List.getElem_toArray]); (try simp only [List.getElem_cons_succ]); (try simp only [List.getElem_cons_zero]); (try simp only [Act.put]); (try simp only [List.setIfInBounds_toArray]); (repeat first | simp only [List.set_cons_succ] | simp only [List.set_cons_zero])
      refine wpAnyH_take (i := 4) (v := ?_) rfl (by kernel_rfl) (by kernel_rfl) (by kernel_rfl) (fun _ _ _ h => h) (Or.inl ⟨by rfl, ?_⟩) (by assumption) ?_
      rotate_left
      · intro wx hSw; clear hSw; go_simp <;> with_reducible rfl
      (try simp only [List.getElem_toArray]); (try simp only [List.getElem_cons_succ]); (try simp only [List.getElem_cons_zero]); (try simp only [Act.put]); (try simp only [List.setIfInBounds_toArray]); (repeat first | simp only [List.set_cons_succ] | simp only [List.set_cons_zero])
      refine wpAnyH_take (i := 5) (v := ?_) rfl (by kernel_rfl) (by kernel_rfl) (by kernel_rfl) (fun _ _ _ h => h) (Or.inl ⟨by rfl, ?_⟩) (by assumption) ?_
      rotate_left
      · intro wx hSw; clear hSw; go_simp <;> with_reducible rfl
      (try simp only [List.getElem_toArray]); (try simp only [List.getElem_cons_succ]); (try simp only [List.getElem_cons_zero]); (try simp only [Act.put]); (try simp only [List.setIfInBounds_toArray]); (repeat first | simp only [List.set_cons_succ] | simp only [List.set_cons_zero])
      refine wpAnyH_take (i := 6) (v := ?_) rfl (by kernel_rfl) (by kernel_rfl) (by kernel_rfl) (fun _ _ _ h => h) (Or.inl ⟨by rfl, ?_⟩) (by assumption) ?_
      rotate_left
      · intro wx hSw; clear hSw; go_simp <;> with_reducible rfl
      (try simp only [List.getElem_toArray]); (try simp only [List.getElem_cons_succ]); (try simp only [List.getElem_cons_zero]); (try simp only [Act.put]); (try simp only [List.setIfInBounds_toArray]); (repeat first | simp only [List.set_cons_succ] | simp only [List.set_cons_zero])
      refine wpAnyH_take (i := 7) (v := ?_) rfl (by kernel_rfl) (by kernel_rfl) (by kernel_rfl) (fun _ _ _ h => h) (Or.inl ⟨by rfl, ?_⟩) (by assumption) ?_
      rotate_left
      · intro wx hSw; have q1 := hSw.c1; clear hSw; go_simp <;> with_reducible rfl
      (try simp only [List.getElem_toArray]); (try simp only [List.getElem_cons_succ]); (try simp only [List.getElem_cons_zero]); (try simp only [Act.put]); (try simp only [List.setIfInBounds_toArray]); (repeat first | simp only [List.set_cons_succ] | simp only [List.set_cons_zero])
      refine wpAnyH_take (i := 8) (v := ?_) rfl (by kernel_rfl) (by kernel_rfl) (by kernel_rfl) (fun _ _ _ h => h) (Or.inl ⟨by rfl, ?_⟩) (by assumption) ?_
      rotate_left
      · intro wx hSw; clear hSw; go_simp <;> with_reducible rfl
      (try simp only [List.getElem_toArray]); (try simp only [List.getElem_cons_succ]); (try simp only [List.getElem_cons_zero]); (try simp only [Act.put]); (try simp only [List.setIfInBounds_toArray]); (repeat first | simp only [List.set_cons_succ] | simp only [List.set_cons_zero])
      refine wpAnyH_take (i := 9) (v := ?_) rfl (by kernel_rfl) (by kernel_rfl) (by kernel_rfl) (fun _ _ _ h => h) (Or.inl ⟨by rfl, ?_⟩) (by assumption) ?_
      rotate_left
      · intro wx hSw; clear hSw; go_simp <;> with_reducible rfl
      (try simp only [List.getElem_toArray]); (try simp only [List.getElem_cons_succ]); (try simp only [List.getElem_cons_zero]); (try simp only [Act.put]); (try simp only [List.setIfInBounds_toArray]); (repeat first | simp only [List.set_cons_succ] | simp only [List.set_cons_zero])
      refine wpAnyH_one 10 (by kernel_rfl) rfl rfl ?_
      refine wp_call3v 64 _ _ _ rfl _ _ _ rfl rfl rfl (fun _ _ => rfl) (hSum.mono ?_)
      rintro e w4 ⟨rfl, T4⟩
      have M4 := T4.cl (by show 0 < 2; decide) Md hlow
      have x4 : X2 w4 v me b o q ps.length cq := by
        obtain ⟨p', c', V', no', k'⟩ := T4
        exact ⟨V'.cl.c 2 _ rfl, k'.cell X2d.c1 (fun e => by have := Vd.low b e; omega)⟩
      refine ⟨_, rfl, x4, fun _ => ?_⟩
      (try simp only [List.getElem_toArray]); (try simp only [List.getElem_cons_succ]); (try simp only [List.getElem_cons_zero]); (try simp only [Act.put]); (try simp only [List.setIfInBounds_toArray]); (repeat first | simp only [List.set_cons_succ] | simp only [List.set_cons_zero])
      refine wpAnyH_one 11 (by kernel_rfl) rfl rfl ?_
      refine wp_call1 55 _ rfl _ rfl (fun _ _ => rfl) ((under_any w4 (mzL ps) (by have := mzL_le ps; have := hFt.1; omega)).mono ?_)
      rintro e w5 ⟨rfl, k5⟩
      have M5 := M4.keep (by show 0 < 2; decide) k5 (fun e => e)
      have x5 : X2 w5 v me b o q ps.length cq := ⟨k5.cell x4.c0 (fun e => e), k5.cell x4.c1 (fun e => e)⟩
      refine ⟨_, rfl, x5, fun _ => ?_⟩
      (try simp only [List.getElem_toArray]); (try simp only [List.getElem_cons_succ]); (try simp only [List.getElem_cons_zero]); (try simp only [Act.put]); (try simp only [List.setIfInBounds_toArray]); (repeat first | simp only [List.set_cons_succ] | simp only [List.set_cons_zero])
      obtain ⟨s1, hs1⟩ : ∃ s1, s1 = dI (undr (mzL ps)).1 := ⟨_, rfl⟩
      obtain ⟨s2, hs2⟩ : ∃ s2, s2 = (undr (mzL ps)).2 := ⟨_, rfl⟩
      simp only [vlW, ← hs1, ← hs2]
      have kX0 : Keeps (fun i => i = w.heap.size) w5 (w5.setCells w.heap.size 0 [.int .i64 s1, .int .i64 (s2 : Int)]) := (Keeps.refl (fun i => i = w.heap.size) w5).setsA _ _
      have x6 : X2 (w5.setCells w.heap.size 0 [.int .i64 s1, .int .i64 (s2 : Int)]) v me b o q ps.length cq := ⟨kX0.cell x5.c0 (fun e => by have e : v = w.heap.size := e; have := V.low v (.inl rfl); omega), kX0.cell x5.c1 (fun e => by have e : b = w.heap.size := e; have := V.low v (.inl rfl); omega)⟩
      obtain ⟨X, hX⟩ : ∃ X, X = w5.setCells w.heap.size 0 [.int .i64 s1, .int .i64 (s2 : Int)] := ⟨_, rfl⟩
      have kX : Keeps (fun i => i = w.heap.size) w5 X := by rw [hX]; exact kX0
      have cX : CL X w.heap.size [.int .i64 s1, .int .i64 (s2 : Int)] := by rw [hX]; exact M5.sets (o := 0) (by show 0 + 2 ≤ 2; decide)
      refine wpAnyH_store 12 (by kernel_rfl) rfl rfl 74 _ _ rfl w.heap.size 0 2 #[.int .i64 s1, .int .i64 (s2 : Int)] rfl rfl rfl (M5.there (by show 0 + 2 ≤ 2; decide)) iSz one2 x6 (fun _ => ?_)
      (try simp only [List.getElem_toArray]); (try simp only [List.getElem_cons_succ]); (try simp only [List.getElem_cons_zero]); (try simp only [Act.put]); (try simp only [List.setIfInBounds_toArray]); (repeat first | simp only [List.set_cons_succ] | simp only [List.set_cons_zero])
      refine wpAnyH_done (by kernel_rfl) ?_ _
      have hx10 : w5.setCells w.heap.size 0 (#[.int .i64 s1, .int .i64 (s2 : Int)] : Array Value).toList = X := hX.symm
      rw [hx10]
      have hc6 : CL X w.heap.size [.int .i64 s1, .int .i64 (s2 : Int)] := cX
      have T5 := V3.get3 ((Keeps.refl (fun _ => False) w3).drew) T4 k5
      have hrn := run_sz hc6
      clear hx10 hX x6 x5 x4 kX0
      go_wp2_with fail
      refine bodyPost_ret (v := .agg #[.int .i64 s1, .int .i64 (s2 : Int)]) (by rw [results_cell1 rfl]; simp [asAddr, hrn]) rfl ?_
      exact ⟨by rw [hs1, hs2], SVT.fin V (HG3 T5) kX⟩
    · have hnm : nmE (.mk k n wd ps) ns = nmL ps ns := by unfold nmE; simp [hok, h2]
      rw [show mzE (.mk k n wd ps) = undr (mzL ps) from by unfold mzE; simp [hok], show wrE (.mk k n wd ps) = wrL ps from by unfold wrE; simp [hok], hnm]
      have d1 : (k == 2) = false := beq_eq_false_iff_ne.2 h2
      clear hok hnm
      go_enter Tryd.func54, Tryd.ntmps54
      go_wp2_with (go_at_call 63; refine hCB.mono ?_; rintro e w1 ⟨rfl, k1⟩; have V1 := Va.keep0 k1; have M1 := m0.keep (by show 0 < 2; decide) k1 (fun e => e); have E1 := ea.keep k1 (fun e => e); have y0 := E1.y0; have y2 := E1.y2)
      have kw3 : Keeps (fun i => B ≤ i) w w1 := (ka.trans k1).mono (fun _ _ e => e.elim)
      obtain ⟨w3, hw3⟩ : ∃ w3, w3 = w1 := ⟨_, rfl⟩
      subst hw3
      have V3 := V1
      have M3 := M1
      have E3 := E1
      have HG3 : ∀ {w2 : World} {wr2 : Bool} {ns2 : List Bs}, SVT w3 B v me ms ns p c w2 wr2 ns2 → SVT (w.alloc (.cells zZ.toArray 74)) B v me ms ns p c w2 wr2 ns2 := fun h => Va.get3 k1 h (Keeps.refl _ _)
      have low3 : ∀ i, svS v me ms (Value.slice p ns.length c).ownBlock i → i ≠ w.heap.size := fun i hi e => by have := (hlw i hi).2; omega
      clear y0 y2 M1 E1 V1 d1 h2
      have kd := (Keeps.refl (fun _ => False) w3).drew
      have Vd := V3.keep0 kd
      have Md := M3.keep (by show 0 < 2; decide) kd (fun e => e)
      have Ed := E3.keep kd (fun e => e)
      have std : Stay (fun g => g < B) w w3.drew := (kw3.trans (kd.mono (fun _ _ e => e.elim))).stay (fun i hi _ e => by omega)
      have hSum := sumE IH Vd (ho.stay std) (hl.stay std) hb1 ⟨hFt.2, hFt.1⟩
      have X2d : X2 w3.drew v me b o q ps.length cq := ⟨Vd.cl.c 2 _ rfl, Ed.y3⟩
      have hlow : ∀ i, svS v me ms (Value.slice p (ns).length c).ownBlock i → i ≠ w.heap.size := low3
      clear std Ed kd M3 E3 kw3 e4 ea ka m0 Va ho hl hCB
      refine wp_region_held_drew (S := fun W => X2 W v me b o q ps.length cq) (by kernel_rfl) X2d (fun hHeld => ?_)
      refine wpAnyH_take (i := 0) (v := ?_) rfl (by kernel_rfl) (by kernel_rfl) (by kernel_rfl) (fun _ _ _ h => h) (Or.inl ⟨by rfl, ?_⟩) (by assumption) ?_
      rotate_left
      · intro wx hSw; clear hSw; go_simp <;> with_reducible rfl
      (try simp only [List.getElem_toArray]); (try simp only [List.getElem_cons_succ]); (try simp only [List.getElem_cons_zero]); (try simp only [Act.put]); (try simp only [List.setIfInBounds_toArray]); (repeat first | simp only [List.set_cons_succ] | simp only [List.set_cons_zero])
      refine wpAnyH_take (i := 1) (v := ?_) rfl (by kernel_rfl) (by kernel_rfl) (by kernel_rfl) (fun _ _ _ h => h) (Or.inl ⟨by rfl, ?_⟩) (by assumption) ?_
      rotate_left
      · intro wx hSw; clear hSw; go_simp <;> with_reducible rfl
      (try simp only [List.getElem_toArray]); (try simp only [List.getElem_cons_succ]); (try simp only [List.getElem_cons_zero]); (try simp only [Act.put]); (try simp only [List.setIfInBounds_toArray]); (repeat first | simp only [List.set_cons_succ] | simp only [List.set_cons_zero])
      refine wpAnyH_take (i := 2) (v := ?_) rfl (by kernel_rfl) (by kernel_rfl) (by kernel_rfl) (fun _ _ _ h => h) (Or.inl ⟨by rfl, ?_⟩) (by assumption) ?_
      rotate_left
      · intro wx hSw; clear hSw; go_simp <;> with_reducible rfl
      (try simp only [List.getElem_toArray]); (try simp only [List.getElem_cons_succ]); (try simp only [List.getElem_cons_zero]); (try simp only [Act.put]); (try simp only [List.setIfInBounds_toArray]); (repeat first | simp only [List.set_cons_succ] | simp only [List.set_cons_zero])
      refine wpAnyH_take (i := 3) (v := ?_) rfl (by kernel_rfl) (by kernel_rfl) (by kernel_rfl) (fun _ _ _ h => h) (Or.inl ⟨by rfl, ?_⟩) (by assumption) ?_
      rotate_left
      · intro wx hSw; have q0 := hSw.c0; clear hSw; go_simp <;> with_reducible rfl
      (try simp only [List.getElem_toArray]); (try simp only [List.getElem_cons_succ]); (try simp only [List.getElem_cons_zero]); (try simp only [Act.put]); (try simp only [List.setIfInBounds_toArray]); (repeat first | simp only [List.set_cons_succ] | simp only [List.set_cons_zero])
      refine wpAnyH_take (i := 4) (v := ?_) rfl (by kernel_rfl) (by kernel_rfl) (by kernel_rfl) (fun _ _ _ h => h) (Or.inl ⟨by rfl, ?_⟩) (by assumption) ?_
      rotate_left
      · intro wx hSw; clear hSw; go_simp <;> with_reducible rfl
      (try simp only [List.getElem_toArray]); (try simp only [List.getElem_cons_succ]); (try simp only [List.getElem_cons_zero]); (try simp only [Act.put]); (try simp only [List.setIfInBounds_toArray]); (repeat first | simp only [List.set_cons_succ] | simp only [List.set_cons_zero])
      refine wpAnyH_take (i := 5) (v := ?_) rfl (by kernel_rfl) (by kernel_rfl) (by kernel_rfl) (fun _ _ _ h => h) (Or.inl ⟨by rfl, ?_⟩) (by assumption) ?_
      rotate_left
      · intro wx hSw; clear hSw; go_simp <;> with_reducible rfl
      (try simp only [List.getElem_toArray]); (try simp only [List.getElem_cons_succ]); (try simp only [List.getElem_cons_zero]); (try simp only [Act.put]); (try simp only [List.setIfInBounds_toArray]); (repeat first | simp only [List.set_cons_succ] | simp only [List.set_cons_zero])
      refine wpAnyH_take (i := 6) (v := ?_) rfl (by kernel_rfl) (by kernel_rfl) (by kernel_rfl) (fun _ _ _ h => h) (Or.inl ⟨by rfl, ?_⟩) (by assumption) ?_
      rotate_left
      · intro wx hSw; clear hSw; go_simp <;> with_reducible rfl
      (try simp only [List.getElem_toArray]); (try simp only [List.getElem_cons_succ]); (try simp only [List.getElem_cons_zero]); (try simp only [Act.put]); (try simp only [List.setIfInBounds_toArray]); (repeat first | simp only [List.set_cons_succ] | simp only [List.set_cons_zero])
      refine wpAnyH_take (i := 7) (v := ?_) rfl (by kernel_rfl) (by kernel_rfl) (by kernel_rfl) (fun _ _ _ h => h) (Or.inl ⟨by rfl, ?_⟩) (by assumption) ?_
      rotate_left
      · intro wx hSw; have q1 := hSw.c1; clear hSw; go_simp <;> with_reducible rfl
      (try simp only [List.getElem_toArray]); (try simp only [List.getElem_cons_succ]); (try simp only [List.getElem_cons_zero]); (try simp only [Act.put]); (try simp only [List.setIfInBounds_toArray]); (repeat first | simp only [List.set_cons_succ] | simp only [List.set_cons_zero])
      refine wpAnyH_take (i := 8) (v := ?_) rfl (by kernel_rfl) (by kernel_rfl) (by kernel_rfl) (fun _ _ _ h => h) (Or.inl ⟨by rfl, ?_⟩) (by assumption) ?_
      rotate_left
      · intro wx hSw; clear hSw; go_simp <;> with_reducible rfl
      (try simp only [List.getElem_toArray]); (try simp only [List.getElem_cons_succ]); (try simp only [List.getElem_cons_zero]); (try simp only [Act.put]); (try simp only [List.setIfInBounds_toArray]); (repeat first | simp only [List.set_cons_succ] | simp only [List.set_cons_zero])
      refine wpAnyH_take (i := 9) (v := ?_) rfl (by kernel_rfl) (by kernel_rfl) (by kernel_rfl) (fun _ _ _ h => h) (Or.inl ⟨by rfl, ?_⟩) (by assumption) ?_
      rotate_left
      · intro wx hSw; clear hSw; go_simp <;> with_reducible rfl
      (try simp only [List.getElem_toArray]); (try simp only [List.getElem_cons_succ]); (try simp only [List.getElem_cons_zero]); (try simp only [Act.put]); (try simp only [List.setIfInBounds_toArray]); (repeat first | simp only [List.set_cons_succ] | simp only [List.set_cons_zero])
      refine wpAnyH_one 10 (by kernel_rfl) rfl rfl ?_
      refine wp_call3v 64 _ _ _ rfl _ _ _ rfl rfl rfl (fun _ _ => rfl) (hSum.mono ?_)
      rintro e w4 ⟨rfl, T4⟩
      have M4 := T4.cl (by show 0 < 2; decide) Md hlow
      have x4 : X2 w4 v me b o q ps.length cq := by
        obtain ⟨p', c', V', no', k'⟩ := T4
        exact ⟨V'.cl.c 2 _ rfl, k'.cell X2d.c1 (fun e => by have := Vd.low b e; omega)⟩
      refine ⟨_, rfl, x4, fun _ => ?_⟩
      (try simp only [List.getElem_toArray]); (try simp only [List.getElem_cons_succ]); (try simp only [List.getElem_cons_zero]); (try simp only [Act.put]); (try simp only [List.setIfInBounds_toArray]); (repeat first | simp only [List.set_cons_succ] | simp only [List.set_cons_zero])
      refine wpAnyH_one 11 (by kernel_rfl) rfl rfl ?_
      refine wp_call1 55 _ rfl _ rfl (fun _ _ => rfl) ((under_any w4 (mzL ps) (by have := mzL_le ps; have := hFt.1; omega)).mono ?_)
      rintro e w5 ⟨rfl, k5⟩
      have M5 := M4.keep (by show 0 < 2; decide) k5 (fun e => e)
      have x5 : X2 w5 v me b o q ps.length cq := ⟨k5.cell x4.c0 (fun e => e), k5.cell x4.c1 (fun e => e)⟩
      refine ⟨_, rfl, x5, fun _ => ?_⟩
      (try simp only [List.getElem_toArray]); (try simp only [List.getElem_cons_succ]); (try simp only [List.getElem_cons_zero]); (try simp only [Act.put]); (try simp only [List.setIfInBounds_toArray]); (repeat first | simp only [List.set_cons_succ] | simp only [List.set_cons_zero])
      obtain ⟨s1, hs1⟩ : ∃ s1, s1 = dI (undr (mzL ps)).1 := ⟨_, rfl⟩
      obtain ⟨s2, hs2⟩ : ∃ s2, s2 = (undr (mzL ps)).2 := ⟨_, rfl⟩
      simp only [vlW, ← hs1, ← hs2]
      have kX0 : Keeps (fun i => i = w.heap.size) w5 (w5.setCells w.heap.size 0 [.int .i64 s1, .int .i64 (s2 : Int)]) := (Keeps.refl (fun i => i = w.heap.size) w5).setsA _ _
      have x6 : X2 (w5.setCells w.heap.size 0 [.int .i64 s1, .int .i64 (s2 : Int)]) v me b o q ps.length cq := ⟨kX0.cell x5.c0 (fun e => by have e : v = w.heap.size := e; have := V.low v (.inl rfl); omega), kX0.cell x5.c1 (fun e => by have e : b = w.heap.size := e; have := V.low v (.inl rfl); omega)⟩
      obtain ⟨X, hX⟩ : ∃ X, X = w5.setCells w.heap.size 0 [.int .i64 s1, .int .i64 (s2 : Int)] := ⟨_, rfl⟩
      have kX : Keeps (fun i => i = w.heap.size) w5 X := by rw [hX]; exact kX0
      have cX : CL X w.heap.size [.int .i64 s1, .int .i64 (s2 : Int)] := by rw [hX]; exact M5.sets (o := 0) (by show 0 + 2 ≤ 2; decide)
      refine wpAnyH_store 12 (by kernel_rfl) rfl rfl 74 _ _ rfl w.heap.size 0 2 #[.int .i64 s1, .int .i64 (s2 : Int)] rfl rfl rfl (M5.there (by show 0 + 2 ≤ 2; decide)) iSz one2 x6 (fun _ => ?_)
      (try simp only [List.getElem_toArray]); (try simp only [List.getElem_cons_succ]); (try simp only [List.getElem_cons_zero]); (try simp only [Act.put]); (try simp only [List.setIfInBounds_toArray]); (repeat first | simp only [List.set_cons_succ] | simp only [List.set_cons_zero])
      refine wpAnyH_done (by kernel_rfl) ?_ _
      have hx10 : w5.setCells w.heap.size 0 (#[.int .i64 s1, .int .i64 (s2 : Int)] : Array Value).toList = X := hX.symm
      rw [hx10]
      have hc6 : CL X w.heap.size [.int .i64 s1, .int .i64 (s2 : Int)] := cX
      have T5 := V3.get3 ((Keeps.refl (fun _ => False) w3).drew) T4 k5
      have hrn := run_sz hc6
      clear hx10 hX x6 x5 x4 kX0
      go_wp2_with fail
      refine bodyPost_ret (v := .agg #[.int .i64 s1, .int .i64 (s2 : Int)]) (by rw [results_cell1 rfl]; simp [asAddr, hrn]) rfl ?_
      exact ⟨by rw [hs1, hs2], SVT.fin V (HG3 T5) kX⟩
theorem cx_all : ∀ N, CX N
  | 0 => fun t ht => absurd (bgE_pos t) (by omega)
  | N + 1 => expr_any (cx_all N)
end Go.Proofs.YtehblpbefkopbaaDoor
