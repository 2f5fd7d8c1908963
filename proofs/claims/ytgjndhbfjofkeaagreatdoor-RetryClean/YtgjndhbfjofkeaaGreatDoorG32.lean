import Derived.Test.YtgjndhbfjofkeaaGreatDoorG31
namespace Go.Proofs.YtgjndhbfjofkeaaGreatDoor
open Go.RowKit
attribute [local go_sem] Oper.semAt_some run_store_nf run_store_f
section
variable {w w' w'' : World} {ρ ρ' ρ'' lb lb' lb'' : Nat → Nat} {u j ab fb : Nat} {n st : Int} {B : Bk} {nd kr kr' kd t i : Nat} {xs : Nat → Int} {p : Int} {P : Nat → Pt} {s s' : Ws} {m m' : Mm}
theorem takes_load {P : Program} {w : World} {o : Oper} {a : Act} (ty : TypeId) (x : Operand) (ho : o.op = .load ty x) (ad : Addr) (hx : a.eval x = .pointer (some ad)) {v : Value} (hr : (loadVar ty ad).run P w = .ok v w) : (execOp a.eval o).run P w = .ok (.value v) w := by
  unfold execOp
  simp only [ho, hx, Instr.loadAt, Instr.sureAddr, Sem.run_bind, Sem.run_pure, Result.andThen_ok, hr]
theorem FD.tb (h : FD w ρ lb B fb n st) (hi : i < 4) : w.cell? ⟨fb, 5 + i, none⟩ = some (.pointer (some ⟨B.tb i, 0, none⟩)) := by
  have h := h.cl
  rcases (by omega : i = 0 ∨ i = 1 ∨ i = 2 ∨ i = 3) with rfl | rfl | rfl | rfl
  · exact h.c 5 _ rfl
  · exact h.c 6 _ rfl
  · exact h.c 7 _ rfl
  · exact h.c 8 _ rfl
structure FX (u j fb : Nat) (w w' : World) (ρ ρ' lb lb' : Nat → Nat) : Prop where
  keeps : Keeps (fun k => Sr u j (ρ k) ∨ 2 ≤ lb k ∨ k = fb) w w'
  old : ∀ k, k < w.heap.size → ρ' k = ρ k ∧ lb' k = lb k
theorem FL.fx (h : FL u j w w' ρ ρ' lb lb') (fb : Nat) : FX u j fb w w' ρ ρ' lb lb' := ⟨h.keeps.mono (fun _ _ e => e.imp id .inl), h.old⟩
theorem FX.trans (h : FX u j fb w w' ρ ρ' lb lb') (k : FX u j fb w' w'' ρ' ρ'' lb' lb'') : FX u j fb w w'' ρ ρ'' lb lb'' :=
  ⟨h.keeps.trans' k.keeps (fun _ _ e => e) (fun i hi e => by rw [(h.old i hi).1, (h.old i hi).2] at e; exact e), fun i hi => by
    have a := h.old i hi
    have b := k.old i (Nat.lt_of_lt_of_le hi h.keeps.size)
    exact ⟨b.1.trans a.1, b.2.trans a.2⟩⟩
theorem FX.own (h : FX u j fb w w' ρ ρ' lb lb') {S : Nat → Prop} (k : Keeps S w' w'') (hS : ∀ i, i < w.heap.size → S i → i = fb) : FX u j fb w w'' ρ ρ' lb lb' :=
  ⟨h.keeps.trans' k (fun _ _ e => e) (fun i hi e => .inr (.inr (hS i hi e))), h.old⟩
theorem SI.row {p0 p' : Pt} {r : Ro} (hq : PQ kd t i p0 s m) (hs : SI kd t i p0 p' s m r s' m') : r.thread = (i : Int) ∧ r.job = 10 + (i : Int) := by
  cases hs with
  | begin ab c a e hc hp hs hm => subst e; exact ⟨hq.th, hq.jb⟩
  | again ab0 ab q c a d hq' e hc hp hs hm => subst e; exact ⟨hq.th, hq.jb⟩
  | go ab r0 a al e hT sp po => subst e; exact ⟨po.sr.rw_.1.trans ((hq.so ab a).th.trans hq.th), hq.jb⟩
def FO (w : World) (ρ lb : Nat → Nat) (u j : Nat) (B : Bk) (nd : Nat) (xs : Nat → Int) (kd t i fb : Nat) (n st p : Int) (P : Nat → Pt) (s : Ws) (m : Mm) (r : Ro) (w' : World) : Prop :=
  ∃ p' s' m' kr' ρ' lb', FM w' ρ' lb' u j B nd xs kr' kd p (fun k => if k = i then p' else P k) s' m' ∧ FQ kd (t + 1) (fun k => if k = i then p' else P k) s' m' ∧ FX u j fb w w' ρ ρ' lb lb' ∧ FD w' ρ' lb' B fb n (st + 1) ∧ FB (t + 1) s' m' (st + 1) ∧ SI kd t i (P i) p' s (m.begin st (i : Int)) r s' m'
set_option maxHeartbeats 1600000 in
set_option maxRecDepth 1000000 in
theorem f_steps (h : FM w ρ lb u j B nd xs kr kd p P s m) (hd : FD w ρ lb B fb n st) (hQ : FQ kd t P s m) (hB : FB t s m st) (ht : t ≤ 5000) (hi : i < 4) (hst : (P i).T.state (P i).x = 0 ∨ (P i).T.state (P i).x = 2) :
    Calls Tryz.prog 28 #[.pointer (some ⟨fb, 0, none⟩), .int .i64 (i : Int)] w fun e w' => ∃ r, e = .returned (.tuple #[.agg r.cells.toArray, .bool true]) ∧ FO w ρ lb u j B nd xs kd t i fb n st p P s m r w' := by
  obtain ⟨W0, hW0⟩ : ∃ W0, W0 = w.alloc (.cells #[.int .i64 0, .int .i64 0, .int .i64 0, .int .i64 0, .int .i64 0, .int .i64 0, .int .i64 0, .int .i64 0, .int .i64 0, .int .i64 0, .int .i64 0, .int .i64 0, .int .i64 0, .bool false, .bool false, .bool false, .int .i64 0, .bool false, .int .i64 0, .int .i64 0, .bool false, .bool false, .int .i64 0, .int .i64 0, .bool false, .int .i64 0] 36) := ⟨_, rfl⟩
  have K0 : Keeps (fun _ => False) w W0 := by rw [hW0]; exact (Keeps.refl _ w).alloc _
  have hZ : CL W0 w.heap.size Ro.zero.cells := by rw [hW0]; exact CL.made _ _ _
  have S0 := h.S0
  have KD := K0.drew
  have L0 : FL u j w W0.drew ρ ρ lb lb := FL.new KD ρ lb
  have h0 := h.new KD
  have d0 := hd.fl S0 L0
  have hZ0 := hZ.drew
  have lZ : w.heap.size < W0.drew.heap.size := hZ0.lt (by show 0 < 26; decide)
  have hA := h0.begin hB i
  have f0 := d0.cl.c 0 _ rfl
  have f9 := d0.cl.c 9 _ rfl
  have rZ : ρ w.heap.size = 0 := h.st.bnd _ (Nat.le_refl _)
  have lbZ : lb w.heap.size = 0 := h.bd _ (Nat.le_refl _)
  have hs0 := hB.s0
  have hwr : wrap64 (st + 1) = st + 1 := wrap_id (by unfold In64; omega)
  go_enter Tryz.func28, Tryz.ntmps28
  go_wp2_with fail
  rw [← hW0]
  clear hW0
  go_region_held3 (fun w' => w'.cell? ⟨fb, 0, none⟩ = some (.pointer (some ⟨B.mb, 0, none⟩)) ∧ w'.cell? ⟨fb, 9, none⟩ = some (.int .i64 st)) (first | (go_keep; done) | exact KZ) (first | (go_at_call 48; refine hA.mono ?_; clear hA; rintro e W1 ⟨rfl, ρ1, lb1, F1, L1⟩; have d1 := d0.fl S0 L1; have hZ1 := hZ0.keep (by show 0 < 26; decide) L1.keeps (fun e => e.elim (fun e => S0 (by rw [rZ] at e; exact e)) (fun e => by rw [lbZ] at e; omega)); have KZ := And.intro (d1.cl.c 0 _ rfl) (d1.cl.c 9 _ rfl)))
  rename_i hHeld
  clear hHeld KZ f0 f9 h0 d0 hZ0
  have g9 := d1.cl.c 9 _ rfl
  have zg9 := d1.cl.z 9 (by show 9 < 10; decide)
  have o1 := L1.old w.heap.size lZ
  have L01 := L0.trans L1
  have n59 : ¬ 5 + i = 9 := by omega
  have g5 := d1.tb hi
  have K2 : Keeps (fun k => k = fb) W1 (W1.setCell ⟨fb, 9, none⟩ (.int .i64 (st + 1))) := (Keeps.refl (fun k => k = fb) W1).setCell (p := ⟨fb, 9, none⟩) (fun _ => rfl) _
  have F2 := F1.own K2 (fun k _ e => by have e : k = fb := e; subst e; exact ⟨d1.r, d1.l⟩)
  have d2 : FD (W1.setCell ⟨fb, 9, none⟩ (.int .i64 (st + 1))) ρ1 lb1 B fb n (st + 1) := ⟨d1.cl.set (o := 9) (by show 9 < 10; decide) _, d1.r, d1.l⟩
  have X2 : FX u j fb w (W1.setCell ⟨fb, 9, none⟩ (.int .i64 (st + 1))) ρ ρ1 lb lb1 := (L01.fx fb).own K2 (fun _ _ e => e)
  have nZf : ¬ w.heap.size = fb := by have := hd.cl.lt (by show 0 < 10; decide); omega
  have hZ2 := hZ1.keep (by show 0 < 26; decide) K2 nZf
  have h5 := d2.tb hi
  have hq1 : FQ kd t P s (m.begin st (i : Int)) := hQ.same rfl (fun _ => rfl)
  have b1 := hB.at_
  have b2 := hB.ce
  have b3 := hB.lg
  have b4 := hB.lo
  have hS := f_step F2 hq1 hi hst rfl rfl (by show (m.log.length + 1) * 56 ≤ _; omega) (by omega) (by show m.cells.length + 3 ≤ _; omega) (by omega) (by omega)
  clear K2 d1 F1 hZ1
  go_wp2_with fail
  refine hS.mono ?_
  clear hS h5 g5 g9 zg9
  rintro e W3 ⟨r, p', s', m', kr', ρ3, lb3, rfl, F3, Q3, L3, hSI⟩
  have d3 := d2.fl S0 L3
  have X3 := X2.trans (L3.fx fb)
  have lZ2 : w.heap.size < (W1.setCell ⟨fb, 9, none⟩ (.int .i64 (st + 1))).heap.size := hZ2.lt (by show 0 < 26; decide)
  have hZ3 := hZ2.keep (by show 0 < 26; decide) L3.keeps (fun e => e.elim (fun e => S0 (by rw [o1.1, rZ] at e; exact e)) (fun e => by rw [o1.2, lbZ] at e; omega))
  have o3 := L3.old w.heap.size lZ2
  have lZ3 : w.heap.size < W3.heap.size := hZ3.lt (by show 0 < 26; decide)
  have lf3 : fb < W3.heap.size := d3.cl.lt (by show 0 < 10; decide)
  have rw1 := SI.row (hq1.pt i hi) hSI
  have B3 := hB.si hSI
  clear hZ2 d2 X2 F2 L3
  obtain ⟨W4, hW4⟩ : ∃ W4, W4 = W3.alloc (.cells #[.int .i64 0, .int .i64 0, .int .i64 0, .int .i64 0, .int .i64 0, .int .i64 0, .int .i64 0, .int .i64 0, .int .i64 0, .int .i64 0, .int .i64 0, .int .i64 0, .int .i64 0, .bool false, .bool false, .bool false, .int .i64 0, .bool false, .int .i64 0, .int .i64 0, .bool false, .bool false, .int .i64 0, .int .i64 0, .bool false, .int .i64 0] 36) := ⟨_, rfl⟩
  have k4 : Keeps (fun _ => False) W3 W4 := by rw [hW4]; exact (Keeps.refl _ W3).alloc _
  have hc4 : CL W4 W3.heap.size Ro.zero.cells := by rw [hW4]; exact CL.made _ Ro.zero.cells _
  have m1 : ¬ w.heap.size = W3.heap.size := by omega
  go_wp2_with (rw [← hW4]; clear hW4; refine wpList_store_cl rfl 36 _ _ rfl W3.heap.size 0 26 _ rfl rfl rfl hc4 (by show 26 ≤ 26; decide) i46 (all_oneCell_toArray (by simp [Ro.cells, Value.oneCell'])) ?_; intro w5 hc5 k5 hsz5; clear hsz5)
  have hr5 : CL w5 W3.heap.size r.cells := hc5
  have K5 : Keeps (fun k => k = W3.heap.size) W3 w5 := (k4.mono (fun _ _ e => e.elim)).trans k5
  clear hc4 hc5 k4 k5
  have hZ5 := hZ3.keep (by show 0 < 26; decide) K5 m1
  have nN := num_r w5.drew 0
  obtain ⟨N, HN⟩ : ∃ N, Hid (W3.heap.size = N) := ⟨_, rfl⟩
  rw [HN.out] at hr5 m1 K5 ⊢
  have c1 : w5.drew.cell? ⟨N, 1, none⟩ = some (.int .i64 (i : Int)) := by have := hr5.drew.c 1 _ rfl; rw [rw1.1] at this; exact this
  have c2 : w5.drew.cell? ⟨N, 2, none⟩ = some (.int .i64 (10 + (i : Int))) := by have := hr5.drew.c 2 _ rfl; rw [rw1.2] at this; exact this
  have hw10 : IntKind.i64.wrap (10 + (i : Int)) = 10 + (i : Int) := by rw [IntKind.wrap_i64]; omega
  clear rw1
  refine wp_region_held_drew (S := fun w' => CL w' N r.cells ∧ w'.cell? ⟨N, 1, none⟩ = some (.int .i64 (i : Int)) ∧ w'.cell? ⟨N, 2, none⟩ = some (.int .i64 (10 + (i : Int)))) (by kernel_rfl) ⟨hr5.drew, c1, c2⟩ (fun hHeld => ?_)
  refine wpAnyH_take (i := 0) (v := .agg r.cells.toArray) rfl (by kernel_rfl) (by kernel_rfl) (by kernel_rfl) (fun _ _ _ h => h) (Or.inl ⟨by rfl, ?_⟩) (by assumption) ?_
  · intro wx hSw
    have hr := run_row hSw.1
    exact takes_load 36 _ rfl ⟨N, 0, none⟩ rfl hr
  (try simp only [Act.put]); (try simp only [List.setIfInBounds_toArray]); (repeat first | simp only [List.set_cons_succ] | simp only [List.set_cons_zero])
  refine wpAnyH_take (i := 1) (v := ?_) rfl (by kernel_rfl) (by kernel_rfl) (by kernel_rfl) (fun _ _ _ h => h) (Or.inl ⟨by rfl, ?_⟩) (by assumption) ?_
  rotate_left
  · intro wx hSw; (try dsimp only at hSw); go_simp <;> with_reducible rfl
  (try simp only [List.getElem_toArray]); (try simp only [List.getElem_cons_succ]); (try simp only [List.getElem_cons_zero]); (try simp only [Act.put]); (try simp only [List.setIfInBounds_toArray]); (repeat first | simp only [List.set_cons_succ] | simp only [List.set_cons_zero])
  refine wpAnyH_one 2 (by kernel_rfl) rfl rfl ?_
  go_simp
  refine nN.mono ?_
  rintro e W6 ⟨rfl, rfl⟩
  refine ⟨⟨hr5.drew, c1, c2⟩, fun _ _ _ => ?_⟩
  have hHeld : CL w5.drew N r.cells ∧ w5.drew.cell? ⟨N, 1, none⟩ = some (.int .i64 (i : Int)) ∧ w5.drew.cell? ⟨N, 2, none⟩ = some (.int .i64 (10 + (i : Int))) := ⟨hr5.drew, c1, c2⟩
  (try simp only [Act.put]); (try simp only [List.setIfInBounds_toArray]); (repeat first | simp only [List.set_cons_succ] | simp only [List.set_cons_zero])
  refine wpAnyH_take (i := 3) (v := ?_) rfl (by kernel_rfl) (by kernel_rfl) (by kernel_rfl) (fun _ _ _ h => h) (Or.inl ⟨by rfl, ?_⟩) (by assumption) ?_
  rotate_left
  · intro wx hSw; (try dsimp only at hSw); go_simp <;> with_reducible rfl
  (try simp only [List.getElem_toArray]); (try simp only [List.getElem_cons_succ]); (try simp only [List.getElem_cons_zero]); (try simp only [Act.put]); (try simp only [List.setIfInBounds_toArray]); (repeat first | simp only [List.set_cons_succ] | simp only [List.set_cons_zero])
  refine wpAnyH_take (i := 4) (v := ?_) rfl (by kernel_rfl) (by kernel_rfl) (by kernel_rfl) (fun _ _ _ h => h) (Or.inl ⟨by rfl, ?_⟩) (by assumption) ?_
  rotate_left
  · intro wx hSw; (try dsimp only at hSw); go_simp <;> with_reducible rfl
  (try simp only [List.getElem_toArray]); (try simp only [List.getElem_cons_succ]); (try simp only [List.getElem_cons_zero]); (try simp only [Act.put]); (try simp only [List.setIfInBounds_toArray]); (repeat first | simp only [List.set_cons_succ] | simp only [List.set_cons_zero])
  refine wpAnyH_take (i := 5) (v := ?_) rfl (by kernel_rfl) (by kernel_rfl) (by kernel_rfl) (fun _ _ _ h => h) (Or.inl ⟨by rfl, ?_⟩) (by assumption) ?_
  rotate_left
  · intro wx hSw; (try dsimp only at hSw); go_simp <;> with_reducible rfl
  (try simp only [List.getElem_toArray]); (try simp only [List.getElem_cons_succ]); (try simp only [List.getElem_cons_zero]); (try simp only [Act.put]); (try simp only [List.setIfInBounds_toArray]); (repeat first | simp only [List.set_cons_succ] | simp only [List.set_cons_zero])
  refine wpAnyH_take (i := 6) (v := ?_) rfl (by kernel_rfl) (by kernel_rfl) (by kernel_rfl) (fun _ _ _ h => h) (Or.inl ⟨by rfl, ?_⟩) (by assumption) ?_
  rotate_left
  · intro wx hSw; (try dsimp only at hSw); go_simp <;> with_reducible rfl
  (try simp only [List.getElem_toArray]); (try simp only [List.getElem_cons_succ]); (try simp only [List.getElem_cons_zero]); (try simp only [Act.put]); (try simp only [List.setIfInBounds_toArray]); (repeat first | simp only [List.set_cons_succ] | simp only [List.set_cons_zero])
  refine wpAnyH_take (i := 7) (v := ?_) rfl (by kernel_rfl) (by kernel_rfl) (by kernel_rfl) (fun _ _ _ h => h) (Or.inl ⟨by rfl, ?_⟩) (by assumption) ?_
  rotate_left
  · intro wx hSw; (try dsimp only at hSw); go_simp <;> with_reducible rfl
  (try simp only [List.getElem_toArray]); (try simp only [List.getElem_cons_succ]); (try simp only [List.getElem_cons_zero]); (try simp only [Act.put]); (try simp only [List.setIfInBounds_toArray]); (repeat first | simp only [List.set_cons_succ] | simp only [List.set_cons_zero])
  refine wpAnyH_take (i := 8) (v := ?_) rfl (by kernel_rfl) (by kernel_rfl) (by kernel_rfl) (fun _ _ _ h => h) (Or.inl ⟨by rfl, ?_⟩) (by assumption) ?_
  rotate_left
  · intro wx hSw; (try dsimp only at hSw); go_simp <;> with_reducible rfl
  (try simp only [List.getElem_toArray]); (try simp only [List.getElem_cons_succ]); (try simp only [List.getElem_cons_zero]); (try simp only [Act.put]); (try simp only [List.setIfInBounds_toArray]); (repeat first | simp only [List.set_cons_succ] | simp only [List.set_cons_zero])
  refine wpAnyH_take (i := 9) (v := ?_) rfl (by kernel_rfl) (by kernel_rfl) (by kernel_rfl) (fun _ _ _ h => h) (Or.inl ⟨by rfl, ?_⟩) (by assumption) ?_
  rotate_left
  · intro wx hSw; (try dsimp only at hSw); go_simp <;> with_reducible rfl
  (try simp only [List.getElem_toArray]); (try simp only [List.getElem_cons_succ]); (try simp only [List.getElem_cons_zero]); (try simp only [Act.put]); (try simp only [List.setIfInBounds_toArray]); (repeat first | simp only [List.set_cons_succ] | simp only [List.set_cons_zero])
  refine wpAnyH_take (i := 10) (v := ?_) rfl (by kernel_rfl) (by kernel_rfl) (by kernel_rfl) (fun _ _ _ h => h) (Or.inl ⟨by rfl, ?_⟩) (by assumption) ?_
  rotate_left
  · intro wx hSw; (try dsimp only at hSw); go_simp <;> with_reducible rfl
  (try simp only [List.getElem_toArray]); (try simp only [List.getElem_cons_succ]); (try simp only [List.getElem_cons_zero]); (try simp only [Act.put]); (try simp only [List.setIfInBounds_toArray]); (repeat first | simp only [List.set_cons_succ] | simp only [List.set_cons_zero])
  refine wpAnyH_take (i := 11) (v := ?_) rfl (by kernel_rfl) (by kernel_rfl) (by kernel_rfl) (fun _ _ _ h => h) (Or.inl ⟨by rfl, ?_⟩) (by assumption) ?_
  rotate_left
  · intro wx hSw; (try dsimp only at hSw); go_simp <;> with_reducible rfl
  (try simp only [List.getElem_toArray]); (try simp only [List.getElem_cons_succ]); (try simp only [List.getElem_cons_zero]); (try simp only [Act.put]); (try simp only [List.setIfInBounds_toArray]); (repeat first | simp only [List.set_cons_succ] | simp only [List.set_cons_zero])
  refine wpAnyH_take (i := 12) (v := ?_) rfl (by kernel_rfl) (by kernel_rfl) (by kernel_rfl) (fun _ _ _ h => h) (Or.inl ⟨by rfl, ?_⟩) (by assumption) ?_
  rotate_left
  · intro wx hSw; (try dsimp only at hSw); go_simp <;> with_reducible rfl
  (try simp only [List.getElem_toArray]); (try simp only [List.getElem_cons_succ]); (try simp only [List.getElem_cons_zero]); (try simp only [Act.put]); (try simp only [List.setIfInBounds_toArray]); (repeat first | simp only [List.set_cons_succ] | simp only [List.set_cons_zero])
  refine wpAnyH_take (i := 13) (v := ?_) rfl (by kernel_rfl) (by kernel_rfl) (by kernel_rfl) (fun _ _ _ h => h) (Or.inl ⟨by rfl, ?_⟩) (by assumption) ?_
  rotate_left
  · intro wx hSw; (try dsimp only at hSw); go_simp <;> with_reducible rfl
  (try simp only [List.getElem_toArray]); (try simp only [List.getElem_cons_succ]); (try simp only [List.getElem_cons_zero]); (try simp only [Act.put]); (try simp only [List.setIfInBounds_toArray]); (repeat first | simp only [List.set_cons_succ] | simp only [List.set_cons_zero])
  refine wpAnyH_take (i := 14) (v := ?_) rfl (by kernel_rfl) (by kernel_rfl) (by kernel_rfl) (fun _ _ _ h => h) (Or.inl ⟨by rfl, ?_⟩) (by assumption) ?_
  rotate_left
  · intro wx hSw; (try dsimp only at hSw); go_simp <;> with_reducible rfl
  (try simp only [List.getElem_toArray]); (try simp only [List.getElem_cons_succ]); (try simp only [List.getElem_cons_zero]); (try simp only [Act.put]); (try simp only [List.setIfInBounds_toArray]); (repeat first | simp only [List.set_cons_succ] | simp only [List.set_cons_zero])
  refine wpAnyH_take (i := 15) (v := ?_) rfl (by kernel_rfl) (by kernel_rfl) (by kernel_rfl) (fun _ _ _ h => h) (Or.inl ⟨by rfl, ?_⟩) (by assumption) ?_
  rotate_left
  · intro wx hSw; (try dsimp only at hSw); go_simp <;> with_reducible rfl
  (try simp only [List.getElem_toArray]); (try simp only [List.getElem_cons_succ]); (try simp only [List.getElem_cons_zero]); (try simp only [Act.put]); (try simp only [List.setIfInBounds_toArray]); (repeat first | simp only [List.set_cons_succ] | simp only [List.set_cons_zero])
  refine wpAnyH_take (i := 16) (v := ?_) rfl (by kernel_rfl) (by kernel_rfl) (by kernel_rfl) (fun _ _ _ h => h) (Or.inl ⟨by rfl, ?_⟩) (by assumption) ?_
  rotate_left
  · intro wx hSw; (try dsimp only at hSw); go_simp <;> with_reducible rfl
  (try simp only [List.getElem_toArray]); (try simp only [List.getElem_cons_succ]); (try simp only [List.getElem_cons_zero]); (try simp only [Act.put]); (try simp only [List.setIfInBounds_toArray]); (repeat first | simp only [List.set_cons_succ] | simp only [List.set_cons_zero])
  have kk : Keeps (fun k => k = w.heap.size) w5.drew (w5.drew.setCells w.heap.size 0 r.cells) := (Keeps.refl _ w5.drew).setsA _ _
  have m2 : ¬ N = w.heap.size := fun e => m1 e.symm
  refine wpAnyH_store 17 (by kernel_rfl) rfl rfl 36 _ _ rfl w.heap.size 0 26 r.cells.toArray (by rfl) (by rfl) rfl (hZ5.drew.there (n := 26) (by show 26 ≤ 26; decide)) i46 (all_oneCell_toArray (by simp [Ro.cells, Value.oneCell'])) ⟨hHeld.1.keep (by show 0 < 26; decide) kk m2, kk.cell (p := ⟨N, 1, none⟩) hHeld.2.1 m2, kk.cell (p := ⟨N, 2, none⟩) hHeld.2.2 m2⟩ ?_
  intro hHeld
  refine wpAnyH_take (i := 18) (v := ?_) rfl (by kernel_rfl) (by kernel_rfl) (by kernel_rfl) (fun _ _ _ h => h) (Or.inl ⟨by rfl, ?_⟩) (by assumption) ?_
  rotate_left
  · intro wx hSw; (try dsimp only at hSw); go_simp <;> with_reducible rfl
  (try simp only [List.getElem_toArray]); (try simp only [List.getElem_cons_succ]); (try simp only [List.getElem_cons_zero]); (try simp only [Act.put]); (try simp only [List.setIfInBounds_toArray]); (repeat first | simp only [List.set_cons_succ] | simp only [List.set_cons_zero])
  refine wpAnyH_done (by kernel_rfl) ?_ _
  have hf : CL (w5.drew.setCells w.heap.size 0 r.cells) w.heap.size r.cells := hZ5.drew.sets (o := 0) (by show 26 ≤ 26; decide)
  have kf : Keeps (fun k => k = N ∨ k = w.heap.size) W3 (w5.drew.setCells w.heap.size 0 r.cells) := (K5.mono (fun _ _ e => .inl e)).drew.trans' (kk.mono (fun _ _ e => .inr e)) (fun _ _ e => e) (fun _ _ e => e)
  have lN : W3.heap.size ≤ N := by rw [HN.out]; exact Nat.le_refl _
  have F7 := F3.own kf (fun k hk e => by
    rcases e with e | e
    · omega
    · rw [e]; exact ⟨(o3.1.trans o1.1).trans rZ, (o3.2.trans o1.2).trans lbZ⟩)
  have X7 := X3.own kf (fun k hk e => by omega)
  have d7 : FD (w5.drew.setCells w.heap.size 0 r.cells) ρ3 lb3 B fb n (st + 1) := ⟨d3.cl.keep (by show 0 < 10; decide) kf (fun e => by omega), d3.r, d3.l⟩
  show Exit.then _ _ _ _ (w5.drew.setCells w.heap.size 0 r.cells)
  clear hHeld kk kf c1 c2 hr5 hZ5 K5
  generalize w5.drew.setCells w.heap.size 0 r.cells = W at *
  go_wp2_with fail
  refine bodyPost_ret (v := .tuple #[.agg r.cells.toArray, .bool true]) ?_ rfl ⟨r, rfl, p', s', m', kr', ρ3, lb3, F7, Q3, X7, d7, B3, hSI⟩
  have hr := run_row hf
  rw [results_cell_tmp rfl]
  simp [asAddr, hr, Result.andThen]
end
end Go.Proofs.YtgjndhbfjofkeaaGreatDoor

namespace Go.Proofs.YtgjndhbfjofkeaaGreatDoor
open Go.RowKit
attribute [local go_sem] Oper.semAt_some run_store_nf run_store_f
section
variable {w w' w'' : World} {ρ ρ' ρ'' lb lb' lb'' : Nat → Nat} {u j ab fb : Nat} {n st : Int} {B : Bk} {nd kr kr' kd t i o : Nat} {xs : Nat → Int} {p : Int} {P : Nat → Pt} {s s' : Ws} {m m' : Mm}
set_option maxHeartbeats 1600000 in
set_option maxRecDepth 1000000 in
theorem f_ask (h : FM w ρ lb u j B nd xs kr kd p P s m) (hd : FD w ρ lb B fb n st) (hQ : FQ kd t P s m) (hn : 0 < n ∧ n ≤ 8) (ho : o < s.objs.length) (ht : t ≤ 5000) (hi : i < 4) (ha : (P i).T.a = some ab) (hal : (P i).x.alive = true) (hoc : (P i).T.oc = 0) (hnx : (P i).x.nx = none) (mp ma mx : Int) (hmp : mp % 4 = (i : Int)) (hmx : mx % n = (o : Int)) :
    Calls Tryz.prog 34 #[.pointer (some ⟨fb, 0, none⟩), .agg #[.int .i64 mp, .int .i64 ma, .int .i64 mx]] w fun e w' => e = .returned (.bool true) ∧ ∃ p' s' ρ' lb', FM w' ρ' lb' u j B nd xs kr kd p (fun k => if k = i then p' else P k) s' m ∧ FQ kd t (fun k => if k = i then p' else P k) s' m ∧ FX u j fb w w' ρ ρ' lb lb' ∧ FD w' ρ' lb' B fb n st ∧ AS (P i) p' s s' := by
  obtain ⟨W0, hW0⟩ : ∃ W0, W0 = w.alloc (.cells #[.int .i64 mp, .int .i64 ma, .int .i64 mx] 32) := ⟨_, rfl⟩
  have K0 : Keeps (fun _ => False) w W0 := by rw [hW0]; exact (Keeps.refl _ w).alloc _
  have hM : CL W0 w.heap.size [.int .i64 mp, .int .i64 ma, .int .i64 mx] := by rw [hW0]; exact CL.made _ [.int .i64 mp, .int .i64 ma, .int .i64 mx] _
  have S0 := h.S0
  have KD := K0.drew.drew
  have h0 := h.new KD
  have d0 := hd.fl S0 (FL.new (u := u) (j := j) KD ρ lb)
  have dA := hd.fl S0 (FL.new (u := u) (j := j) K0.drew ρ lb)
  have fin : ∀ w9 ρ9 lb9, FL u j W0.drew.drew w9 ρ ρ9 lb lb9 → FX u j fb w w9 ρ ρ9 lb lb9 ∧ FD w9 ρ9 lb9 B fb n st := fun w9 ρ9 lb9 L => ⟨((FL.new KD ρ lb).trans L).fx fb, d0.fl S0 L⟩
  have hI0 : (0 : Int) ≤ (i : Int) := by omega
  have hI1 : (i : Int) < 4 := by omega
  have hI2 : (i : Int) ≤ 4 := by omega
  have g5 := dA.tb hi
  have g4 := d0.cl.c 4 _ rfl
  have a0 := hM.drew.c 0 _ rfl
  have b1 := hM.drew.drew.c 1 _ rfl
  have b2 := hM.drew.drew.c 2 _ rfl
  have R1 := rest_any W0.drew mp 4 (by decide)
  rw [hmp] at R1
  have R2 := rest_any W0.drew.drew mx n hn
  rw [hmx] at R2
  have R3 := rest_any W0.drew.drew ma 8 (by decide)
  obtain ⟨a, ea⟩ : ∃ a, ma % 8 = a := ⟨_, rfl⟩
  have ha8 : a = 0 ∨ a = 1 ∨ a = 2 ∨ a = 3 ∨ a = 4 ∨ a = 5 ∨ a = 6 ∨ a = 7 := by omega
  rw [ea] at R3
  clear ea
  go_enter Tryz.func34, Tryz.ntmps34
  go_wp2_with fail
  rw [← hW0]
  clear hW0 hM
  go_region_held3 (fun w' => w'.cell? ⟨w.heap.size, 0, none⟩ = some (.int .i64 mp) ∧ w'.cell? ⟨fb, 5 + i, none⟩ = some (.pointer (some ⟨B.tb i, 0, none⟩))) (first | (go_keep; done)) (first | (go_at_call 10; refine R1.mono ?_; rintro e wq ⟨rfl, rfl⟩))
  rename_i hHeld
  clear hHeld
  go_wp2_with fail
  go_region_held3 (fun w' => w'.cell? ⟨w.heap.size, 2, none⟩ = some (.int .i64 mx) ∧ w'.cell? ⟨fb, 4, none⟩ = some (.int .i64 n)) (first | (go_keep; done)) (first | (go_at_call 10; refine R2.mono ?_; rintro e wq ⟨rfl, rfl⟩))
  rename_i hHeld
  clear hHeld
  go_wp2_with fail
  refine R3.mono ?_
  rintro e wq ⟨rfl, rfl⟩
  rcases ha8 with rfl | rfl | rfl | rfl | rfl | rfl | rfl | rfl
  · have hc := f_read h0 hQ hi ha hal hoc hnx ho
    go_wp2_with (first | (go_at_call 12; refine (num_r _ _).mono ?_; rintro e wq ⟨rfl, rfl⟩) | (go_at_call 33; refine hc.mono ?_; clear hc; rintro e w9 ⟨rfl, p', s', ρ', lb', F9, q9, L9, a9⟩))
    obtain ⟨X9, d9⟩ := fin _ _ _ L9
    go_ret
    exact ⟨rfl, p', s', ρ', lb', F9, q9, X9, d9, a9⟩
  · have hc := f_read h0 hQ hi ha hal hoc hnx ho
    go_wp2_with (first | (go_at_call 12; refine (num_r _ _).mono ?_; rintro e wq ⟨rfl, rfl⟩) | (go_at_call 33; refine hc.mono ?_; clear hc; rintro e w9 ⟨rfl, p', s', ρ', lb', F9, q9, L9, a9⟩))
    obtain ⟨X9, d9⟩ := fin _ _ _ L9
    go_ret
    exact ⟨rfl, p', s', ρ', lb', F9, q9, X9, d9, a9⟩
  · have hc := f_write h0 hQ hi ha hal hoc hnx ho
    go_wp2_with (first | (go_at_call 12; refine (num_r _ _).mono ?_; rintro e wq ⟨rfl, rfl⟩) | (go_at_call 60; refine hc.mono ?_; clear hc; rintro e w9 ⟨rfl, p', s', ρ', lb', F9, q9, L9, a9⟩))
    obtain ⟨X9, d9⟩ := fin _ _ _ L9
    go_ret
    exact ⟨rfl, p', s', ρ', lb', F9, q9, X9, d9, a9⟩
  · have hc := f_write h0 hQ hi ha hal hoc hnx ho
    go_wp2_with (first | (go_at_call 12; refine (num_r _ _).mono ?_; rintro e wq ⟨rfl, rfl⟩) | (go_at_call 60; refine hc.mono ?_; clear hc; rintro e w9 ⟨rfl, p', s', ρ', lb', F9, q9, L9, a9⟩))
    obtain ⟨X9, d9⟩ := fin _ _ _ L9
    go_ret
    exact ⟨rfl, p', s', ρ', lb', F9, q9, X9, d9, a9⟩
  · have hc := f_release h0 hQ hi ha hal hoc hnx ho (by omega)
    go_wp2_with (first | (go_at_call 12; refine (num_r _ _).mono ?_; rintro e wq ⟨rfl, rfl⟩) | (go_at_call 61; refine hc.mono ?_; clear hc; rintro e w9 ⟨⟨qq, rfl⟩, p', s', ρ', lb', F9, q9, L9, a9⟩))
    obtain ⟨X9, d9⟩ := fin _ _ _ L9
    go_ret
    exact ⟨rfl, p', s', ρ', lb', F9, q9, X9, d9, a9⟩
  · have hw := f_owns h0 hi ha (o := (o : Int)) (by have := hQ.pv.inv.no; constructor <;> omega)
    have hc := f_put h0 hQ hi ha hal hoc hnx ho ⟨ma, 0, false⟩
    cases hf : ((P i).f (o : Int)).isSome with
    | false =>
      rw [hf] at hw hc
      simp only [Bool.false_eq_true, if_false] at hc
      go_wp2_with (first | (go_at_call 12; refine (num_r _ _).mono ?_; rintro e wq ⟨rfl, rfl⟩) | (go_at_call 23; refine hw.mono ?_; clear hw; rintro e wq ⟨rfl, rfl⟩) | (go_at_call 62; refine hc.mono ?_; clear hc; rintro e w9 ⟨rfl, p', s', ρ', lb', F9, q9, L9, a9⟩))
      obtain ⟨X9, d9⟩ := fin _ _ _ L9
      go_ret
      exact ⟨rfl, p', s', ρ', lb', F9, q9, X9, d9, a9⟩
    | true =>
      rw [hf] at hw hc
      simp only [if_true] at hc
      go_wp2_with (first | (go_at_call 12; refine (num_r _ _).mono ?_; rintro e wq ⟨rfl, rfl⟩) | (go_at_call 23; refine hw.mono ?_; clear hw; rintro e wq ⟨rfl, rfl⟩) | (go_at_call 62; refine hc.mono ?_; clear hc; rintro e w9 ⟨rfl, p', s', ρ', lb', F9, q9, L9, a9⟩))
      obtain ⟨X9, d9⟩ := fin _ _ _ L9
      go_ret
      exact ⟨rfl, p', s', ρ', lb', F9, q9, X9, d9, a9⟩
  · have hc := f_finish h0 hQ hi ha hal hoc hnx
    go_wp2_with (first | (go_at_call 12; refine (num_r _ _).mono ?_; rintro e wq ⟨rfl, rfl⟩) | (go_at_call 27; refine hc.mono ?_; clear hc; rintro e w9 ⟨rfl, p', s', ρ', lb', F9, q9, L9, a9⟩))
    obtain ⟨X9, d9⟩ := fin _ _ _ L9
    go_ret
    exact ⟨rfl, p', s', ρ', lb', F9, q9, X9, d9, a9⟩
  · have hc := f_quit h0 hQ hi ha hal hoc hnx
    go_wp2_with (first | (go_at_call 12; refine (num_r _ _).mono ?_; rintro e wq ⟨rfl, rfl⟩) | (go_at_call 63; refine hc.mono ?_; clear hc; rintro e w9 ⟨rfl, p', s', ρ', lb', F9, q9, L9, a9⟩))
    obtain ⟨X9, d9⟩ := fin _ _ _ L9
    go_ret
    exact ⟨rfl, p', s', ρ', lb', F9, q9, X9, d9, a9⟩
end
end Go.Proofs.YtgjndhbfjofkeaaGreatDoor

namespace Go.Proofs.YtgjndhbfjofkeaaGreatDoor
open Go.RowKit
attribute [local go_sem] Oper.semAt_some run_store_nf run_store_f
section
variable {w w' w'' : World} {ρ ρ' ρ'' lb lb' lb'' : Nat → Nat} {u j ab fb : Nat} {n st : Int} {B : Bk} {nd kr kr' kd t i o : Nat} {xs : Nat → Int} {p : Int} {P : Nat → Pt} {s s' : Ws} {m m' : Mm}
set_option maxHeartbeats 1600000 in
set_option maxRecDepth 1000000 in
theorem move_step (h : FM w ρ lb u j B nd xs kr kd p P s m) (hd : FD w ρ lb B fb n st) (hQ : FQ kd t P s m) (hB : FB t s m st) (ht : t ≤ 5000) (hi : i < 4) {k : Int} (hst : (P i).T.state (P i).x = k) (hk : k = 0 ∨ k = 2) (mp ma mx : Int) (hmp : mp % 4 = (i : Int)) :
    Calls Tryz.prog 9 #[.pointer (some ⟨fb, 0, none⟩), .agg #[.int .i64 mp, .int .i64 ma, .int .i64 mx]] w fun e w' => ∃ r, e = .returned (.tuple #[.agg r.cells.toArray, .bool true, .bool true]) ∧ FO w ρ lb u j B nd xs kd t i fb n st p P s m r w' := by
  obtain ⟨W0, hW0⟩ : ∃ W0, W0 = (w.alloc (.cells #[.int .i64 mp, .int .i64 ma, .int .i64 mx] 32)).alloc (.cells #[.int .i64 0, .int .i64 0, .int .i64 0, .int .i64 0, .int .i64 0, .int .i64 0, .int .i64 0, .int .i64 0, .int .i64 0, .int .i64 0, .int .i64 0, .int .i64 0, .int .i64 0, .bool false, .bool false, .bool false, .int .i64 0, .bool false, .int .i64 0, .int .i64 0, .bool false, .bool false, .int .i64 0, .int .i64 0, .bool false, .int .i64 0] 36) := ⟨_, rfl⟩
  have K0 : Keeps (fun _ => False) w W0 := by rw [hW0]; exact ((Keeps.refl _ w).alloc _).alloc _
  have hM : CL W0 w.heap.size [.int .i64 mp, .int .i64 ma, .int .i64 mx] := by rw [hW0]; exact (CL.made w [.int .i64 mp, .int .i64 ma, .int .i64 mx] _).alloc (by show 0 < 3; decide) _
  have hZ : CL W0 (w.heap.size + 1) Ro.zero.cells := by
    rw [hW0]
    refine cast ?_ (CL.made (w.alloc (.cells #[.int .i64 mp, .int .i64 ma, .int .i64 mx] 32)) Ro.zero.cells 36)
    congr 1
    simp
  have S0 := h.S0
  have L0 : FL u j w W0 ρ ρ lb lb := FL.new K0 ρ lb
  have h0 := h.new K0
  have d0 := hd.fl S0 L0
  have rZ : ρ (w.heap.size + 1) = 0 := h.st.bnd _ (by omega)
  have lbZ : lb (w.heap.size + 1) = 0 := h.bd _ (by omega)
  have lfb : fb < w.heap.size := hd.cl.lt (by show 0 < 10; decide)
  have hI0 : (0 : Int) ≤ (i : Int) := by omega
  have hI1 : (i : Int) < 4 := by omega
  have hI2 : (i : Int) ≤ 4 := by omega
  have g5 := d0.tb hi
  have a0 := hM.c 0 _ rfl
  have R1 := rest_any W0 mp 4 (by decide)
  rw [hmp] at R1
  have hT := h.tst hi K0
  rw [hst] at hT
  have hS := f_steps h0 d0 hQ hB ht hi (by rw [hst]; exact hk)
  have hc : (k == 3) = false ∧ (k == 1) = false := by rcases hk with rfl | rfl <;> exact ⟨rfl, rfl⟩
  obtain ⟨hc3, hc1⟩ := hc
  go_enter Tryz.func9, Tryz.ntmps9
  go_wp2_with fail
  rw [← hW0]
  clear hW0 hM
  refine R1.mono ?_
  rintro e wq ⟨rfl, ew⟩
  subst wq
  go_wp2_with (first | (go_at_call 16; refine hT.mono ?_; clear hT; rintro e wq ⟨rfl, ew⟩; subst wq) | (go_at_call 28; fail))
  refine hS.mono ?_
  clear hS
  rintro e W3 ⟨r, rfl, p', s', m', kr', ρ3, lb3, F3, Q3, X3, d3, B3, hSI⟩
  have lZ0 : w.heap.size + 1 < W0.heap.size := hZ.lt (by show 0 < 26; decide)
  have hZ3 := hZ.keep (by show 0 < 26; decide) X3.keeps (fun e => e.elim (fun e => S0 (by rw [rZ] at e; exact e)) (fun e => e.elim (fun e => by rw [lbZ] at e; omega) (fun e => by omega)))
  have o3 := X3.old _ lZ0
  have lZ3 : w.heap.size + 1 < W3.heap.size := hZ3.lt (by show 0 < 26; decide)
  obtain ⟨W4, hW4⟩ : ∃ W4, W4 = W3.alloc (.cells #[.int .i64 0, .int .i64 0, .int .i64 0, .int .i64 0, .int .i64 0, .int .i64 0, .int .i64 0, .int .i64 0, .int .i64 0, .int .i64 0, .int .i64 0, .int .i64 0, .int .i64 0, .bool false, .bool false, .bool false, .int .i64 0, .bool false, .int .i64 0, .int .i64 0, .bool false, .bool false, .int .i64 0, .int .i64 0, .bool false, .int .i64 0] 36) := ⟨_, rfl⟩
  have k4 : Keeps (fun _ => False) W3 W4 := by rw [hW4]; exact (Keeps.refl _ W3).alloc _
  have hc4 : CL W4 W3.heap.size Ro.zero.cells := by rw [hW4]; exact CL.made _ Ro.zero.cells _
  have m1 : ¬ w.heap.size + 1 = W3.heap.size := by omega
  clear g5 a0
  go_wp2_with (first | (rw [← hW4]; clear hW4; refine wpList_store_cl rfl 36 _ _ rfl W3.heap.size 0 26 _ rfl rfl rfl hc4 (by show 26 ≤ 26; decide) i46 (all_oneCell_toArray (by simp [Ro.cells, Value.oneCell'])) ?_; intro w5 hc5 k5 hsz5; clear hsz5 hc4; have hg5 := run_row (r := r) hc5; have hZ5 := (hZ3.keep (by show 0 < 26; decide) k4 (fun e => e)).keep (by show 0 < 26; decide) k5 m1) | (refine wpList_load_run rfl 36 _ rfl ⟨W3.heap.size, 0, none⟩ rfl _ hg5 ?_; clear hg5) | (refine wpList_store_cl rfl 36 _ _ rfl (w.heap.size + 1) 0 26 _ rfl rfl rfl hZ5 (by show 26 ≤ 26; decide) i46 (all_oneCell_toArray (by simp [Ro.cells, Value.oneCell'])) ?_; intro w6 hc6 k6 hsz6; clear hsz6))
  have hr6 := run_row (r := r) hc6
  have kf : Keeps (fun k => k = W3.heap.size ∨ k = w.heap.size + 1) W3 w6 := (k4.mono (fun _ _ e => e.elim)).trans' ((k5.mono (fun _ _ e => .inl e)).trans (k6.mono (fun _ _ e => .inr e))) (fun _ _ e => e) (fun _ _ e => e)
  have F7 := F3.own kf (fun k hk e => by
    rcases e with e | e
    · omega
    · rw [e]; exact ⟨o3.1.trans rZ, o3.2.trans lbZ⟩)
  have X7 := ((L0.fx fb).trans X3).own kf (fun k hk e => by have := K0.size; have := X3.keeps.size; omega)
  have d7 : FD w6 ρ3 lb3 B fb n (st + 1) := ⟨d3.cl.keep (by show 0 < 10; decide) kf (fun e => by have := K0.size; have := X3.keeps.size; omega), d3.r, d3.l⟩
  refine bodyPost_ret (v := .tuple #[.agg r.cells.toArray, .bool true, .bool true]) ?_ rfl ⟨r, rfl, p', s', m', kr', ρ3, lb3, F7, Q3, X7, d7, B3, hSI⟩
  simp [results, Tryz.f9, asAddr, hr6, Result.andThen]
set_option maxHeartbeats 1600000 in
set_option maxRecDepth 1000000 in
theorem move_ask (h : FM w ρ lb u j B nd xs kr kd p P s m) (hd : FD w ρ lb B fb n st) (hQ : FQ kd t P s m) (hn : 0 < n ∧ n ≤ 8) (ho : o < s.objs.length) (ht : t ≤ 5000) (hi : i < 4) (ha : (P i).T.a = some ab) (hal : (P i).x.alive = true) (hoc : (P i).T.oc = 0) (hnx : (P i).x.nx = none) (mp ma mx : Int) (hmp : mp % 4 = (i : Int)) (hmx : mx % n = (o : Int)) :
    Calls Tryz.prog 9 #[.pointer (some ⟨fb, 0, none⟩), .agg #[.int .i64 mp, .int .i64 ma, .int .i64 mx]] w fun e w' => e = .returned (.tuple #[.agg Ro.zero.cells.toArray, .bool false, .bool true]) ∧ ∃ p' s' ρ' lb', FM w' ρ' lb' u j B nd xs kr kd p (fun k => if k = i then p' else P k) s' m ∧ FQ kd t (fun k => if k = i then p' else P k) s' m ∧ FX u j fb w w' ρ ρ' lb lb' ∧ FD w' ρ' lb' B fb n st ∧ AS (P i) p' s s' := by
  obtain ⟨W0, hW0⟩ : ∃ W0, W0 = (w.alloc (.cells #[.int .i64 mp, .int .i64 ma, .int .i64 mx] 32)).alloc (.cells #[.int .i64 0, .int .i64 0, .int .i64 0, .int .i64 0, .int .i64 0, .int .i64 0, .int .i64 0, .int .i64 0, .int .i64 0, .int .i64 0, .int .i64 0, .int .i64 0, .int .i64 0, .bool false, .bool false, .bool false, .int .i64 0, .bool false, .int .i64 0, .int .i64 0, .bool false, .bool false, .int .i64 0, .int .i64 0, .bool false, .int .i64 0] 36) := ⟨_, rfl⟩
  have K0 : Keeps (fun _ => False) w W0 := by rw [hW0]; exact ((Keeps.refl _ w).alloc _).alloc _
  have hM : CL W0 w.heap.size [.int .i64 mp, .int .i64 ma, .int .i64 mx] := by rw [hW0]; exact (CL.made w [.int .i64 mp, .int .i64 ma, .int .i64 mx] _).alloc (by show 0 < 3; decide) _
  have hZ : CL W0 (w.heap.size + 1) Ro.zero.cells := by
    rw [hW0]
    refine cast ?_ (CL.made (w.alloc (.cells #[.int .i64 mp, .int .i64 ma, .int .i64 mx] 32)) Ro.zero.cells 36)
    congr 1
    simp
  have S0 := h.S0
  have L0 : FL u j w W0 ρ ρ lb lb := FL.new K0 ρ lb
  have h0 := h.new K0
  have d0 := hd.fl S0 L0
  have rZ : ρ (w.heap.size + 1) = 0 := h.st.bnd _ (by omega)
  have lbZ : lb (w.heap.size + 1) = 0 := h.bd _ (by omega)
  have lfb : fb < w.heap.size := hd.cl.lt (by show 0 < 10; decide)
  have hI0 : (0 : Int) ≤ (i : Int) := by omega
  have hI1 : (i : Int) < 4 := by omega
  have hI2 : (i : Int) ≤ 4 := by omega
  have g5 := d0.tb hi
  have a0 := hM.c 0 _ rfl
  have R1 := rest_any W0 mp 4 (by decide)
  rw [hmp] at R1
  have hT := h.tst hi K0
  have hst : (P i).T.state (P i).x = 1 := by unfold Tr.state Tx.state; rw [if_pos hoc, ha, hal, hnx]; rfl
  rw [hst] at hT
  have a1 := hM.c 1 _ rfl
  have a2 := hM.c 2 _ rfl
  have hS := f_ask h0 d0 hQ hn ho ht hi ha hal hoc hnx mp ma mx hmp hmx
  go_enter Tryz.func9, Tryz.ntmps9
  go_wp2_with fail
  rw [← hW0]
  clear hW0 hM
  refine R1.mono ?_
  rintro e wq ⟨rfl, ew⟩
  subst wq
  go_wp2_with (first | (go_at_call 16; refine hT.mono ?_; clear hT; rintro e wq ⟨rfl, ew⟩; subst wq) | (go_at_call 34; fail))
  refine hS.mono ?_
  clear hS
  rintro e W3 ⟨rfl, p', s', ρ3, lb3, F3, Q3, X3, d3, a3⟩
  have lZ0 : w.heap.size + 1 < W0.heap.size := hZ.lt (by show 0 < 26; decide)
  have hZ3 := hZ.keep (by show 0 < 26; decide) X3.keeps (fun e => e.elim (fun e => S0 (by rw [rZ] at e; exact e)) (fun e => e.elim (fun e => by rw [lbZ] at e; omega) (fun e => by omega)))
  have o3 := X3.old _ lZ0
  have lf : fb < w.heap.size + 1 := by omega
  clear g5 a0 a1 a2
  go_wp2_with (first | (refine wpList_store_cl rfl 36 _ _ rfl (w.heap.size + 1) 0 26 _ rfl rfl rfl hZ3 (by show 26 ≤ 26; decide) i46 (all_oneCell_toArray (by simp [Value.oneCell'])) ?_; intro w6 hc6 k6 hsz6; clear hsz6))
  have hr6 := run_row (r := Ro.zero) hc6
  have F7 := F3.own k6 (fun k hk e => by have e : k = w.heap.size + 1 := e; rw [e]; exact ⟨o3.1.trans rZ, o3.2.trans lbZ⟩)
  have X7 := ((L0.fx fb).trans X3).own k6 (fun k hk e => by omega)
  have d7 : FD w6 ρ3 lb3 B fb n st := ⟨d3.cl.keep (by show 0 < 10; decide) k6 (fun e => by omega), d3.r, d3.l⟩
  refine bodyPost_ret (v := .tuple #[.agg Ro.zero.cells.toArray, .bool false, .bool true]) ?_ rfl ⟨rfl, p', s', ρ3, lb3, F7, Q3, X7, d7, a3⟩
  simp [results, Tryz.f9, asAddr, hr6, Result.andThen]
end
end Go.Proofs.YtgjndhbfjofkeaaGreatDoor

namespace Go.Proofs.YtgjndhbfjofkeaaGreatDoor
open Go.RowKit
attribute [local go_sem] Oper.semAt_some run_store_nf run_store_f
section
variable {w w' w'' : World} {ρ ρ' ρ'' lb lb' lb'' : Nat → Nat} {u j ab fb : Nat} {n st : Int} {B : Bk} {nd kr kr' kd t i o : Nat} {xs : Nat → Int} {p : Int} {P : Nat → Pt} {s s' : Ws} {m m' : Mm}
set_option maxHeartbeats 1600000 in
set_option maxRecDepth 1000000 in
theorem move_over (h : FM w ρ lb u j B nd xs kr kd p P s m) (hd : FD w ρ lb B fb n st) (hQ : FQ kd t P s m) (hi : i < 4) (hoc : (P i).T.oc ≠ 0) (mp ma mx : Int) (hmp : mp % 4 = (i : Int)) :
    Calls Tryz.prog 9 #[.pointer (some ⟨fb, 0, none⟩), .agg #[.int .i64 mp, .int .i64 ma, .int .i64 mx]] w fun e w' => e = .returned (.tuple #[.agg Ro.zero.cells.toArray, .bool false, .bool true]) ∧ FM w' ρ lb u j B nd xs kr kd p P s m ∧ FX u j fb w w' ρ ρ lb lb ∧ FD w' ρ lb B fb n st := by
  obtain ⟨W0, hW0⟩ : ∃ W0, W0 = (w.alloc (.cells #[.int .i64 mp, .int .i64 ma, .int .i64 mx] 32)).alloc (.cells #[.int .i64 0, .int .i64 0, .int .i64 0, .int .i64 0, .int .i64 0, .int .i64 0, .int .i64 0, .int .i64 0, .int .i64 0, .int .i64 0, .int .i64 0, .int .i64 0, .int .i64 0, .bool false, .bool false, .bool false, .int .i64 0, .bool false, .int .i64 0, .int .i64 0, .bool false, .bool false, .int .i64 0, .int .i64 0, .bool false, .int .i64 0] 36) := ⟨_, rfl⟩
  have K0 : Keeps (fun _ => False) w W0 := by rw [hW0]; exact ((Keeps.refl _ w).alloc _).alloc _
  have hM : CL W0 w.heap.size [.int .i64 mp, .int .i64 ma, .int .i64 mx] := by rw [hW0]; exact (CL.made w [.int .i64 mp, .int .i64 ma, .int .i64 mx] _).alloc (by show 0 < 3; decide) _
  have hZ : CL W0 (w.heap.size + 1) Ro.zero.cells := by
    rw [hW0]
    refine cast ?_ (CL.made (w.alloc (.cells #[.int .i64 mp, .int .i64 ma, .int .i64 mx] 32)) Ro.zero.cells 36)
    congr 1
    simp
  have S0 := h.S0
  have L0 : FL u j w W0 ρ ρ lb lb := FL.new K0 ρ lb
  have h0 := h.new K0
  have d0 := hd.fl S0 L0
  have rZ : ρ (w.heap.size + 1) = 0 := h.st.bnd _ (by omega)
  have lbZ : lb (w.heap.size + 1) = 0 := h.bd _ (by omega)
  have lfb : fb < w.heap.size := hd.cl.lt (by show 0 < 10; decide)
  have hI0 : (0 : Int) ≤ (i : Int) := by omega
  have hI1 : (i : Int) < 4 := by omega
  have hI2 : (i : Int) ≤ 4 := by omega
  have g5 := d0.tb hi
  have a0 := hM.c 0 _ rfl
  have R1 := rest_any W0 mp 4 (by decide)
  rw [hmp] at R1
  have hT := h.tst hi K0
  have hst : (P i).T.state (P i).x = 3 := by unfold Tr.state; rw [if_neg hoc]
  have pq := hQ.pt i hi
  obtain ⟨ab, ha⟩ : ∃ ab, (P i).T.a = some ab := by
    cases e : (P i).T.a with
    | none => exact absurd (pq.no e).2.1 hoc
    | some ab => exact ⟨ab, rfl⟩
  have hal := (pq.so ab ha).oc hoc
  have hxs : (P i).x.state = 3 := by unfold Tx.state; rw [if_pos hal]
  have fa0 := h0.ax i ab hi ha
  have hss : ∀ W, Keeps (fun _ => False) W0 W → Calls Tryz.prog 39 #[.pointer (some ⟨ab, 0, none⟩)] W fun e w' => e = .returned (.int .i64 3) ∧ w' = W := fun W K => by
    have := state_any (fa0.ax.cl.keep (by show 0 < 36; decide) K (fun e => e))
    rw [hxs] at this
    exact this
  rw [hst] at hT
  have hS := step_o (h0.tc i hi).1 ha hss (fun W K => h0.fresh hi hst W K)
  have hRd : ∀ W, Keeps (fun _ => False) W0 W → Calls Tryz.prog 33 #[.pointer (some ⟨B.tb i, 0, none⟩), .int .i64 0] W fun e w' => e = .returned (.int .i64 80) ∧ w' = W := fun W K =>
    t_read ((h0.tc i hi).1.keep (by show 0 < 13; decide) K (fun e => e)) (h0.fresh hi hst W K) (q := some ⟨ab, 0, none⟩) (by rw [ha]; rfl) 0 (Q := fun w' => w' = W) (read_o (hss W K) 0)
  go_enter Tryz.func9, Tryz.ntmps9
  go_wp2_with fail
  rw [← hW0]
  clear hW0 hM
  refine R1.mono ?_
  rintro e wq ⟨rfl, ew⟩
  subst wq
  go_wp2_with (first | (go_at_call 16; refine hT.mono ?_; clear hT; rintro e wq ⟨rfl, ew⟩; subst wq) | (go_at_call 32; fail))
  refine hS.mono ?_
  clear hS
  rintro e W3 ⟨rfl, k3⟩
  obtain ⟨W4, hW4⟩ : ∃ W4, W4 = W3.alloc (.cells #[.int .i64 0, .int .i64 0, .int .i64 0, .int .i64 0, .int .i64 0, .int .i64 0, .int .i64 0, .int .i64 0, .int .i64 0, .int .i64 0, .int .i64 0, .int .i64 0, .int .i64 0, .bool false, .bool false, .bool false, .int .i64 0, .bool false, .int .i64 0, .int .i64 0, .bool false, .bool false, .int .i64 0, .int .i64 0, .bool false, .int .i64 0] 36) := ⟨_, rfl⟩
  have k4 : Keeps (fun _ => False) W3 W4 := by rw [hW4]; exact (Keeps.refl _ W3).alloc _
  have hc4 : CL W4 W3.heap.size Ro.zero.cells := by rw [hW4]; exact CL.made _ Ro.zero.cells _
  have lZ0 : w.heap.size + 1 < W0.heap.size := hZ.lt (by show 0 < 26; decide)
  have l3 := k3.size
  have m1 : ¬ w.heap.size + 1 = W3.heap.size := by omega
  have m2 : ¬ fb = W3.heap.size := by omega
  have hZ4 := hZ.keep (by show 0 < 26; decide) (k3.trans k4) (fun e => e)
  have d4 : FD W4 ρ lb B fb n st := d0.fl S0 (FL.new (u := u) (j := j) (k3.trans k4) ρ lb)
  clear g5 a0
  go_wp2_with (first | (rw [← hW4]; clear hW4; refine wpList_store_cl rfl 36 _ _ rfl W3.heap.size 0 26 _ rfl rfl rfl hc4 (by show 26 ≤ 26; decide) i46 (all_oneCell_toArray (by simp [Ro.cells, Value.oneCell'])) ?_; intro w5 hc5 k5 hsz5; clear hsz5 hc4; have hZ5 := hZ4.keep (by show 0 < 26; decide) k5 m1; have K5 : Keeps (fun _ => False) W0 w5 := (k3.trans k4).trans' k5 (fun _ _ e => e) (fun k hk e => by omega); have d5 : FD w5 ρ lb B fb n st := ⟨d4.cl.keep (by show 0 < 10; decide) k5 m2, d4.r, d4.l⟩; have g5 := d5.tb hi) | (go_at_call 12; refine (num_r _ _).mono ?_; rintro e wq ⟨rfl, ew⟩; subst wq) | (go_at_call 33; refine (hRd _ K5).mono ?_; rintro e wq ⟨rfl, ew⟩; subst wq) | (refine wpList_store_cl rfl 36 _ _ rfl (w.heap.size + 1) 0 26 _ rfl rfl rfl hZ5 (by show 26 ≤ 26; decide) i46 (all_oneCell_toArray (by simp [Value.oneCell'])) ?_; intro w6 hc6 k6 hsz6; clear hsz6))
  have hr6 := run_row (r := Ro.zero) hc6
  have kf : Keeps (fun k => k = w.heap.size + 1) W0 w6 := (K5.mono (fun _ _ e => e.elim)).trans k6
  have F7 := h0.own kf (fun k hk e => by have e : k = w.heap.size + 1 := e; rw [e]; exact ⟨rZ, lbZ⟩)
  have X7 := (L0.fx fb).own kf (fun k hk e => by omega)
  have d7 : FD w6 ρ lb B fb n st := ⟨d0.cl.keep (by show 0 < 10; decide) kf (fun e => by omega), d0.r, d0.l⟩
  refine bodyPost_ret (v := .tuple #[.agg Ro.zero.cells.toArray, .bool false, .bool true]) ?_ rfl ⟨rfl, F7, X7, d7⟩
  simp [results, Tryz.f9, asAddr, hr6, Result.andThen]
end
end Go.Proofs.YtgjndhbfjofkeaaGreatDoor

