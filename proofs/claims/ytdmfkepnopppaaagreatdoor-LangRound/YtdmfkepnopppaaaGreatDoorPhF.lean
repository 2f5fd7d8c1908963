import Derived.Test.YtdmfkepnopppaaaGreatDoorPhE
namespace Go.Proofs.YtdmfkepnopppaaaGreatDoor
open Go.RowKit Go.Deep Go.ChangeShapes Go.WideShapes Go.ChangeAt
attribute [local go_sem] Oper.semAt_some run_store_nf run_store_f
theorem takes_load' {P : Program} {w : World} {o : Oper} {a : Act} (ty : TypeId) (x : Operand) (ho : o.op = .load ty x) (ad : Addr) (hx : a.eval x = .pointer (some ad)) {v : Value} (hr : (loadVar ty ad).run P w = .ok v w) : (execOp a.eval o).run P w = .ok (.value v) w := by
  unfold execOp
  simp only [ho, hx, Instr.loadAt, Instr.sureAddr, Sem.run_bind, Sem.run_pure, Result.andThen_ok, hr]
theorem wpAnyH_two' {P : Program} {ops : Array Oper} {Q : Exit → Act → World → Prop} {md : Region.Mode} {S : World → Prop} {fuel : Nat} {listed : Array Bool} {a : Act} {w : World} {o o2 : Oper} (i i2 : Nat) (hr : Region.ready md ops listed = [i, i2]) (hoi : ops[i]? = some o) (hoi2 : ops[i2]? = some o2) (hw : Region.wanted o (yielded ops a.tmps) = true) (hw2 : Region.wanted o2 (yielded ops a.tmps) = true)
    (h : Oper.wp P o a w (fun a' w' => S w' ∧ (S w' → wpAnyH P md ops Q S fuel (listed.setIfInBounds i true) a' w')) Q) (h2 : Oper.wp P o2 a w (fun a' w' => S w' ∧ (S w' → wpAnyH P md ops Q S fuel (listed.setIfInBounds i2 true) a' w')) Q) : wpAnyH P md ops Q S (fuel + 1) listed a w := by
  refine wpAnyH_ready hr (by simp) (AllReadyH.cons hoi (fun K hK => ?_) (AllReadyH.cons hoi2 (fun K hK => ?_) AllReadyH.nil))
  · rw [if_pos hw]
    exact Oper.wp_mono (fun a' w' e => hK.out _ _ e.1 e.2) h
  · rw [if_pos hw2]
    exact Oper.wp_mono (fun a' w' e => hK.out _ _ e.1 e.2) h2
theorem append_i2 {W : World} {base k : Nat} {v : Value} {qs : List Ins} (hown : W.ownsRow base 45 11 v k (icl qs)) (hb : base ≤ W.heap.size) (hk : (k + 1) * 88 ≤ 140737488355328) (q : Ins) :
    ∃ v' w', (Builtin.append_ #[23, 23] 23 #[v, .slice (some ⟨W.heap.size, 0, none⟩) 1 1]).run Tryz.prog (W.alloc (.cells #[.int .i64 q.code, .int .i64 q.dst, .bool q.oR, .int .i64 q.oN, .bool q.xR, .int .i64 q.xN, .bool q.yR, .int .i64 q.yN, .int .i64 q.op, .int .i64 q.rel, .int .i64 q.to] 45)) = .ok v' w' ∧ w'.ownsRow base 45 11 v' (k + 1) (icl (qs ++ [q])) ∧ Keeps (fun i => v.ownBlock = some i) W w' ∧ (v'.ownBlock = v.ownBlock ∨ v'.ownBlock = some (W.heap.size + 1)) := by
  obtain ⟨i0, hi0, hz0, hz1, hz2⟩ := oIi
  obtain ⟨v', w', hr, ho, hg, _, hbl⟩ := run_append_own_at (P := Tryz.prog) (w := W.alloc (.cells q.cells.toArray 45)) base 23 23 45 i0 _ 11 88 oI hi0 hz0 hz1 hz2 rfl (by decide) v k (icl qs) (((Keeps.refl (fun _ => False) W).alloc _).owns hown (fun _ _ e => e)) ⟨W.heap.size, 0, none⟩ 1 1 q.cells rfl (fun j u hu => by
      rw [add_at]
      have := (CL.made W q.cells 45).c j u hu
      simpa using this) (fun u hu => by
      have := all_oneCell_ins q
      simp [Ins.cells] at hu
      rcases hu with rfl | rfl | rfl | rfl | rfl | rfl | rfl | rfl | rfl | rfl | rfl <;> rfl) (by unfold maxLen; omega) (by omega) (Nat.le_trans hb (by simp))
  refine ⟨v', w', hr, ?_, ((Keeps.refl _ W).alloc _).grown hg (fun i _ e => e), by simpa using hbl⟩
  unfold icl
  rw [List.flatMap_append]
  simpa [icl] using ho
theorem iPc : (Tryz.prog.info? 76).map (·.size) = some 3 := by kernel_rfl
theorem run_pcAt {W : World} {b o : Nat} {p : Pc} (hc : ∀ j v, p.cells[j]? = some v → W.cell? ⟨b, o + j, none⟩ = some v) : (loadVar 76 ⟨b, o, none⟩).run Tryz.prog W = .ok (.agg p.cells.toArray) W :=
  run_loadVar_mid W b o 76 p.cells _ hc Tryz.underlying76 rfl (by rw [iPc]; rfl)
set_option maxHeartbeats 500000 in
set_option maxRecDepth 1000000 in
theorem instr_ok {w : World} {base R : Nat} {mv jv : Value} {qs : List Ins} {b off cap : Nat} {p0 : Pc} {r : List Pc} {q : Ins} (hT : PT w) (hNT : NT w) (hI : RI w base R mv jv qs) (hbw : base ≤ w.heap.size) (hw : PCL w (some ⟨b, off, none⟩) (p0 :: r)) (hsz : ∀ p ∈ r, p.t.size ≤ 4096) (hm : inst (p0 :: r) = some q) (hn : qs.length < 64) : Calls Tryz.prog 26 #[.pointer (some ⟨R, 0, none⟩), .slice (some ⟨b, off, none⟩) (r.length + 1) cap] w fun e w' => e = .returned (.tuple #[]) ∧ RI w' base R mv jv (qs ++ [q]) ∧ Keeps (IRw w base R) w w' := by
  obtain ⟨q0, hnm, hfl⟩ := Option.bind_eq_some_iff.1 (show (nmd p0.t).bind (fun q => fills q (slo q.code.toNat) r) = some q from hm)
  clear hm
  obtain ⟨c, hcd, hc1, hc2⟩ := nmd_code hnm
  rw [hcd, Int.toNat_natCast] at hfl
  have hlen := fills_len _ _ _ _ hfl
  obtain ⟨b', off', e', hp0⟩ := hw 0 p0 rfl
  obtain ⟨rfl, rfl⟩ : b = b' ∧ off = off' := by
    injection e' with e'; injection e' with e1 e2 _; exact ⟨e1, e2⟩
  clear e'
  have hR0 := run_pcAt (W := w) (b := b) (o := off) (p := p0) (fun j v e => by have := hp0 j v e; rw [Nat.zero_mul, Nat.add_zero] at this; exact this)
  have hNm := named_ok p0.t p0.ln p0.col hT.lt hNT hnm
  obtain ⟨⟨cv, hCR, hown, hnR⟩, hbR⟩ := hI
  obtain ⟨ac, capc, rfl, hisl⟩ := isl_of_owns hown rfl
  have hl64 : ((qs.length : Int) == 64) = false := by simp; omega
  go_enter Tryz.func26, Tryz.ntmps26
  go_wp2_with (refine wpList_load_run rfl 76 _ rfl ⟨b, off, none⟩ rfl _ hR0 ?_; clear hR0)
  refine (show Calls Tryz.prog 41 #[.agg p0.cells.toArray] w _ from hNm).mono ?_
  rintro e w1 ⟨rfl, k1⟩
  obtain ⟨W4, hW4⟩ : ∃ W4, W4 = w1.alloc (.cells #[.int .i64 0, .int .i64 0, .bool false, .int .i64 0, .bool false, .int .i64 0, .bool false, .int .i64 0, .int .i64 0, .int .i64 0, .int .i64 0] 45) := ⟨_, rfl⟩
  have k4 : Keeps (fun _ => False) w1 W4 := by rw [hW4]; exact (Keeps.refl _ w1).alloc _
  have hU4 : CL W4 w1.heap.size ins0.cells := by rw [hW4]; exact CL.made w1 ins0.cells _
  have hA := all_oneCell_ins q0
  have HW : Hid (_ = _) := hW4
  clear hW4 hNm
  obtain ⟨sv, hsv, asl, capsl, rfl, hsl⟩ := hT.lt.sh c hc1 hc2
  obtain ⟨hs4, hs6⟩ := slo_le c
  go_wp2_with (rw [← HW.out]; clear HW; refine wpList_store_cl rfl 45 _ _ rfl w1.heap.size 0 11 _ rfl rfl rfl hU4 (by show 11 ≤ 11; decide) iIn hA ?_; intro w5 hc5 k5 hsz5; clear hsz5; have hI5 : CL w5 w1.heap.size q0.cells := hc5; clear hc5; have K5 : Keeps (fun _ => False) w w5 := (k1.trans k4).trans' k5 (fun _ _ e => e) (fun i hi e => by have := k1.size; have e : i = w1.heap.size := e; omega); have CR5 := hCR.keep (by show 0 < 3; decide) K5 (fun e => e); have r0 := CR5.c 0 _ rfl; have ic := hI5.c 0 _ rfl; rw [hcd] at ic; have s5 := K5.cell hsv (fun e => e))
  have hib := k1.size
  have hibR : w1.heap.size ≠ R := fun e => by have := hCR.lt (by show 0 < 3; decide); omega
  have hown5 := K5.owns hown (fun _ _ e => e)
  have hnI : Value.ownBlock (.slice ac qs.length capc) ≠ some w1.heap.size := fun e => by have := owns_lt' hown _ e; omega
  clear hU4 hA k1 k4 k5 r0 s5 ic hp0 hnm
  generalize w1.heap.size = ib at *
  clear w1
  go_loopw [28] (fun iv Wr => ∃ (k : Nat) (u : Ins), iv = .int .i64 (k : Int) ∧ k ≤ (slo c).length ∧ Fl q0 u (slo c) r k q ∧ CL Wr ib u.cells ∧ Keeps (fun k => k = ib) w5 Wr) (fun iv _ => (slo c).length - (intOf iv).toNat)
  case atStart => exact ⟨0, q0, rfl, Nat.zero_le _, ⟨hfl, rfl⟩, hI5, Keeps.refl _ _⟩
  case round =>
    obtain ⟨k, u, rfl, hk, hF, hU, kr⟩ := hrel
    have Kr : Keeps (fun _ => False) w wr := K5.trans' kr (fun _ _ e => e) (fun i hi e => by have e : i = ib := e; omega)
    by_cases hlt : k < (slo c).length
    · have hltI : decide ((k : Int) < ((slo c).length : Int)) = true := by simp; omega
      have hltJ : (k : Int) < ((slo c).length : Int) := by omega
      have hk0 : (0 : Int) ≤ (k : Int) := by omega
      have hk1 : (0 : Int) ≤ (k : Int) + 1 := by omega
      have hkr : (k : Int) + 1 < (r.length : Int) + 1 := by omega
      have hne : (((k : Int) + 1) == ((r.length : Int) + 1)) = false := by simp; omega
      obtain ⟨s, hs⟩ : ∃ s, (slo c)[k]? = some s := ⟨_, List.getElem?_eq_getElem hlt⟩
      obtain ⟨p, hp⟩ : ∃ p, r[k]? = some p := ⟨_, List.getElem?_eq_getElem (by omega)⟩
      obtain ⟨u', hfi, hF'⟩ := hF.next hs hp
      obtain ⟨sb, so, rfl, hsc⟩ := hsl k s hs
      have hsc' := Kr.cell hsc (fun e => e)
      obtain ⟨b', off', e', hpc⟩ := hw (k + 1) p (by rw [List.getElem?_cons_succ]; exact hp)
      obtain ⟨rfl, rfl⟩ : b = b' ∧ off = off' := by
        injection e' with e'; injection e' with e1 e2 _; exact ⟨e1, e2⟩
      clear e'
      have hRk := run_pcAt (W := wr) (b := b) (o := off + (k + 1) * 3) (p := p) (fun j v e => Kr.cell (hpc j v e) (fun e => e))
      have hfc := fill_ok (w := wr) (r := .pointer (some ⟨R, 0, none⟩)) p.t p.ln p.col (hsz p (List.mem_of_getElem? hp)) (hT.keep Kr) hU hfi
      clear hF hpc hsc hs hp hfi
      go_wp2_with (refine wpList_load_run rfl 76 _ rfl ⟨b, off + (k + 1) * 3, none⟩ rfl _ hRk ?_; clear hRk)
      refine (show Calls Tryz.prog 43 #[.pointer (some ⟨R, 0, none⟩), .pointer (some ⟨ib, 0, none⟩), .int .i64 s, .agg p.cells.toArray] wr _ from hfc).mono ?_
      rintro e w6 ⟨rfl, hU6, k6⟩
      clear hfc
      go_wp2_with fail
      go_roundw
      case rel => exact ⟨k + 1, u', by go_num, by omega, hF', hU6, kr.trans k6⟩
      case measure => simp [intOf]; omega
    · obtain rfl : k = (slo c).length := by omega
      obtain rfl := hF.done rfl (by omega)
      have hltI : decide (((slo c).length : Int) < ((slo c).length : Int)) = false := by simp
      have ic := hU.c 0 _ rfl
      rw [show u.code = (c : Int) from hF.c.trans hcd] at ic
      have s5 := Kr.cell hsv (fun e => e)
      have hne : decide (1 + ((slo c).length : Int) < (r.length : Int) + 1) = false := by simp; omega
      have CRr := hCR.keep (by show 0 < 3; decide) Kr (fun e => e)
      have hor := Kr.owns hown (fun _ _ e => e)
      have hnIr := hnI
      go_wp2_with fail
      obtain ⟨cd, dst, oR, oN, xR, xN, yR, yN, op, rel, to⟩ := u
      have Kd : Keeps (fun _ => False) wr wr.drew := (Keeps.refl _ wr).drew
      obtain ⟨v', w', hr, ho, kk, hbl⟩ := append_i2 (Kd.owns hor (fun _ _ e => e)) (by have := Kr.size; show base ≤ wr.heap.size; omega) (by omega) ⟨cd, dst, oR, oN, xR, xN, yR, yN, op, rel, to⟩
      obtain ⟨a', cap', rfl, hisl'⟩ := isl_of_owns ho (by simp)
      have hr' : (Builtin.append_ #[23, 23] 23 #[.slice ac qs.length capc, .slice (some ⟨wr.heap.size, 0, none⟩) 1 1]).run Tryz.prog (wr.alloc (.cells #[.int .i64 cd, .int .i64 dst, .bool oR, .int .i64 oN, .bool xR, .int .i64 xN, .bool yR, .int .i64 yN, .int .i64 op, .int .i64 rel, .int .i64 to] 45)).drew = .ok (.slice a' (qs.length + 1) cap') w' := hr
      clear hr
      have CR' := CRr.drew.keep (by show 0 < 3; decide) kk hnR
      have hRn : Value.ownBlock (.slice a' (qs.length + 1) cap') ≠ some R := fun e => by
        rcases hbl with h | h
        · exact hnR (h.symm.trans e)
        · have h2 : some (wr.heap.size + 1) = some R := h.symm.trans e
          have h3 := CRr.lt (by show 0 < 3; decide)
          injection h2 with h2
          omega
      have KK : Keeps (fun k => Value.ownBlock (.slice ac qs.length capc) = some k) wr w' := (Kd.mono (fun _ _ e => e.elim)).trans kk
      refine wp_region_held_drew (S := fun w' => Keeps (fun i => Value.ownBlock (.slice ac qs.length capc) = some i ∨ i = R) wr w') (by kernel_rfl) (Keeps.refl _ wr).drew (fun hHeld => ?_)
      refine wpAnyH_take (i := 0) (v := ?_) rfl (by kernel_rfl) (by kernel_rfl) (by kernel_rfl) (fun _ _ _ h => h) (Or.inl ⟨by rfl, ?_⟩) (by assumption) ?_
      rotate_left
      · intro wx hSw;  go_simp <;> with_reducible rfl
      (try simp only [List.getElem_toArray]); (try simp only [List.getElem_cons_succ]); (try simp only [List.getElem_cons_zero]); (try simp only [Act.put]); (try simp only [List.setIfInBounds_toArray]); (repeat first | simp only [List.set_cons_succ] | simp only [List.set_cons_zero])

      refine wpAnyH_take (i := 1) (v := ?_) rfl (by kernel_rfl) (by kernel_rfl) (by kernel_rfl) (fun _ _ _ h => h) (Or.inl ⟨by rfl, ?_⟩) (by assumption) ?_
      rotate_left
      · intro wx hSw;  go_simp <;> with_reducible rfl
      (try simp only [List.getElem_toArray]); (try simp only [List.getElem_cons_succ]); (try simp only [List.getElem_cons_zero]); (try simp only [Act.put]); (try simp only [List.setIfInBounds_toArray]); (repeat first | simp only [List.set_cons_succ] | simp only [List.set_cons_zero])

      refine wpAnyH_take (i := 2) (v := ?_) rfl (by kernel_rfl) (by kernel_rfl) (by kernel_rfl) (fun _ _ _ h => h) (Or.inl ⟨by rfl, ?_⟩) (by assumption) ?_
      rotate_left
      · intro wx hSw;  go_simp <;> with_reducible rfl
      (try simp only [List.getElem_toArray]); (try simp only [List.getElem_cons_succ]); (try simp only [List.getElem_cons_zero]); (try simp only [Act.put]); (try simp only [List.setIfInBounds_toArray]); (repeat first | simp only [List.set_cons_succ] | simp only [List.set_cons_zero])

      refine wpAnyH_take (i := 3) (v := ?_) rfl (by kernel_rfl) (by kernel_rfl) (by kernel_rfl) (fun _ _ _ h => h) (Or.inl ⟨by rfl, ?_⟩) (by assumption) ?_
      rotate_left
      · intro wx hSw;  go_simp <;> with_reducible rfl
      (try simp only [List.getElem_toArray]); (try simp only [List.getElem_cons_succ]); (try simp only [List.getElem_cons_zero]); (try simp only [Act.put]); (try simp only [List.setIfInBounds_toArray]); (repeat first | simp only [List.set_cons_succ] | simp only [List.set_cons_zero])

      refine wpAnyH_take (i := 5) (v := .agg #[.int .i64 cd, .int .i64 dst, .bool oR, .int .i64 oN, .bool xR, .int .i64 xN, .bool yR, .int .i64 yN, .int .i64 op, .int .i64 rel, .int .i64 to]) rfl (by kernel_rfl) (by kernel_rfl) (by kernel_rfl) (fun _ _ _ h => h) (Or.inl ⟨by rfl, ?_⟩) (by assumption) ?_
      · intro wx hSw
        exact takes_load' 45 _ rfl ⟨ib, 0, none⟩ rfl (run_ins (hU.keep (by show 0 < 11; decide) hSw (fun e => e.elim hnIr hibR)))
      (try simp only [List.getElem_toArray]); (try simp only [List.getElem_cons_succ]); (try simp only [List.getElem_cons_zero]); (try simp only [Act.put]); (try simp only [List.setIfInBounds_toArray]); (repeat first | simp only [List.set_cons_succ] | simp only [List.set_cons_zero])
      have r0 := CRr.c 0 _ rfl
      have r0a : ∀ ob, (wr.alloc ob).cell? ⟨R, 0, none⟩ = some (.slice ac qs.length capc) := fun ob => (CRr.alloc (by show 0 < 3; decide) ob).c 0 _ rfl
      refine wpAnyH_two' 4 6 (by kernel_rfl) rfl rfl (by rfl) (by rfl) ?_ ?_
      · go_simp
        have hS1 := hHeld
        (try simp only [List.getElem_toArray]); (try simp only [List.getElem_cons_succ]); (try simp only [List.getElem_cons_zero]); (try simp only [Act.put]); (try simp only [List.setIfInBounds_toArray]); (repeat first | simp only [List.set_cons_succ] | simp only [List.set_cons_zero])
        refine wpAnyH_one 6 (by kernel_rfl) rfl rfl ?_
        go_simp
        refine ⟨hS1.alloc _, fun hS2 => ?_⟩
        (try simp only [List.getElem_toArray]); (try simp only [List.getElem_cons_succ]); (try simp only [List.getElem_cons_zero]); (try simp only [Act.put]); (try simp only [List.setIfInBounds_toArray]); (repeat first | simp only [List.set_cons_succ] | simp only [List.set_cons_zero])
        refine wpAnyH_one 7 (by kernel_rfl) rfl rfl ?_
        refine wp_append_run _ _ 23 rfl _ _ _ _ rfl rfl hr' ?_
        refine ⟨KK.mono (fun _ _ e => .inl e), fun hS3 => ?_⟩
        (try simp only [List.getElem_toArray]); (try simp only [List.getElem_cons_succ]); (try simp only [List.getElem_cons_zero]); (try simp only [Act.put]); (try simp only [List.setIfInBounds_toArray]); (repeat first | simp only [List.set_cons_succ] | simp only [List.set_cons_zero])
        have z0 := CR'.z 0 (by show 0 < 3; decide)
        have x0 := CR'.c 0 _ rfl
        refine wpAnyH_take (i := 8) (v := ?_) rfl (by kernel_rfl) (by kernel_rfl) (by kernel_rfl) (fun _ _ _ h => h) (Or.inl ⟨by rfl, ?_⟩) (by assumption) ?_
        rotate_left
        · intro wx hSw;  go_simp <;> with_reducible rfl
        (try simp only [List.getElem_toArray]); (try simp only [List.getElem_cons_succ]); (try simp only [List.getElem_cons_zero]); (try simp only [Act.put]); (try simp only [List.setIfInBounds_toArray]); (repeat first | simp only [List.set_cons_succ] | simp only [List.set_cons_zero])

        refine wpAnyH_take (i := 9) (v := ?_) rfl (by kernel_rfl) (by kernel_rfl) (by kernel_rfl) (fun _ _ _ h => h) (Or.inl ⟨by rfl, ?_⟩) (by assumption) ?_
        rotate_left
        · intro wx hSw;  go_simp <;> with_reducible rfl
        (try simp only [List.getElem_toArray]); (try simp only [List.getElem_cons_succ]); (try simp only [List.getElem_cons_zero]); (try simp only [Act.put]); (try simp only [List.setIfInBounds_toArray]); (repeat first | simp only [List.set_cons_succ] | simp only [List.set_cons_zero])

        refine wpAnyH_one 10 (by kernel_rfl) rfl rfl ?_
        go_simp
        refine ⟨hS3.setCell (fun _ => .inr rfl) _, fun hS4 => ?_⟩
        (try simp only [List.getElem_toArray]); (try simp only [List.getElem_cons_succ]); (try simp only [List.getElem_cons_zero]); (try simp only [Act.put]); (try simp only [List.setIfInBounds_toArray]); (repeat first | simp only [List.set_cons_succ] | simp only [List.set_cons_zero])
        refine wpAnyH_done (by kernel_rfl) ?_ _
        go_wp2_with fail
        go_end0
        refine ⟨rfl, ⟨⟨_, CR'.set (o := 0) (by show 0 < 3; decide) _, ?_, ?_⟩, hbR⟩, ?_⟩
        · have ho' : w'.ownsRow base 45 11 (.slice a' (qs.length + 1) cap') (qs.length + 1) (icl (qs ++ [⟨cd, dst, oR, oN, xR, xN, yR, yN, op, rel, to⟩])) := ho
          rw [List.length_append]
          exact ((Keeps.refl (fun k => k = R) w').setA 0 _).owns ho' (fun g hg e => hRn (e ▸ hg))
        · exact hRn
        · exact ((Kr.mono (fun _ _ e => e.elim)).trans' KK (fun _ _ e => e) (fun i hi e => by obtain ⟨h1, h2⟩ := owns_ty hown i e; exact ⟨h1, .inr h2⟩)).setCell (fun _ => ⟨hbR, .inl rfl⟩) _
      · go_simp
        refine ⟨hHeld.alloc _, fun hS1 => ?_⟩
        (try simp only [List.getElem_toArray]); (try simp only [List.getElem_cons_succ]); (try simp only [List.getElem_cons_zero]); (try simp only [Act.put]); (try simp only [List.setIfInBounds_toArray]); (repeat first | simp only [List.set_cons_succ] | simp only [List.set_cons_zero])
        refine wpAnyH_one 4 (by kernel_rfl) rfl rfl ?_
        go_simp
        have hS2 := hS1
        (try simp only [List.getElem_toArray]); (try simp only [List.getElem_cons_succ]); (try simp only [List.getElem_cons_zero]); (try simp only [Act.put]); (try simp only [List.setIfInBounds_toArray]); (repeat first | simp only [List.set_cons_succ] | simp only [List.set_cons_zero])
        refine wpAnyH_one 7 (by kernel_rfl) rfl rfl ?_
        refine wp_append_run _ _ 23 rfl _ _ _ _ rfl rfl hr' ?_
        refine ⟨KK.mono (fun _ _ e => .inl e), fun hS3 => ?_⟩
        (try simp only [List.getElem_toArray]); (try simp only [List.getElem_cons_succ]); (try simp only [List.getElem_cons_zero]); (try simp only [Act.put]); (try simp only [List.setIfInBounds_toArray]); (repeat first | simp only [List.set_cons_succ] | simp only [List.set_cons_zero])
        have z0 := CR'.z 0 (by show 0 < 3; decide)
        have x0 := CR'.c 0 _ rfl
        refine wpAnyH_take (i := 8) (v := ?_) rfl (by kernel_rfl) (by kernel_rfl) (by kernel_rfl) (fun _ _ _ h => h) (Or.inl ⟨by rfl, ?_⟩) (by assumption) ?_
        rotate_left
        · intro wx hSw;  go_simp <;> with_reducible rfl
        (try simp only [List.getElem_toArray]); (try simp only [List.getElem_cons_succ]); (try simp only [List.getElem_cons_zero]); (try simp only [Act.put]); (try simp only [List.setIfInBounds_toArray]); (repeat first | simp only [List.set_cons_succ] | simp only [List.set_cons_zero])

        refine wpAnyH_take (i := 9) (v := ?_) rfl (by kernel_rfl) (by kernel_rfl) (by kernel_rfl) (fun _ _ _ h => h) (Or.inl ⟨by rfl, ?_⟩) (by assumption) ?_
        rotate_left
        · intro wx hSw;  go_simp <;> with_reducible rfl
        (try simp only [List.getElem_toArray]); (try simp only [List.getElem_cons_succ]); (try simp only [List.getElem_cons_zero]); (try simp only [Act.put]); (try simp only [List.setIfInBounds_toArray]); (repeat first | simp only [List.set_cons_succ] | simp only [List.set_cons_zero])

        refine wpAnyH_one 10 (by kernel_rfl) rfl rfl ?_
        go_simp
        refine ⟨hS3.setCell (fun _ => .inr rfl) _, fun hS4 => ?_⟩
        (try simp only [List.getElem_toArray]); (try simp only [List.getElem_cons_succ]); (try simp only [List.getElem_cons_zero]); (try simp only [Act.put]); (try simp only [List.setIfInBounds_toArray]); (repeat first | simp only [List.set_cons_succ] | simp only [List.set_cons_zero])
        refine wpAnyH_done (by kernel_rfl) ?_ _
        go_wp2_with fail
        go_end0
        refine ⟨rfl, ⟨⟨_, CR'.set (o := 0) (by show 0 < 3; decide) _, ?_, ?_⟩, hbR⟩, ?_⟩
        · have ho' : w'.ownsRow base 45 11 (.slice a' (qs.length + 1) cap') (qs.length + 1) (icl (qs ++ [⟨cd, dst, oR, oN, xR, xN, yR, yN, op, rel, to⟩])) := ho
          rw [List.length_append]
          exact ((Keeps.refl (fun k => k = R) w').setA 0 _).owns ho' (fun g hg e => hRn (e ▸ hg))
        · exact hRn
        · exact ((Kr.mono (fun _ _ e => e.elim)).trans' KK (fun _ _ e => e) (fun i hi e => by obtain ⟨h1, h2⟩ := owns_ty hown i e; exact ⟨h1, .inr h2⟩)).setCell (fun _ => ⟨hbR, .inl rfl⟩) _
end Go.Proofs.YtdmfkepnopppaaaGreatDoor
