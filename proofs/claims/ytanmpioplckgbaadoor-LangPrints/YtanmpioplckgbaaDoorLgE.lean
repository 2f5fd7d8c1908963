import Derived.Test.YtanmpioplckgbaaDoorLgD
namespace Go.Proofs.YtanmpioplckgbaaDoor
open Go.RowKit
attribute [local go_sem] Oper.semAt_some run_store_nf run_store_f
/-- Slots in memory. -/
def SLI (w : World) (v : Value) (l : List Int) : Prop := ∃ a cap, v = .slice a l.length cap ∧ ∀ j x, l[j]? = some x → ∃ b off, a = some ⟨b, off, none⟩ ∧ w.cell? ⟨b, off + j, none⟩ = some (.int .i64 x)
/-- The table of the shapes. -/
def SH (w : World) : Prop := ∀ c, 1 ≤ c → c ≤ 10 → ∃ v, w.cell? ⟨0, c * 2 + 1, none⟩ = some v ∧ SLI w v (slo c)
/-- All three tables. -/
structure LT (w : World) : Prop where
  ot : OT w
  rt : RT w
  sh : SH w
theorem SLI.keep {w w' : World} {v : Value} {l : List Int} (h : SLI w v l) (k : Keeps (fun _ => False) w w') : SLI w' v l := by
  obtain ⟨a, cap, hv, hl⟩ := h
  refine ⟨a, cap, hv, fun j x hx => ?_⟩
  obtain ⟨b, off, e1, e2⟩ := hl j x hx
  exact ⟨b, off, e1, k.cell e2 (fun e => e)⟩
theorem LT.keep {w w' : World} (h : LT w) (k : Keeps (fun _ => False) w w') : LT w' := by
  refine ⟨h.ot.keep k (fun e => e), h.rt.keep k (fun e => e), fun c h1 h2 => ?_⟩
  obtain ⟨v, e, hl⟩ := h.sh c h1 h2
  exact ⟨v, k.cell e (fun e => e), hl.keep k⟩
theorem LT.lt {w : World} (h : LT w) : 2 < w.heap.size := World.block_lt_of_cell? _ _ (h.rt 0 (by decide))
theorem iIn : (Tryd.prog.info? 31).map (·.size) = some 11 := by kernel_rfl
theorem slo_le (c : Nat) : (slo c).length ≤ 4 ∧ ∀ x ∈ slo c, 1 ≤ x ∧ x ≤ 6 := by
  by_cases h : c ≤ 10
  · rcases (by omega : c = 0 ∨ c = 1 ∨ c = 2 ∨ c = 3 ∨ c = 4 ∨ c = 5 ∨ c = 6 ∨ c = 7 ∨ c = 8 ∨ c = 9 ∨ c = 10) with rfl | rfl | rfl | rfl | rfl | rfl | rfl | rfl | rfl | rfl | rfl <;> simp [slo]
  · have : slo c = [] := by
      unfold slo
      rw [List.getD_eq_getElem?_getD, List.getElem?_eq_none (by show 11 ≤ c; omega)]; rfl
    rw [this]; simp
theorem run_ins {W : World} {b : Nat} {q : Ins} (h : CL W b q.cells) : (loadVar 31 ⟨b, 0, none⟩).run Tryd.prog W = .ok (.agg q.cells.toArray) W :=
  run_loadVar_mid W b 0 31 q.cells _ (fun j v e => by have := h.c j v e; rwa [Nat.zero_add]) Tryd.underlying31 rfl (by rw [iIn]; rfl)
def canTail (f : Func) : Code := match f.body with | some (.seq _ (.seq _ (.seq _ (.seq _ (.seq _ t))))) => t | _ => .skip
theorem lays_take {u q : Ins} {l : List Int} {k : Nat} {x : Int} (h : l[k]? = some x) : u.lays q (l.take (k + 1)) = (u.lays q (l.take k)).lay q x := by
  unfold Ins.lays
  rw [List.take_add_one, h, Option.toList_some, List.foldl_append]; rfl
theorem all_take {q : Ins} {n : Int} {l : List Int} {k : Nat} {x : Int} (h : l[k]? = some x) : (l.take (k + 1)).all (q.oks n) = ((l.take k).all (q.oks n) && q.oks n x) := by
  rw [List.take_add_one, h, Option.toList_some, List.all_append]; simp
theorem wpList_load_runG {P : Program} {w : World} {ops : Array Oper} {rest : List Oper} {o : Oper} {a : Act} {Q : Exit → Act → World → Prop} (hw : Region.wanted o (yielded ops a.tmps) = true) (ty : TypeId) (x : Operand) (ho : o.op = .load ty x) (ad : Addr) (hx : a.eval x = .pointer (some ad)) (v : Value)
    (hr : (loadVar ty ad).run P w = .ok v w) (h : wpList P ops Q rest (a.put o.dst v) w) : wpList P ops Q (o :: rest) a w :=
  BigFrame.wpList_want hw fun _ hK => by
    unfold Oper.wp execOp
    simp only [ho, hx, Instr.loadAt, Instr.sureAddr, Sem.run_bind, Sem.run_pure, Result.andThen_ok, hr]
    exact hK _ _ h
theorem wpList_eqlG {P : Program} {w : World} {ops : Array Oper} {rest : List Oper} {o : Oper} {a : Act} {Q : Exit → Act → World → Prop} (hw : Region.wanted o (yielded ops a.tmps) = true) (ty t2 : TypeId) (x y : Operand) (ho : o.op = .binOp .eql ty x y t2) (xs ys : Array Value) (hx : a.eval x = .agg xs) (hy : a.eval y = .agg ys) (b : Bool)
    (hm : P.eqGuardType P.depth ty = false) (hr : (Op.equalIn 10000 ty (.agg xs) (.agg ys)).run P w = .ok b w) (h : wpList P ops Q rest (a.put o.dst (.bool b)) w) : wpList P ops Q (o :: rest) a w :=
  BigFrame.wpList_want hw fun _ hK => by
    unfold Oper.wp execOp
    simp only [ho, hx, hy, Sem.run_bind, Sem.run_pure, Result.andThen_ok, run_eqGuard_agg _ _ _ _ _ _ _ hm, run_eql_struct, hr]
    exact hK _ _ h
set_option maxHeartbeats 500000 in
set_option maxRecDepth 100000 in
theorem canBe_tail {w00 w : World} {R : Ending → World → Prop} {g : Bool} {n : Int} {ib ub c : Nat} {u q : Ins} {x0 x3 x4 x7 x8 x9 x10 x11 x12 x13 x14 x15 x16 x17 x18 x19 x20 x21 x22 x23 x24 x25 x26 x27 x28 x29 x30 x31 x32 x33 x34 x35 x36 x37 x38 x39 x40 x41 x42 x43 x44 x45 x46 x47 x48 x49 x50 x51 x52 x53 : Value} (hc : q.code = (c : Int)) (h1 : 1 ≤ c ∧ c ≤ 10) (hT : LT w00) (k00 : Keeps (fun _ => False) w00 w) (hub : w00.heap.size ≤ ub) (hI : CL w ib q.cells) (hU : CL w ub u.cells) (hne : ¬ ib = ub)
    (hR : ∀ w', Keeps (fun k => k = ub) w w' → R (.returned (.bool ((g && (slo c).all (q.oks n)) && eqI (u.lays q (slo c)) q))) w') :
    (canTail Tryd.f20).wp Tryd.prog (bodyPost Tryd.prog Tryd.f20 R) { tmps := #[x0, .int .i64 n, .pointer (some ⟨ib, 0, none⟩), x3, x4, .pointer (some ⟨ub, 0, none⟩), .bool g, x7, x8, x9, x10, x11, x12, x13, x14, x15, x16, x17, x18, x19, x20, x21, x22, x23, x24, x25, x26, x27, x28, x29, x30, x31, x32, x33, x34, x35, x36, x37, x38, x39, x40, x41, x42, x43, x44, x45, x46, x47, x48, x49, x50, x51, x52, x53], defers := [] } w := by
  obtain ⟨v, hv, a, cap, rfl, hl⟩ := hT.sh c h1.1 h1.2
  have hu2 : ¬ (2 = ub) := fun e => by have := hT.lt; omega
  have hv0 := k00.cell hv (fun e => e)
  have c0 := hI.c 0 _ rfl
  rw [hc] at c0
  have sl := slo_le c
  obtain ⟨sl1, sl2⟩ := sl
  have hSE : Hid ((slo c).length ≤ 4) := sl1
  generalize hN : (slo c).length = N at *
  dsimp only [canTail, Tryd.f20]
  go_wp2_with fail
  go_loopw [6, 36] (fun gv iv Wr => ∃ k : Nat, gv = .bool (g && ((slo c).take k).all (q.oks n)) ∧ iv = .int .i64 (k : Int) ∧ k ≤ N ∧ CL Wr ub (u.lays q ((slo c).take k)).cells ∧ Keeps (fun j => j = ub) w Wr) (fun _ iv _ => N - (intOf iv).toNat)
  case atStart => exact ⟨0, by simp, rfl, Nat.zero_le _, hU, Keeps.refl _ w⟩
  case round =>
    obtain ⟨k, rfl, rfl, hk, hU', kr⟩ := hrel
    by_cases hlt : k < N
    · obtain ⟨x, hx⟩ : ∃ x, (slo c)[k]? = some x := ⟨_, List.getElem?_eq_getElem (by omega)⟩
      obtain ⟨b, off, rfl, hcell⟩ := hl k x hx
      have hx6 := sl2 x (List.mem_of_getElem? hx)
      have hltI : decide ((k : Int) < (N : Int)) = true := by simp; omega
      have hltN : (k : Int) < (N : Int) := by omega
      have K := k00.trans' kr (fun _ _ e => e) (fun i hi e => by have e : i = ub := e; omega)
      have hcell := K.cell hcell (fun e => e)
      have hI' := hI.keep (by show 0 < 11; decide) kr hne
      have hRun := run_ins hI'
      have hus := use_any (u := u.lays q ((slo c).take k)) q n x hx6 hU' (hT.keep K).rt hu2
      have HT : Hid (_ = _) := all_take (q := q) (n := n) hx
      have HL : Hid (_ = _) := lays_take (u := u) (q := q) hx
      clear hI' hI hU hl hv hv0 c0 hT K
      generalize hz : ((slo c).take k).all (q.oks n) = z at *
      generalize q.oks n x = y at *
      cases y with
      | true =>
        go_wp2_with (first | (refine wpList_load_run rfl 31 _ rfl ⟨ib, 0, none⟩ rfl _ hRun ?_; clear hRun) | (go_at_call 36; refine hus.mono ?_; clear hus; rintro e wn ⟨rfl, hUn, kn⟩))
        go_roundw
        case rel => exact ⟨k + 1, by rw [HT.out, Bool.and_true], by go_num, by omega, by rw [HL.out]; exact hUn, kr.trans kn⟩
        case measure => simp [intOf]; omega
      | false =>
        go_wp2_with (first | (refine wpList_load_run rfl 31 _ rfl ⟨ib, 0, none⟩ rfl _ hRun ?_; clear hRun) | (go_at_call 36; refine hus.mono ?_; clear hus; rintro e wn ⟨rfl, hUn, kn⟩))
        go_roundw
        case rel => exact ⟨k + 1, by rw [HT.out, Bool.and_false, Bool.and_false], by go_num, by omega, by rw [HL.out]; exact hUn, kr.trans kn⟩
        case measure => simp [intOf]; omega
    · obtain rfl : k = N := by omega
      have hltI : decide ((k : Int) < (k : Int)) = false := by simp
      have eT : (slo c).take k = slo c := by rw [← hN]; exact List.take_length
      rw [eT] at hU' ⊢
      have HR := hR _ kr
      have hI' := hI.keep (by show 0 < 11; decide) kr hne
      generalize (slo c).all (q.oks n) = z at *
      generalize u.lays q (slo c) = u' at *
      have HE := eql_ins wr u' q
      have hR1 := run_ins hI'
      have hR2 := run_ins hU'
      generalize eqI u' q = ee at *
      generalize (g && z) = gz at *
      clear hI' hU' hI hU hl hv hv0 c0 hT hR eT
      cases gz with
      | false =>
        go_wp2_with fail
        exact HR
      | true =>
        go_wp2_with (first | (refine wpList_load_runG (by rfl) 31 _ rfl ⟨ib, 0, none⟩ rfl _ hR1 ?_; clear hR1) | (refine wpList_load_runG (by rfl) 31 _ rfl ⟨ub, 0, none⟩ rfl _ hR2 ?_; clear hR2) | (refine wpList_eqlG (by rfl) 31 _ _ _ rfl _ _ rfl rfl _ (by kernel_rfl) HE ?_; clear HE))
        exact HR
set_option maxHeartbeats 500000 in
set_option maxRecDepth 100000 in
theorem canBe_any {w : World} (q : Ins) (n : Int) (hT : LT w) : Calls Tryd.prog 20 #[.agg q.cells.toArray, .int .i64 n] w fun e w' => e = .returned (.bool (q.can n)) ∧ Keeps (fun _ => False) w w' := by
  obtain ⟨cd, dst, oR, oN, xR, xN, yR, yN, op, rel, to⟩ := q
  show Calls Tryd.prog 20 #[.agg #[.int .i64 cd, .int .i64 dst, .bool oR, .int .i64 oN, .bool xR, .int .i64 xN, .bool yR, .int .i64 yN, .int .i64 op, .int .i64 rel, .int .i64 to], .int .i64 n] w _
  by_cases hr : 1 ≤ cd ∧ cd ≤ 10
  · obtain ⟨c, hc⟩ : ∃ c : Nat, cd = (c : Int) := ⟨cd.toNat, by omega⟩
    have hcan := cab_can (q := ⟨cd, dst, oR, oN, xR, xN, yR, yN, op, rel, to⟩) (n := n) hc (by omega)
    rw [← hcan]
    clear hcan
    have h10 : 1 ≤ c ∧ c ≤ 10 := by omega
    subst hc
    have lT := hT.lt
    obtain ⟨W4, hW4⟩ : ∃ W4, W4 = (w.alloc (.cells #[.int .i64 (c : Int), .int .i64 dst, .bool oR, .int .i64 oN, .bool xR, .int .i64 xN, .bool yR, .int .i64 yN, .int .i64 op, .int .i64 rel, .int .i64 to] 31)).alloc (.cells #[.int .i64 0, .int .i64 0, .bool false, .int .i64 0, .bool false, .int .i64 0, .bool false, .int .i64 0, .int .i64 0, .int .i64 0, .int .i64 0] 31) := ⟨_, rfl⟩
    have k4 : Keeps (fun _ => False) w W4 := by rw [hW4]; exact ((Keeps.refl _ w).alloc _).alloc _
    have hI4 : CL W4 w.heap.size [.int .i64 (c : Int), .int .i64 dst, .bool oR, .int .i64 oN, .bool xR, .int .i64 xN, .bool yR, .int .i64 yN, .int .i64 op, .int .i64 rel, .int .i64 to] := by rw [hW4]; exact (CL.made w [.int .i64 (c : Int), .int .i64 dst, .bool oR, .int .i64 oN, .bool xR, .int .i64 xN, .bool yR, .int .i64 yN, .int .i64 op, .int .i64 rel, .int .i64 to] _).alloc (by show 0 < 11; decide) _
    have hU4 : CL W4 (w.heap.size + 1) ins0.cells := by
      have := CL.made (w.alloc (.cells #[.int .i64 (c : Int), .int .i64 dst, .bool oR, .int .i64 oN, .bool xR, .int .i64 xN, .bool yR, .int .i64 yN, .int .i64 op, .int .i64 rel, .int .i64 to] 31)) ins0.cells 31
      rw [hW4]
      simpa [ins0, Ins.cells] using this
    have nu : ¬ w.heap.size = w.heap.size + 1 := by omega
    have b1 : decide ((c : Int) < 1) = false := by simp; omega
    have b2 : decide ((10 : Int) < (c : Int)) = false := by simp; omega
    by_cases h6 : c = 6
    · have b3 : ((c : Int) == 6) = true := by simp; omega
      have h6H : Hid (c = 6) := h6
      clear h6
      go_enter Tryd.func20, Tryd.ntmps20
      refine wp_seq_k (fun K hK => ?_)
      have hKH : Hid _ := hK
      clear hK
      go_wp2_with fail
      refine hKH.out _ _ ?_
      clear hKH K
      refine wp_seq_k (fun K hK => ?_)
      have hKH : Hid _ := hK
      clear hK
      go_wp2_with fail
      refine hKH.out _ _ ?_
      clear hKH K
      refine wp_seq_k (fun K hK => ?_)
      have hKH : Hid _ := hK
      clear hK
      go_wp2_with (rw [← hW4]; clear hW4; refine wpList_store_cl rfl 31 _ _ rfl (w.heap.size + 1) 0 11 _ rfl rfl rfl hU4 (by show 11 ≤ 11; decide) iIn (all_oneCell_toArray (by simp [Value.oneCell'])) ?_; intro w5 hc5 k5 hsz5; clear hsz5)
      refine hKH.out _ _ ?_
      clear hKH K
      have hI5 := hI4.keep (by show 0 < 11; decide) k5 nu
      have K5 : Keeps (fun _ => False) w w5 := k4.trans' k5 (fun _ _ e => e) (fun i hi e => by have e : i = w.heap.size + 1 := e; omega)
      have e0 := hI5.c 0 _ rfl
      have hU5 : CL w5 (w.heap.size + 1) ({ ins0 with code := (c : Int) } : Ins).cells := hc5
      clear hc5
      refine wp_seq_k (fun K hK => ?_)
      have hKH : Hid _ := hK
      clear hK
      go_wp2_with fail
      refine hKH.out _ _ ?_
      clear hKH K
      have hop := opName_ne op
      have z8 := hU5.z 8 (by show 8 < 11; decide)
      have u8 := hU5.c 8 _ rfl
      have e8 := hI5.c 8 _ rfl
      have hU6 := hU5.set (o := 8) (by show 8 < 11; decide) (.int .i64 op)
      have kS := (Keeps.refl (fun k => k = w.heap.size + 1) w5).setA 8 (.int .i64 op)
      have hI6 := hI5.keep (by show 0 < 11; decide) kS nu
      have e6 := hI6.c 8 _ rfl
      have K6 : Keeps (fun _ => False) w (w5.setCell ⟨w.heap.size + 1, 8, none⟩ (.int .i64 op)) := K5.trans' kS (fun _ _ e => e) (fun i hi e => by have e : i = w.heap.size + 1 := e; omega)
      have hop := opName_ne op _ (hT.keep K6).ot
      cases hio : isOp op with
      | true =>
        rw [hio] at hop
        refine wp_seq_k (fun K hK => ?_)
        have hKH : Hid _ := hK
        clear hK
        go_wp2_with (go_at_call 26; refine hop.mono ?_; rintro e wi ⟨ss, rfl, hss, rfl⟩)
        refine hKH.out _ _ ?_
        clear hKH K
        refine canBe_tail (w00 := w) (ib := w.heap.size) (ub := w.heap.size + 1) (c := c) (u := { ins0 with code := (c : Int), op := op }) (q := ⟨(c : Int), dst, oR, oN, xR, xN, yR, yN, op, rel, to⟩) rfl h10 hT K6 (by omega) hI6 hU6 nu ?_
        intro w' kw
        refine ⟨?_, K6.trans' kw (fun _ _ e => e) (fun i hi e => by have e : i = w.heap.size + 1 := e; omega)⟩
        unfold Ins.cab
        rw [if_pos h6H.out, if_pos h6H.out, hio]
      | false =>
        rw [hio] at hop
        refine wp_seq_k (fun K hK => ?_)
        have hKH : Hid _ := hK
        clear hK
        go_wp2_with (go_at_call 26; refine hop.mono ?_; rintro e wi ⟨ss, rfl, hss, rfl⟩)
        refine hKH.out _ _ ?_
        clear hKH K
        refine canBe_tail (w00 := w) (ib := w.heap.size) (ub := w.heap.size + 1) (c := c) (u := { ins0 with code := (c : Int), op := op }) (q := ⟨(c : Int), dst, oR, oN, xR, xN, yR, yN, op, rel, to⟩) rfl h10 hT K6 (by omega) hI6 hU6 nu ?_
        intro w' kw
        refine ⟨?_, K6.trans' kw (fun _ _ e => e) (fun i hi e => by have e : i = w.heap.size + 1 := e; omega)⟩
        unfold Ins.cab
        rw [if_pos h6H.out, if_pos h6H.out, hio]
    · have b3 : ((c : Int) == 6) = false := by simp; omega
      go_enter Tryd.func20, Tryd.ntmps20
      refine wp_seq_k (fun K hK => ?_)
      have hKH : Hid _ := hK
      clear hK
      go_wp2_with fail
      refine hKH.out _ _ ?_
      clear hKH K
      refine wp_seq_k (fun K hK => ?_)
      have hKH : Hid _ := hK
      clear hK
      go_wp2_with fail
      refine hKH.out _ _ ?_
      clear hKH K
      refine wp_seq_k (fun K hK => ?_)
      have hKH : Hid _ := hK
      clear hK
      go_wp2_with (rw [← hW4]; clear hW4; refine wpList_store_cl rfl 31 _ _ rfl (w.heap.size + 1) 0 11 _ rfl rfl rfl hU4 (by show 11 ≤ 11; decide) iIn (all_oneCell_toArray (by simp [Value.oneCell'])) ?_; intro w5 hc5 k5 hsz5; clear hsz5)
      refine hKH.out _ _ ?_
      clear hKH K
      have hI5 := hI4.keep (by show 0 < 11; decide) k5 nu
      have K5 : Keeps (fun _ => False) w w5 := k4.trans' k5 (fun _ _ e => e) (fun i hi e => by have e : i = w.heap.size + 1 := e; omega)
      have e0 := hI5.c 0 _ rfl
      have hU5 : CL w5 (w.heap.size + 1) ({ ins0 with code := (c : Int) } : Ins).cells := hc5
      clear hc5
      refine wp_seq_k (fun K hK => ?_)
      have hKH : Hid _ := hK
      clear hK
      go_wp2_with fail
      refine hKH.out _ _ ?_
      clear hKH K
      refine wp_seq_k (fun K hK => ?_)
      have hKH : Hid _ := hK
      clear hK
      go_wp2_with fail
      refine hKH.out _ _ ?_
      clear hKH K
      refine canBe_tail (w00 := w) (ib := w.heap.size) (ub := w.heap.size + 1) (c := c) (u := { ins0 with code := (c : Int) }) (q := ⟨(c : Int), dst, oR, oN, xR, xN, yR, yN, op, rel, to⟩) rfl h10 hT K5 (by omega) hI5 hU5 nu ?_
      intro w' kw
      refine ⟨?_, K5.trans' kw (fun _ _ e => e) (fun i hi e => by have e : i = w.heap.size + 1 := e; omega)⟩
      unfold Ins.cab
      simp [h6]; rfl
  · rw [can_out (q := ⟨cd, dst, oR, oN, xR, xN, yR, yN, op, rel, to⟩) (by show cd < 1 ∨ 10 < cd; omega)]
    have k0 : Keeps (fun _ => False) w (w.alloc (.cells #[.int .i64 cd, .int .i64 dst, .bool oR, .int .i64 oN, .bool xR, .int .i64 xN, .bool yR, .int .i64 yN, .int .i64 op, .int .i64 rel, .int .i64 to] 31)) := (Keeps.refl _ w).alloc _
    by_cases hr1 : cd < 1
    · have b1 : decide (cd < 1) = true := by simp; omega
      go_enter Tryd.func20, Tryd.ntmps20
      go_wp2
      go_ret
      exact ⟨rfl, k0⟩
    · have b1 : decide (cd < 1) = false := by simp; omega
      have b2 : decide (10 < cd) = true := by simp; omega
      go_enter Tryd.func20, Tryd.ntmps20
      go_wp2
      go_ret
      exact ⟨rfl, k0⟩
end Go.Proofs.YtanmpioplckgbaaDoor
