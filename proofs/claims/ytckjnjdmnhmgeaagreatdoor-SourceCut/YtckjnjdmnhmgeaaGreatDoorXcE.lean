import Derived.Test.YtckjnjdmnhmgeaaGreatDoorXcD
namespace Go.Proofs.YtckjnjdmnhmgeaaGreatDoor
open Go.RowKit Go.ChangeShapes Go.WideShapes Go.ChangeAt Go.Deep
attribute [local go_sem] Oper.semAt_some run_store_nf run_store_f
theorem wpList_load_runV {P : Program} {w : World} {ops : Array Oper} {rest : List Oper} {o : Oper} {a : Act} {Q : Exit → Act → World → Prop} (hw : Region.wanted o (yielded ops a.tmps) = true) (ty : TypeId) (x : Operand) (ho : o.op = .load ty x) (ad : Addr) (hx : a.eval x = .pointer (some ad)) (v : Value)
    (hr : (loadVar ty ad).run P w = .ok v w) (h : wpList P ops Q rest (a.put o.dst v) w) : wpList P ops Q (o :: rest) a w :=
  BigFrame.wpList_want hw fun _ hK => by
    unfold Oper.wp execOp
    simp only [ho, hx, Instr.loadAt, Instr.sureAddr, Sem.run_bind, Sem.run_pure, Result.andThen_ok, hr]
    exact hK _ _ h
def SmL (l : List St) : Prop := ∀ (w : World) (P Q : Nat → Prop) (p : Option Addr) (c : Nat) (xs : List Value) (p' : Option Addr) (c' : Nat) (xs' : List Value), OwnP w P 53 12 (.slice p l.length c) l.length xs → SL w P 51 53 l xs → OwnP w Q 53 12 (.slice p' l.length c') l.length xs' → SL w Q 51 53 l xs' → Calls Tryz.prog 10 #[.slice p l.length c, .slice p' l.length c'] w fun e w' => e = .returned (.bool true) ∧ Keeps (fun _ => False) w w'
set_option maxHeartbeats 1500000 in
set_option maxRecDepth 100000 in
theorem sm_all : ∀ (n : Nat) (l : List St), bgSL l < n → n ≤ 1048576 → SmL l
  | 0, l, h, _ => absurd h (by omega)
  | n + 1, l, h, hn => by
    have IH := fun l (ht : bgSL l < n) => sm_all n l ht (by omega)
    intro w P Q p c xs p' c' xs' ho hx ho' hx'
    obtain ⟨p0, c0, e0, hget, -, -⟩ := own_slice ho.1
    injection e0 with e1 _ e3
    subst e1 e3
    obtain ⟨p0, c0, e0, hget', -, -⟩ := own_slice ho'.1
    injection e0 with e1 _ e3
    subst e1 e3
    obtain ⟨N, hN⟩ : ∃ N, N = l.length := ⟨_, rfl⟩
    have hNn : N ≤ n := by have := bgSL_len l; omega
    clear ho ho'
    have HN : Hid (N = l.length) := hN
    rw [← hN]
    clear hN
    have e4 : ((N : Int) != (N : Int)) = false := by simp
    go_enter Tryz.func10, Tryz.ntmps10
    go_wp2_with fail
    go_loopw [5] (fun iv Wr => ∃ (i : Nat), iv = .int .i64 (i : Int) ∧ i ≤ N ∧ Keeps (fun _ => False) w Wr) (fun iv _ => N - (intOf iv).toNat)
    case atStart => exact ⟨0, rfl, Nat.zero_le _, Keeps.refl _ w⟩
    case round =>
      obtain ⟨i, rfl, hi, hB⟩ := hrel
      by_cases hlt : i < N
      · have d1 : decide ((i : Int) < (N : Int)) = true := decide_eq_true (by omega)
        have d2 : decide (i < N) = true := decide_eq_true hlt
        have i0 : (0 : Int) ≤ (i : Int) := by omega
        have i1 : (i : Int) < (N : Int) := by omega
        have i2 : (i : Int) + 1 ≤ 9223372036854775807 := by omega
        have hip : i < l.length := by rw [← HN.out]; exact hlt
        obtain ⟨t, htt⟩ : ∃ t, t = l[i] := ⟨_, rfl⟩
        have hgt : l[i]? = some t := by rw [htt]; exact List.getElem?_eq_getElem hip
        have hbt : bgS t ≤ bgSL l := bgSA l i t hgt
        obtain ⟨us, hty, hyc⟩ := hx.at i t hgt
        obtain ⟨vs, hty', hyc'⟩ := hx'.at i t hgt
        clear hgt htt hip
        obtain ⟨k, wd, a, b, th, el⟩ := t
        unfold bgS at hbt
        obtain ⟨-, -, ka, na, sa, pa, ma, ca, kb, nb, sb, pb, mb, cb, pt, ct, pe, ce, xt, xe, rfl, Ta, Tb, ot, st1, oe, se1⟩ := hty.parts
        obtain ⟨-, -, ka2, na2, sa2, pa2, ma2, ca2, kb2, nb2, sb2, pb2, mb2, cb2, pt2, ct2, pe2, ce2, xt2, xe2, rfl, Ta2, Tb2, ot2, st2, oe2, se2⟩ := hty'.parts
        clear hty hty'
        obtain ⟨s, hs⟩ : ∃ s, s = bs wd := ⟨_, rfl⟩
        rw [← hs] at hyc hyc'
        clear hs
        obtain ⟨g, rfl, -⟩ := hget (i * 12) _ (hyc 0 _ rfl)
        obtain ⟨g', rfl, -⟩ := hget' (i * 12) _ (hyc' 0 _ rfl)
        have hq1 : ∀ (j : Nat) (u : Value), ([.int .i64 k, .string s, .int .i64 ka, .int .i64 na, .string sa, .slice pa ma ca, .int .i64 kb, .int .i64 nb, .string sb, .slice pb mb cb, .slice pt th.length ct, .slice pe el.length ce] : List Value)[j]? = some u → wr.cell? ⟨g, i * 12 + j, none⟩ = some u := fun j u e => by
          obtain ⟨g1, eg, h6⟩ := hget _ _ (hyc j u e)
          injection eg with eg; injection eg with eg _ _; subst eg
          exact hB.cell h6 (fun e => e)
        have hq2 : ∀ (j : Nat) (u : Value), ([.int .i64 k, .string s, .int .i64 ka2, .int .i64 na2, .string sa2, .slice pa2 ma2 ca2, .int .i64 kb2, .int .i64 nb2, .string sb2, .slice pb2 mb2 cb2, .slice pt2 th.length ct2, .slice pe2 el.length ce2] : List Value)[j]? = some u → wr.cell? ⟨g', i * 12 + j, none⟩ = some u := fun j u e => by
          obtain ⟨g1, eg, h6⟩ := hget' _ _ (hyc' j u e)
          injection eg with eg; injection eg with eg _ _; subst eg
          exact hB.cell h6 (fun e => e)
        clear hyc hyc'
        refine wp_seq_k (fun KK hKK => ?_)
        have hKH : Hid _ := hKK
        clear hKK
        go_wp2_with fail
        refine hKH.out _ _ ?_
        clear hKH KK
        refine wp_seq_k (fun KK hKK => ?_)
        have hKH : Hid _ := hKK
        clear hKK
        refine wp_block ?_
        refine wp_seq_k (fun K2 hK2 => ?_)
        have rest : ∀ (b6 b7 : Nat) (w6 : World), CL w6 b6 [.int .i64 k, .string s, .int .i64 ka, .int .i64 na, .string sa, .slice pa ma ca, .int .i64 kb, .int .i64 nb, .string sb, .slice pb mb cb, .slice pt th.length ct, .slice pe el.length ce] → CL w6 b7 [.int .i64 k, .string s, .int .i64 ka2, .int .i64 na2, .string sa2, .slice pa2 ma2 ca2, .int .i64 kb2, .int .i64 nb2, .string sb2, .slice pb2 mb2 cb2, .slice pt2 th.length ct2, .slice pe2 el.length ce2] → Keeps (fun _ => False) wr w6 → K2 { tmps := #[.slice (some ⟨g, 0, none⟩) N c, .slice (some ⟨g', 0, none⟩) N c', undef, undef, u4, .int .i64 (i : Int), .pointer (some ⟨b6, 0, none⟩), .pointer (some ⟨b7, 0, none⟩), .slice (some ⟨g, 0, none⟩) N c, .int .i64 (N : Int), .slice (some ⟨g', 0, none⟩) N c', .int .i64 (N : Int), .bool false, .int .i64 (i : Int), .slice (some ⟨g, 0, none⟩) N c, .int .i64 (N : Int), .bool true, u17, u18, .slice (some ⟨g, 0, none⟩) N c, .int .i64 (i : Int), .pointer (some ⟨g, i * 12, none⟩), .agg #[.int .i64 k, .string s, .int .i64 ka, .int .i64 na, .string sa, .slice pa ma ca, .int .i64 kb, .int .i64 nb, .string sb, .slice pb mb cb, .slice pt th.length ct, .slice pe el.length ce], .slice (some ⟨g', 0, none⟩) N c', .int .i64 (i : Int), .pointer (some ⟨g', i * 12, none⟩), .agg #[.int .i64 k, .string s, .int .i64 ka2, .int .i64 na2, .string sa2, .slice pa2 ma2 ca2, .int .i64 kb2, .int .i64 nb2, .string sb2, .slice pb2 mb2 cb2, .slice pt2 th.length ct2, .slice pe2 el.length ce2], u27, u28, u29, u30, u31, u32, u33, u34, u35, u36, u37, u38, u39, u40, u41, u42, u43, u44, u45, u46, u47, u48, u49, u50, u51, u52, u53, u54, u55, u56, u57, u58, u59, u60, u61, u62, u63, u64, u65, u66, u67, u68, u69, u70], defers := [] } w6 := by
          intro b6 b7 w6 hbA hbB k6
          have hKI : Hid _ := hK2
          clear hK2
          refine hKI.out _ _ ?_
          clear hKI hq1 hq2
          have y0 := hbA.c 0 _ rfl
          have y1 := hbA.c 1 _ rfl
          have y10 := hbA.c 10 _ rfl
          have y11 := hbA.c 11 _ rfl
          have x0 := hbB.c 0 _ rfl
          have x1 := hbB.c 1 _ rfl
          have x10 := hbB.c 10 _ rfl
          have x11 := hbB.c 11 _ rfl
          have kw6 : Keeps (fun _ => False) w w6 := hB.trans k6
          have hqa : ∀ W, Keeps (fun _ => False) w6 W → (loadVar 51 ⟨b6, 2, none⟩).run Tryz.prog W = .ok (.agg #[.int .i64 ka, .int .i64 na, .string sa, .slice pa ma ca]) W := fun W kW => run_er (fun j v e => (hbA.keep (by show 0 < 12; decide) kW (fun e => e)).c (2 + j) v (by rw [← List.getElem?_drop, ← e]; exact List.getElem?_append_left (l₂ := [.int .i64 kb, .int .i64 nb, .string sb, .slice pb mb cb, .slice pt th.length ct, .slice pe el.length ce]) (List.getElem?_eq_some_iff.1 e).1))
          have hqb : ∀ W, Keeps (fun _ => False) w6 W → (loadVar 51 ⟨b6, 6, none⟩).run Tryz.prog W = .ok (.agg #[.int .i64 kb, .int .i64 nb, .string sb, .slice pb mb cb]) W := fun W kW => run_er (fun j v e => (hbA.keep (by show 0 < 12; decide) kW (fun e => e)).c (6 + j) v (by rw [← List.getElem?_drop, ← e]; exact List.getElem?_append_left (l₂ := [.slice pt th.length ct, .slice pe el.length ce]) (List.getElem?_eq_some_iff.1 e).1))
          have hqc : ∀ W, Keeps (fun _ => False) w6 W → (loadVar 51 ⟨b7, 2, none⟩).run Tryz.prog W = .ok (.agg #[.int .i64 ka2, .int .i64 na2, .string sa2, .slice pa2 ma2 ca2]) W := fun W kW => run_er (fun j v e => (hbB.keep (by show 0 < 12; decide) kW (fun e => e)).c (2 + j) v (by rw [← List.getElem?_drop, ← e]; exact List.getElem?_append_left (l₂ := [.int .i64 kb2, .int .i64 nb2, .string sb2, .slice pb2 mb2 cb2, .slice pt2 th.length ct2, .slice pe2 el.length ce2]) (List.getElem?_eq_some_iff.1 e).1))
          have hqd : ∀ W, Keeps (fun _ => False) w6 W → (loadVar 51 ⟨b7, 6, none⟩).run Tryz.prog W = .ok (.agg #[.int .i64 kb2, .int .i64 nb2, .string sb2, .slice pb2 mb2 cb2]) W := fun W kW => run_er (fun j v e => (hbB.keep (by show 0 < 12; decide) kW (fun e => e)).c (6 + j) v (by rw [← List.getElem?_drop, ← e]; exact List.getElem?_append_left (l₂ := [.slice pt2 th.length ct2, .slice pe2 el.length ce2]) (List.getElem?_eq_some_iff.1 e).1))
          have hQa := hqa w6 (Keeps.refl _ w6)
          have hQc := hqc w6 (Keeps.refl _ w6)
          have hPa := sx_all n a (by omega) (by omega) w6 _ _ _ _ (Ta.lt.stay (kw6.stay (fun _ _ _ e => e))) (Ta2.lt.stay (kw6.stay (fun _ _ _ e => e)))
          have hPb := fun W (kW : Keeps (fun _ => False) w6 W) => sx_all n b (by omega) (by omega) W _ _ _ _ (Tb.lt.stay ((kw6.trans kW).stay (fun _ _ _ e => e))) (Tb2.lt.stay ((kw6.trans kW).stay (fun _ _ _ e => e)))
          have hPt := fun W (kW : Keeps (fun _ => False) w6 W) => IH th (by omega) W _ _ pt ct _ pt2 ct2 _ (ot.lt.stay ((kw6.trans kW).stay (fun _ _ _ e => e))) (st1.lt.stay ((kw6.trans kW).stay (fun _ _ _ e => e))) (ot2.lt.stay ((kw6.trans kW).stay (fun _ _ _ e => e))) (st2.lt.stay ((kw6.trans kW).stay (fun _ _ _ e => e)))
          have hPe := fun W (kW : Keeps (fun _ => False) w6 W) => IH el (by omega) W _ _ pe ce _ pe2 ce2 _ (oe.lt.stay ((kw6.trans kW).stay (fun _ _ _ e => e))) (se1.lt.stay ((kw6.trans kW).stay (fun _ _ _ e => e))) (oe2.lt.stay ((kw6.trans kW).stay (fun _ _ _ e => e))) (se2.lt.stay ((kw6.trans kW).stay (fun _ _ _ e => e)))
          have e1 : (s.toList != s.toList) = false := by simp
          have e2 : (k != k) = false := by simp
          clear hB
          go_wp2_with (first | (refine wpList_load_runV (by rfl) 51 _ rfl ⟨b6, 2, none⟩ rfl _ hQa ?_; clear hQa) | (refine wpList_load_runV (by rfl) 51 _ rfl ⟨b7, 2, none⟩ rfl _ hQc ?_; clear hQc) | (go_at_call 18; refine hPa.mono ?_; clear hPa; rintro e w7 ⟨rfl, k7⟩; have hQb := hqb w7 k7; have hQd := hqd w7 k7; have hPb2 := hPb w7 k7) | (refine wpList_load_runV (by rfl) 51 _ rfl ⟨b6, 6, none⟩ rfl _ hQb ?_; clear hQb) | (refine wpList_load_runV (by rfl) 51 _ rfl ⟨b7, 6, none⟩ rfl _ hQd ?_; clear hQd) | (go_at_call 18; refine hPb2.mono ?_; clear hPb2; rintro e w8 ⟨rfl, k8⟩; have k68 := k7.trans k8; have y18 := k68.cell y10 (fun e => e); have x18 := k68.cell x10 (fun e => e); have hPt2 := hPt w8 k68) | (go_at_call 10; refine hPt2.mono ?_; clear hPt2; rintro e w9 ⟨rfl, k9⟩; have k69 := k68.trans k9; have y19 := k69.cell y11 (fun e => e); have x19 := k69.cell x11 (fun e => e); have hPe2 := hPe w9 k69) | (go_at_call 10; refine hPe2.mono ?_; clear hPe2; rintro e w10 ⟨rfl, k10⟩; have k610 := k69.trans k10))
          refine hKH.out _ _ ?_
          clear hKH
          have kw10 := kw6.trans k610
          clear hqa hqb hqc hqd hPb hPt hPe
          go_wp2_with fail
          go_roundw
          case rel => exact ⟨i + 1, by go_num, by omega, kw10⟩
          case measure => simp [intOf]; omega
        have restH : Hid _ := rest
        clear rest hK2
        go_wp2_with fail
        refine wp_region_held_drew (S := fun w' => Keeps (fun _ => False) wr w') (by kernel_rfl) (Keeps.refl _ wr).drew (fun hHeld => ?_)
        refine wpAnyH_take (i := 0) (v := ?_) rfl (by kernel_rfl) (by kernel_rfl) (by kernel_rfl) (fun _ _ _ h => h) (Or.inl ⟨by rfl, ?_⟩) (by assumption) ?_
        rotate_left
        · intro wx hSw; clear hSw; go_simp <;> with_reducible rfl
        (try simp only [List.getElem_toArray]); (try simp only [List.getElem_cons_succ]); (try simp only [List.getElem_cons_zero]); (try simp only [Act.put]); (try simp only [List.setIfInBounds_toArray]); (repeat first | simp only [List.set_cons_succ] | simp only [List.set_cons_zero])
        refine wpAnyH_take (i := 1) (v := ?_) rfl (by kernel_rfl) (by kernel_rfl) (by kernel_rfl) (fun _ _ _ h => h) (Or.inl ⟨by rfl, ?_⟩) (by assumption) ?_
        rotate_left
        · intro wx hSw; clear hSw; go_simp <;> with_reducible rfl
        (try simp only [List.getElem_toArray]); (try simp only [List.getElem_cons_succ]); (try simp only [List.getElem_cons_zero]); (try simp only [Act.put]); (try simp only [List.setIfInBounds_toArray]); (repeat first | simp only [List.set_cons_succ] | simp only [List.set_cons_zero])
        refine wpAnyH_take (i := 2) (v := ?_) rfl (by kernel_rfl) (by kernel_rfl) (by kernel_rfl) (fun _ _ _ h => h) (Or.inl ⟨by rfl, ?_⟩) (by assumption) ?_
        rotate_left
        · intro wx hSw; clear hSw; go_simp <;> with_reducible rfl
        (try simp only [List.getElem_toArray]); (try simp only [List.getElem_cons_succ]); (try simp only [List.getElem_cons_zero]); (try simp only [Act.put]); (try simp only [List.setIfInBounds_toArray]); (repeat first | simp only [List.set_cons_succ] | simp only [List.set_cons_zero])
        refine wpAnyH_take (i := 3) (v := .agg #[.int .i64 k, .string s, .int .i64 ka, .int .i64 na, .string sa, .slice pa ma ca, .int .i64 kb, .int .i64 nb, .string sb, .slice pb mb cb, .slice pt th.length ct, .slice pe el.length ce]) rfl (by kernel_rfl) (by kernel_rfl) (by kernel_rfl) (fun _ _ _ h => h) (Or.inl ⟨by rfl, ?_⟩) (by assumption) ?_
        · intro wx hSw; exact takes_loadR 53 _ rfl ⟨g, i * 12, none⟩ rfl (run_rs rfl (fun j v e => Keeps.cell (S := fun _ => False) hSw (hq1 j v e) (fun e => e)))
        (try simp only [List.getElem_toArray]); (try simp only [List.getElem_cons_succ]); (try simp only [List.getElem_cons_zero]); (try simp only [Act.put]); (try simp only [List.setIfInBounds_toArray]); (repeat first | simp only [List.set_cons_succ] | simp only [List.set_cons_zero])
        refine wpAnyH_take (i := 4) (v := ?_) rfl (by kernel_rfl) (by kernel_rfl) (by kernel_rfl) (fun _ _ _ h => h) (Or.inl ⟨by rfl, ?_⟩) (by assumption) ?_
        rotate_left
        · intro wx hSw; clear hSw; go_simp <;> with_reducible rfl
        (try simp only [List.getElem_toArray]); (try simp only [List.getElem_cons_succ]); (try simp only [List.getElem_cons_zero]); (try simp only [Act.put]); (try simp only [List.setIfInBounds_toArray]); (repeat first | simp only [List.set_cons_succ] | simp only [List.set_cons_zero])
        refine wpAnyH_take (i := 5) (v := ?_) rfl (by kernel_rfl) (by kernel_rfl) (by kernel_rfl) (fun _ _ _ h => h) (Or.inl ⟨by rfl, ?_⟩) (by assumption) ?_
        rotate_left
        · intro wx hSw; clear hSw; go_simp <;> with_reducible rfl
        (try simp only [List.getElem_toArray]); (try simp only [List.getElem_cons_succ]); (try simp only [List.getElem_cons_zero]); (try simp only [Act.put]); (try simp only [List.setIfInBounds_toArray]); (repeat first | simp only [List.set_cons_succ] | simp only [List.set_cons_zero])
        refine wpAnyH_take (i := 6) (v := ?_) rfl (by kernel_rfl) (by kernel_rfl) (by kernel_rfl) (fun _ _ _ h => h) (Or.inl ⟨by rfl, ?_⟩) (by assumption) ?_
        rotate_left
        · intro wx hSw; clear hSw; go_simp <;> with_reducible rfl
        (try simp only [List.getElem_toArray]); (try simp only [List.getElem_cons_succ]); (try simp only [List.getElem_cons_zero]); (try simp only [Act.put]); (try simp only [List.setIfInBounds_toArray]); (repeat first | simp only [List.set_cons_succ] | simp only [List.set_cons_zero])
        refine wpAnyH_take (i := 7) (v := .agg #[.int .i64 k, .string s, .int .i64 ka2, .int .i64 na2, .string sa2, .slice pa2 ma2 ca2, .int .i64 kb2, .int .i64 nb2, .string sb2, .slice pb2 mb2 cb2, .slice pt2 th.length ct2, .slice pe2 el.length ce2]) rfl (by kernel_rfl) (by kernel_rfl) (by kernel_rfl) (fun _ _ _ h => h) (Or.inl ⟨by rfl, ?_⟩) (by assumption) ?_
        · intro wx hSw; exact takes_loadR 53 _ rfl ⟨g', i * 12, none⟩ rfl (run_rs rfl (fun j v e => Keeps.cell (S := fun _ => False) hSw (hq2 j v e) (fun e => e)))
        (try simp only [List.getElem_toArray]); (try simp only [List.getElem_cons_succ]); (try simp only [List.getElem_cons_zero]); (try simp only [Act.put]); (try simp only [List.setIfInBounds_toArray]); (repeat first | simp only [List.set_cons_succ] | simp only [List.set_cons_zero])
        have m0 := (CL.made wr zSR 53).drew
        have m1 := (CL.made (wr.alloc (.cells zSR.toArray 53)).drew zSR 53)
        have s1 : (wr.alloc (.cells zSR.toArray 53)).drew.heap.size = wr.heap.size + 1 := World.size_alloc _ _
        rw [s1] at m1
        have m01 := m0.alloc (by show 0 < 12; decide) (.cells zSR.toArray 53)
        refine wpAnyH_two' 8 9 (by kernel_rfl) rfl rfl (by kernel_rfl) (by kernel_rfl) ?_ ?_
        · go_simp
          refine ⟨hHeld.alloc _, fun hS1 => ?_⟩
          (try simp only [List.getElem_toArray]); (try simp only [List.getElem_cons_succ]); (try simp only [List.getElem_cons_zero]); (try simp only [Act.put]); (try simp only [List.setIfInBounds_toArray]); (repeat first | simp only [List.set_cons_succ] | simp only [List.set_cons_zero])
          refine wpAnyH_one 9 (by kernel_rfl) rfl rfl ?_
          go_simp
          refine ⟨hS1.alloc _, fun hS2 => ?_⟩
          (try simp only [List.getElem_toArray]); (try simp only [List.getElem_cons_succ]); (try simp only [List.getElem_cons_zero]); (try simp only [Act.put]); (try simp only [List.setIfInBounds_toArray]); (repeat first | simp only [List.set_cons_succ] | simp only [List.set_cons_zero])
          refine wpAnyH_storeR 10 (by kernel_rfl) rfl rfl 53 _ _ rfl (wr.heap.size) 12 _ rfl rfl rfl m01 rfl iRS one12N (fun w1 k => Keeps.trans' (S := fun _ => False) hS2 k (fun _ _ e => e) (fun i hi e => by have e : i = wr.heap.size := e; omega)) (fun v5 hb5 k5 hS3 => ?_)
          (try simp only [List.getElem_toArray]); (try simp only [List.getElem_cons_succ]); (try simp only [List.getElem_cons_zero]); (try simp only [Act.put]); (try simp only [List.setIfInBounds_toArray]); (repeat first | simp only [List.set_cons_succ] | simp only [List.set_cons_zero])
          have m7 := CL.keep m1 (by show 0 < 12; decide) k5 (fun e => by have e : wr.heap.size + 1 = wr.heap.size := e; omega)
          refine wpAnyH_storeR 11 (by kernel_rfl) rfl rfl 53 _ _ rfl (wr.heap.size + 1) 12 _ rfl rfl rfl m7 rfl iRS one12N (fun w1 k => Keeps.trans' (S := fun _ => False) hS3 k (fun _ _ e => e) (fun i hi e => by have e : i = wr.heap.size + 1 := e; omega)) (fun w6 hb6 k6 hS4 => ?_)
          (try simp only [List.getElem_toArray]); (try simp only [List.getElem_cons_succ]); (try simp only [List.getElem_cons_zero]); (try simp only [Act.put]); (try simp only [List.setIfInBounds_toArray]); (repeat first | simp only [List.set_cons_succ] | simp only [List.set_cons_zero])
          refine wpAnyH_done (by kernel_rfl) ?_ _
          exact restH.out (wr.heap.size) (wr.heap.size + 1) w6 (hb5.keep (by show 0 < 12; decide) k6 (fun e => by have e : wr.heap.size = wr.heap.size + 1 := e; omega)) hb6 hS4
        · go_simp
          refine ⟨hHeld.alloc _, fun hS1 => ?_⟩
          (try simp only [List.getElem_toArray]); (try simp only [List.getElem_cons_succ]); (try simp only [List.getElem_cons_zero]); (try simp only [Act.put]); (try simp only [List.setIfInBounds_toArray]); (repeat first | simp only [List.set_cons_succ] | simp only [List.set_cons_zero])
          refine wpAnyH_one 8 (by kernel_rfl) rfl rfl ?_
          go_simp
          refine ⟨hS1.alloc _, fun hS2 => ?_⟩
          (try simp only [List.getElem_toArray]); (try simp only [List.getElem_cons_succ]); (try simp only [List.getElem_cons_zero]); (try simp only [Act.put]); (try simp only [List.setIfInBounds_toArray]); (repeat first | simp only [List.set_cons_succ] | simp only [List.set_cons_zero])
          refine wpAnyH_storeR 10 (by kernel_rfl) rfl rfl 53 _ _ rfl (wr.heap.size + 1) 12 _ rfl rfl rfl m1 rfl iRS one12N (fun w1 k => Keeps.trans' (S := fun _ => False) hS2 k (fun _ _ e => e) (fun i hi e => by have e : i = wr.heap.size + 1 := e; omega)) (fun v5 hb5 k5 hS3 => ?_)
          (try simp only [List.getElem_toArray]); (try simp only [List.getElem_cons_succ]); (try simp only [List.getElem_cons_zero]); (try simp only [Act.put]); (try simp only [List.setIfInBounds_toArray]); (repeat first | simp only [List.set_cons_succ] | simp only [List.set_cons_zero])
          have m7 := CL.keep m01 (by show 0 < 12; decide) k5 (fun e => by have e : wr.heap.size = wr.heap.size + 1 := e; omega)
          refine wpAnyH_storeR 11 (by kernel_rfl) rfl rfl 53 _ _ rfl (wr.heap.size) 12 _ rfl rfl rfl m7 rfl iRS one12N (fun w1 k => Keeps.trans' (S := fun _ => False) hS3 k (fun _ _ e => e) (fun i hi e => by have e : i = wr.heap.size := e; omega)) (fun w6 hb6 k6 hS4 => ?_)
          (try simp only [List.getElem_toArray]); (try simp only [List.getElem_cons_succ]); (try simp only [List.getElem_cons_zero]); (try simp only [Act.put]); (try simp only [List.setIfInBounds_toArray]); (repeat first | simp only [List.set_cons_succ] | simp only [List.set_cons_zero])
          refine wpAnyH_done (by kernel_rfl) ?_ _
          exact restH.out (wr.heap.size + 1) (wr.heap.size) w6 (hb5.keep (by show 0 < 12; decide) k6 (fun e => by have e : wr.heap.size + 1 = wr.heap.size := e; omega)) hb6 hS4
      · obtain rfl : i = N := by omega
        have d1 : decide ((i : Int) < (i : Int)) = false := decide_eq_false (by omega)
        have d2 : decide (i < i) = false := decide_eq_false (by omega)
        go_wp2_with fail
        go_ret
        exact ⟨rfl, hB⟩
end Go.Proofs.YtckjnjdmnhmgeaaGreatDoor
