import Derived.Test.YtehblpbefkopbaaGreatDoorXcD
import Derived.Test.YtehblpbefkopbaaGreatDoorXbJ
namespace Go.Proofs.YtehblpbefkopbaaGreatDoor
open Go.RowKit Go.ChangeShapes Go.WideShapes Go.ChangeAt Go.Deep
attribute [local go_sem] Oper.semAt_some run_store_nf run_store_f
theorem wpList_load_runV {P : Program} {w : World} {ops : Array Oper} {rest : List Oper} {o : Oper} {a : Act} {Q : Exit → Act → World → Prop} (hw : Region.wanted o (yielded ops a.tmps) = true) (ty : TypeId) (x : Operand) (ho : o.op = .load ty x) (ad : Addr) (hx : a.eval x = .pointer (some ad)) (v : Value)
    (hr : (loadVar ty ad).run P w = .ok v w) (h : wpList P ops Q rest (a.put o.dst v) w) : wpList P ops Q (o :: rest) a w :=
  BigFrame.wpList_want hw fun _ hK => by
    unfold Oper.wp execOp
    simp only [ho, hx, Instr.loadAt, Instr.sureAddr, Sem.run_bind, Sem.run_pure, Result.andThen_ok, hr]
    exact hK _ _ h
def SmI (l : List St) : Prop := ∀ (w : World) (p : Option Addr) (c : Nat) (xs : List Value) (p' : Option Addr) (c' : Nat) (xs' : List Value), Rd w p xs → ISL w l xs → Rd w p' xs' → ISL w l xs' → Calls Tryz.prog 14 #[.slice p l.length c, .slice p' l.length c'] w fun e w' => e = .returned (.bool true) ∧ Keeps (fun _ => False) w w'
def SmL (l : List St) : Prop := ∀ (w : World) (P Q : Nat → Prop) (p : Option Addr) (c : Nat) (xs : List Value) (p' : Option Addr) (c' : Nat) (xs' : List Value), OwnP w P 43 12 (.slice p l.length c) l.length xs → SL w P 41 43 l xs → OwnP w Q 43 12 (.slice p' l.length c') l.length xs' → SL w Q 41 43 l xs' → Calls Tryz.prog 14 #[.slice p l.length c, .slice p' l.length c'] w fun e w' => e = .returned (.bool true) ∧ Keeps (fun _ => False) w w'
set_option maxHeartbeats 1500000 in
set_option maxRecDepth 100000 in
theorem smI_all : ∀ (n : Nat) (l : List St), bgSL l < n → n ≤ 1048576 → SmI l
  | 0, l, h, _ => absurd h (by omega)
  | n + 1, l, h, hn => by
    have IH := fun l (ht : bgSL l < n) => smI_all n l ht (by omega)
    intro w p c xs p' c' xs' hget hx hget' hx'
    obtain ⟨N, hN⟩ : ∃ N, N = l.length := ⟨_, rfl⟩
    have hNn : N ≤ n := by have := bgSL_len l; omega
    have HN : Hid (N = l.length) := hN
    rw [← hN]
    clear hN
    have e4 : ((N : Int) != (N : Int)) = false := by simp
    go_enter Tryz.func14, Tryz.ntmps14
    go_wp2_with fail
    go_loopw [5] (fun iv Wr => ∃ (i : Nat), iv = .int .i64 (i : Int) ∧ i ≤ N ∧ Keeps (fun _ => False) w Wr) (fun iv _ => N - (intOf iv).toNat)
    case atStart => exact ⟨0, rfl, Nat.zero_le _, Keeps.refl _ w⟩
    case round =>
      obtain ⟨i, rfl, hi, hB⟩ := hrel
      by_cases hlt : i < N
      · have d1 : decide ((i : Int) < (N : Int)) = true := decide_eq_true (by omega)
        have d2 : decide (i < N) = true := decide_eq_true hlt
        have i0 : (0 : Int) ≤ (i : Int) := by omega
        have i1 : (i : Int) < (N : Int) := by omega
        have i2 : (i : Int) + 1 ≤ 9223372036854775807 := by omega
        have hip : i < l.length := by rw [← HN.out]; exact hlt
        obtain ⟨t, htt⟩ : ∃ t, t = l[i] := ⟨_, rfl⟩
        have hgt : l[i]? = some t := by rw [htt]; exact List.getElem?_eq_getElem hip
        have hbt : bgS t ≤ bgSL l := bgSA l i t hgt
        obtain ⟨us, hty, hyc⟩ := hx.at i t hgt
        obtain ⟨vs, hty', hyc'⟩ := hx'.at i t hgt
        clear hgt htt hip
        obtain ⟨k, wd, a, b, th, el⟩ := t
        unfold bgS at hbt
        obtain ⟨-, -, ka, na, sa, pa, ma, ca, kb, nb, sb, pb, mb, cb, pt, ct, pe, ce, xt, xe, rfl, Ta, Tb, ot, st1, oe, se1⟩ := hty.parts
        obtain ⟨-, -, ka2, na2, sa2, pa2, ma2, ca2, kb2, nb2, sb2, pb2, mb2, cb2, pt2, ct2, pe2, ce2, xt2, xe2, rfl, Ta2, Tb2, ot2, st2, oe2, se2⟩ := hty'.parts
        clear hty hty'
        obtain ⟨s, hs⟩ : ∃ s, s = bs wd := ⟨_, rfl⟩
        rw [← hs] at hyc hyc'
        clear hs
        obtain ⟨g, og, rfl, -⟩ := hget (i * 12) _ (hyc 0 _ rfl)
        obtain ⟨g', og', rfl, -⟩ := hget' (i * 12) _ (hyc' 0 _ rfl)
        have hq1 : ∀ (j : Nat) (u : Value), ([.int .i64 k, .string s, .int .i64 ka, .int .i64 na, .string sa, .slice pa ma ca, .int .i64 kb, .int .i64 nb, .string sb, .slice pb mb cb, .slice pt th.length ct, .slice pe el.length ce] : List Value)[j]? = some u → wr.cell? ⟨g, og + i * 12 + j, none⟩ = some u := fun j u e => by
          obtain ⟨g1, o1, eg, h6⟩ := hget _ _ (hyc j u e)
          injection eg with eg; injection eg with eg eo _; subst eg eo
          rw [Nat.add_assoc]
          exact hB.cell h6 (fun e => e)
        have hq2 : ∀ (j : Nat) (u : Value), ([.int .i64 k, .string s, .int .i64 ka2, .int .i64 na2, .string sa2, .slice pa2 ma2 ca2, .int .i64 kb2, .int .i64 nb2, .string sb2, .slice pb2 mb2 cb2, .slice pt2 th.length ct2, .slice pe2 el.length ce2] : List Value)[j]? = some u → wr.cell? ⟨g', og' + i * 12 + j, none⟩ = some u := fun j u e => by
          obtain ⟨g1, o1, eg, h6⟩ := hget' _ _ (hyc' j u e)
          injection eg with eg; injection eg with eg eo _; subst eg eo
          rw [Nat.add_assoc]
          exact hB.cell h6 (fun e => e)
        clear hyc hyc'
        refine wp_seq_k (fun KK hKK => ?_)
        have hKH : Hid _ := hKK
        clear hKK
        go_wp2_with fail
        refine hKH.out _ _ ?_
        clear hKH KK
        refine wp_seq_k (fun KK hKK => ?_)
        have hKH : Hid _ := hKK
        clear hKK
        refine wp_block ?_
        refine wp_seq_k (fun K2 hK2 => ?_)
        have rest : ∀ (b6 b7 : Nat) (w6 : World), CL w6 b6 [.int .i64 k, .string s, .int .i64 ka, .int .i64 na, .string sa, .slice pa ma ca, .int .i64 kb, .int .i64 nb, .string sb, .slice pb mb cb, .slice pt th.length ct, .slice pe el.length ce] → CL w6 b7 [.int .i64 k, .string s, .int .i64 ka2, .int .i64 na2, .string sa2, .slice pa2 ma2 ca2, .int .i64 kb2, .int .i64 nb2, .string sb2, .slice pb2 mb2 cb2, .slice pt2 th.length ct2, .slice pe2 el.length ce2] → Keeps (fun _ => False) wr w6 → K2 { tmps := #[.slice (some ⟨g, og, none⟩) N c, .slice (some ⟨g', og', none⟩) N c', undef, undef, u4, .int .i64 (i : Int), .pointer (some ⟨b6, 0, none⟩), .pointer (some ⟨b7, 0, none⟩), .slice (some ⟨g, og, none⟩) N c, .int .i64 (N : Int), .slice (some ⟨g', og', none⟩) N c', .int .i64 (N : Int), .bool false, .int .i64 (i : Int), .slice (some ⟨g, og, none⟩) N c, .int .i64 (N : Int), .bool true, u17, u18, .slice (some ⟨g, og, none⟩) N c, .int .i64 (i : Int), .pointer (some ⟨g, og + i * 12, none⟩), .agg #[.int .i64 k, .string s, .int .i64 ka, .int .i64 na, .string sa, .slice pa ma ca, .int .i64 kb, .int .i64 nb, .string sb, .slice pb mb cb, .slice pt th.length ct, .slice pe el.length ce], .slice (some ⟨g', og', none⟩) N c', .int .i64 (i : Int), .pointer (some ⟨g', og' + i * 12, none⟩), .agg #[.int .i64 k, .string s, .int .i64 ka2, .int .i64 na2, .string sa2, .slice pa2 ma2 ca2, .int .i64 kb2, .int .i64 nb2, .string sb2, .slice pb2 mb2 cb2, .slice pt2 th.length ct2, .slice pe2 el.length ce2], u27, u28, u29, u30, u31, u32, u33, u34, u35, u36, u37, u38, u39, u40, u41, u42, u43, u44, u45, u46, u47, u48, u49, u50, u51, u52, u53, u54, u55, u56, u57, u58, u59, u60, u61, u62, u63, u64, u65, u66, u67, u68, u69, u70], defers := [] } w6 := by
          intro b6 b7 w6 hbA hbB k6
          have hKI : Hid _ := hK2
          clear hK2
          refine hKI.out _ _ ?_
          clear hKI hq1 hq2
          have y0 := hbA.c 0 _ rfl
          have y1 := hbA.c 1 _ rfl
          have y10 := hbA.c 10 _ rfl
          have y11 := hbA.c 11 _ rfl
          have x0 := hbB.c 0 _ rfl
          have x1 := hbB.c 1 _ rfl
          have x10 := hbB.c 10 _ rfl
          have x11 := hbB.c 11 _ rfl
          have kw6 : Keeps (fun _ => False) w w6 := hB.trans k6
          have hqa : ∀ W, Keeps (fun _ => False) w6 W → (loadVar 41 ⟨b6, 2, none⟩).run Tryz.prog W = .ok (.agg #[.int .i64 ka, .int .i64 na, .string sa, .slice pa ma ca]) W := fun W kW => run_er (fun j v e => (hbA.keep (by show 0 < 12; decide) kW (fun e => e)).c (2 + j) v (by rw [← List.getElem?_drop, ← e]; exact List.getElem?_append_left (l₂ := [.int .i64 kb, .int .i64 nb, .string sb, .slice pb mb cb, .slice pt th.length ct, .slice pe el.length ce]) (List.getElem?_eq_some_iff.1 e).1))
          have hqb : ∀ W, Keeps (fun _ => False) w6 W → (loadVar 41 ⟨b6, 6, none⟩).run Tryz.prog W = .ok (.agg #[.int .i64 kb, .int .i64 nb, .string sb, .slice pb mb cb]) W := fun W kW => run_er (fun j v e => (hbA.keep (by show 0 < 12; decide) kW (fun e => e)).c (6 + j) v (by rw [← List.getElem?_drop, ← e]; exact List.getElem?_append_left (l₂ := [.slice pt th.length ct, .slice pe el.length ce]) (List.getElem?_eq_some_iff.1 e).1))
          have hqc : ∀ W, Keeps (fun _ => False) w6 W → (loadVar 41 ⟨b7, 2, none⟩).run Tryz.prog W = .ok (.agg #[.int .i64 ka2, .int .i64 na2, .string sa2, .slice pa2 ma2 ca2]) W := fun W kW => run_er (fun j v e => (hbB.keep (by show 0 < 12; decide) kW (fun e => e)).c (2 + j) v (by rw [← List.getElem?_drop, ← e]; exact List.getElem?_append_left (l₂ := [.int .i64 kb2, .int .i64 nb2, .string sb2, .slice pb2 mb2 cb2, .slice pt2 th.length ct2, .slice pe2 el.length ce2]) (List.getElem?_eq_some_iff.1 e).1))
          have hqd : ∀ W, Keeps (fun _ => False) w6 W → (loadVar 41 ⟨b7, 6, none⟩).run Tryz.prog W = .ok (.agg #[.int .i64 kb2, .int .i64 nb2, .string sb2, .slice pb2 mb2 cb2]) W := fun W kW => run_er (fun j v e => (hbB.keep (by show 0 < 12; decide) kW (fun e => e)).c (6 + j) v (by rw [← List.getElem?_drop, ← e]; exact List.getElem?_append_left (l₂ := [.slice pt2 th.length ct2, .slice pe2 el.length ce2]) (List.getElem?_eq_some_iff.1 e).1))
          have hQa := hqa w6 (Keeps.refl _ w6)
          have hQc := hqc w6 (Keeps.refl _ w6)
          have hPa := sx_all n a (by omega) (by omega) w6 _ _ (Ta.keep kw6) (Ta2.keep kw6)
          have hPb := fun W (kW : Keeps (fun _ => False) w6 W) => sx_all n b (by omega) (by omega) W _ _ (Tb.keep (kw6.trans kW)) (Tb2.keep (kw6.trans kW))
          have hPt := fun W (kW : Keeps (fun _ => False) w6 W) => IH th (by omega) W pt ct _ pt2 ct2 _ (ot.keep (kw6.trans kW)) (st1.keep (kw6.trans kW)) (ot2.keep (kw6.trans kW)) (st2.keep (kw6.trans kW))
          have hPe := fun W (kW : Keeps (fun _ => False) w6 W) => IH el (by omega) W pe ce _ pe2 ce2 _ (oe.keep (kw6.trans kW)) (se1.keep (kw6.trans kW)) (oe2.keep (kw6.trans kW)) (se2.keep (kw6.trans kW))
          have e1 : (s.toList != s.toList) = false := by simp
          have e2 : (k != k) = false := by simp
          clear hB
          go_wp2_with (first | (refine wpList_load_runV (by rfl) 41 _ rfl ⟨b6, 2, none⟩ rfl _ hQa ?_; clear hQa) | (refine wpList_load_runV (by rfl) 41 _ rfl ⟨b7, 2, none⟩ rfl _ hQc ?_; clear hQc) | (go_at_call 24; refine hPa.mono ?_; clear hPa; rintro e w7 ⟨rfl, k7⟩; have hQb := hqb w7 k7; have hQd := hqd w7 k7; have hPb2 := hPb w7 k7) | (refine wpList_load_runV (by rfl) 41 _ rfl ⟨b6, 6, none⟩ rfl _ hQb ?_; clear hQb) | (refine wpList_load_runV (by rfl) 41 _ rfl ⟨b7, 6, none⟩ rfl _ hQd ?_; clear hQd) | (go_at_call 24; refine hPb2.mono ?_; clear hPb2; rintro e w8 ⟨rfl, k8⟩; have k68 := k7.trans k8; have y18 := k68.cell y10 (fun e => e); have x18 := k68.cell x10 (fun e => e); have hPt2 := hPt w8 k68) | (go_at_call 14; refine hPt2.mono ?_; clear hPt2; rintro e w9 ⟨rfl, k9⟩; have k69 := k68.trans k9; have y19 := k69.cell y11 (fun e => e); have x19 := k69.cell x11 (fun e => e); have hPe2 := hPe w9 k69) | (go_at_call 14; refine hPe2.mono ?_; clear hPe2; rintro e w10 ⟨rfl, k10⟩; have k610 := k69.trans k10))
          refine hKH.out _ _ ?_
          clear hKH
          have kw10 := kw6.trans k610
          clear hqa hqb hqc hqd hPb hPt hPe
          go_wp2_with fail
          go_roundw
          case rel => exact ⟨i + 1, by go_num, by omega, kw10⟩
          case measure => simp [intOf]; omega
        have restH : Hid _ := rest
        clear rest hK2
        go_wp2_with fail
        refine wp_region_held_drew (S := fun w' => Keeps (fun _ => False) wr w') (by kernel_rfl) (Keeps.refl _ wr).drew (fun hHeld => ?_)
        refine wpAnyH_take (i := 0) (v := ?_) rfl (by kernel_rfl) (by kernel_rfl) (by kernel_rfl) (fun _ _ _ h => h) (Or.inl ⟨by rfl, ?_⟩) (by assumption) ?_
        rotate_left
        · intro wx hSw; clear hSw; go_simp <;> with_reducible rfl
        (try simp only [List.getElem_toArray]); (try simp only [List.getElem_cons_succ]); (try simp only [List.getElem_cons_zero]); (try simp only [Act.put]); (try simp only [List.setIfInBounds_toArray]); (repeat first | simp only [List.set_cons_succ] | simp only [List.set_cons_zero])
        refine wpAnyH_take (i := 1) (v := ?_) rfl (by kernel_rfl) (by kernel_rfl) (by kernel_rfl) (fun _ _ _ h => h) (Or.inl ⟨by rfl, ?_⟩) (by assumption) ?_
        rotate_left
        · intro wx hSw; clear hSw; go_simp <;> with_reducible rfl
        (try simp only [List.getElem_toArray]); (try simp only [List.getElem_cons_succ]); (try simp only [List.getElem_cons_zero]); (try simp only [Act.put]); (try simp only [List.setIfInBounds_toArray]); (repeat first | simp only [List.set_cons_succ] | simp only [List.set_cons_zero])
        refine wpAnyH_take (i := 2) (v := ?_) rfl (by kernel_rfl) (by kernel_rfl) (by kernel_rfl) (fun _ _ _ h => h) (Or.inl ⟨by rfl, ?_⟩) (by assumption) ?_
        rotate_left
        · intro wx hSw; clear hSw; go_simp <;> with_reducible rfl
        (try simp only [List.getElem_toArray]); (try simp only [List.getElem_cons_succ]); (try simp only [List.getElem_cons_zero]); (try simp only [Act.put]); (try simp only [List.setIfInBounds_toArray]); (repeat first | simp only [List.set_cons_succ] | simp only [List.set_cons_zero])
        refine wpAnyH_take (i := 3) (v := .agg #[.int .i64 k, .string s, .int .i64 ka, .int .i64 na, .string sa, .slice pa ma ca, .int .i64 kb, .int .i64 nb, .string sb, .slice pb mb cb, .slice pt th.length ct, .slice pe el.length ce]) rfl (by kernel_rfl) (by kernel_rfl) (by kernel_rfl) (fun _ _ _ h => h) (Or.inl ⟨by rfl, ?_⟩) (by assumption) ?_
        · intro wx hSw; exact takes_loadR 43 _ rfl ⟨g, og + i * 12, none⟩ rfl (run_rs rfl (fun j v e => Keeps.cell (S := fun _ => False) hSw (hq1 j v e) (fun e => e)))
        (try simp only [List.getElem_toArray]); (try simp only [List.getElem_cons_succ]); (try simp only [List.getElem_cons_zero]); (try simp only [Act.put]); (try simp only [List.setIfInBounds_toArray]); (repeat first | simp only [List.set_cons_succ] | simp only [List.set_cons_zero])
        refine wpAnyH_take (i := 4) (v := ?_) rfl (by kernel_rfl) (by kernel_rfl) (by kernel_rfl) (fun _ _ _ h => h) (Or.inl ⟨by rfl, ?_⟩) (by assumption) ?_
        rotate_left
        · intro wx hSw; clear hSw; go_simp <;> with_reducible rfl
        (try simp only [List.getElem_toArray]); (try simp only [List.getElem_cons_succ]); (try simp only [List.getElem_cons_zero]); (try simp only [Act.put]); (try simp only [List.setIfInBounds_toArray]); (repeat first | simp only [List.set_cons_succ] | simp only [List.set_cons_zero])
        refine wpAnyH_take (i := 5) (v := ?_) rfl (by kernel_rfl) (by kernel_rfl) (by kernel_rfl) (fun _ _ _ h => h) (Or.inl ⟨by rfl, ?_⟩) (by assumption) ?_
        rotate_left
        · intro wx hSw; clear hSw; go_simp <;> with_reducible rfl
        (try simp only [List.getElem_toArray]); (try simp only [List.getElem_cons_succ]); (try simp only [List.getElem_cons_zero]); (try simp only [Act.put]); (try simp only [List.setIfInBounds_toArray]); (repeat first | simp only [List.set_cons_succ] | simp only [List.set_cons_zero])
        refine wpAnyH_take (i := 6) (v := ?_) rfl (by kernel_rfl) (by kernel_rfl) (by kernel_rfl) (fun _ _ _ h => h) (Or.inl ⟨by rfl, ?_⟩) (by assumption) ?_
        rotate_left
        · intro wx hSw; clear hSw; go_simp <;> with_reducible rfl
        (try simp only [List.getElem_toArray]); (try simp only [List.getElem_cons_succ]); (try simp only [List.getElem_cons_zero]); (try simp only [Act.put]); (try simp only [List.setIfInBounds_toArray]); (repeat first | simp only [List.set_cons_succ] | simp only [List.set_cons_zero])
        refine wpAnyH_take (i := 7) (v := .agg #[.int .i64 k, .string s, .int .i64 ka2, .int .i64 na2, .string sa2, .slice pa2 ma2 ca2, .int .i64 kb2, .int .i64 nb2, .string sb2, .slice pb2 mb2 cb2, .slice pt2 th.length ct2, .slice pe2 el.length ce2]) rfl (by kernel_rfl) (by kernel_rfl) (by kernel_rfl) (fun _ _ _ h => h) (Or.inl ⟨by rfl, ?_⟩) (by assumption) ?_
        · intro wx hSw; exact takes_loadR 43 _ rfl ⟨g', og' + i * 12, none⟩ rfl (run_rs rfl (fun j v e => Keeps.cell (S := fun _ => False) hSw (hq2 j v e) (fun e => e)))
        (try simp only [List.getElem_toArray]); (try simp only [List.getElem_cons_succ]); (try simp only [List.getElem_cons_zero]); (try simp only [Act.put]); (try simp only [List.setIfInBounds_toArray]); (repeat first | simp only [List.set_cons_succ] | simp only [List.set_cons_zero])
        have m0 := (CL.made wr zSR 43).drew
        have m1 := (CL.made (wr.alloc (.cells zSR.toArray 43)).drew zSR 43)
        have s1 : (wr.alloc (.cells zSR.toArray 43)).drew.heap.size = wr.heap.size + 1 := World.size_alloc _ _
        rw [s1] at m1
        have m01 := m0.alloc (by show 0 < 12; decide) (.cells zSR.toArray 43)
        refine wpAnyH_two' 8 9 (by kernel_rfl) rfl rfl (by kernel_rfl) (by kernel_rfl) ?_ ?_
        · go_simp
          refine ⟨hHeld.alloc _, fun hS1 => ?_⟩
          (try simp only [List.getElem_toArray]); (try simp only [List.getElem_cons_succ]); (try simp only [List.getElem_cons_zero]); (try simp only [Act.put]); (try simp only [List.setIfInBounds_toArray]); (repeat first | simp only [List.set_cons_succ] | simp only [List.set_cons_zero])
          refine wpAnyH_one 9 (by kernel_rfl) rfl rfl ?_
          go_simp
          refine ⟨hS1.alloc _, fun hS2 => ?_⟩
          (try simp only [List.getElem_toArray]); (try simp only [List.getElem_cons_succ]); (try simp only [List.getElem_cons_zero]); (try simp only [Act.put]); (try simp only [List.setIfInBounds_toArray]); (repeat first | simp only [List.set_cons_succ] | simp only [List.set_cons_zero])
          refine wpAnyH_storeR 10 (by kernel_rfl) rfl rfl 43 _ _ rfl (wr.heap.size) 12 _ rfl rfl rfl m01 rfl iRS one12N (fun w1 k => Keeps.trans' (S := fun _ => False) hS2 k (fun _ _ e => e) (fun i hi e => by have e : i = wr.heap.size := e; omega)) (fun v5 hb5 k5 hS3 => ?_)
          (try simp only [List.getElem_toArray]); (try simp only [List.getElem_cons_succ]); (try simp only [List.getElem_cons_zero]); (try simp only [Act.put]); (try simp only [List.setIfInBounds_toArray]); (repeat first | simp only [List.set_cons_succ] | simp only [List.set_cons_zero])
          have m7 := CL.keep m1 (by show 0 < 12; decide) k5 (fun e => by have e : wr.heap.size + 1 = wr.heap.size := e; omega)
          refine wpAnyH_storeR 11 (by kernel_rfl) rfl rfl 43 _ _ rfl (wr.heap.size + 1) 12 _ rfl rfl rfl m7 rfl iRS one12N (fun w1 k => Keeps.trans' (S := fun _ => False) hS3 k (fun _ _ e => e) (fun i hi e => by have e : i = wr.heap.size + 1 := e; omega)) (fun w6 hb6 k6 hS4 => ?_)
          (try simp only [List.getElem_toArray]); (try simp only [List.getElem_cons_succ]); (try simp only [List.getElem_cons_zero]); (try simp only [Act.put]); (try simp only [List.setIfInBounds_toArray]); (repeat first | simp only [List.set_cons_succ] | simp only [List.set_cons_zero])
          refine wpAnyH_done (by kernel_rfl) ?_ _
          exact restH.out (wr.heap.size) (wr.heap.size + 1) w6 (hb5.keep (by show 0 < 12; decide) k6 (fun e => by have e : wr.heap.size = wr.heap.size + 1 := e; omega)) hb6 hS4
        · go_simp
          refine ⟨hHeld.alloc _, fun hS1 => ?_⟩
          (try simp only [List.getElem_toArray]); (try simp only [List.getElem_cons_succ]); (try simp only [List.getElem_cons_zero]); (try simp only [Act.put]); (try simp only [List.setIfInBounds_toArray]); (repeat first | simp only [List.set_cons_succ] | simp only [List.set_cons_zero])
          refine wpAnyH_one 8 (by kernel_rfl) rfl rfl ?_
          go_simp
          refine ⟨hS1.alloc _, fun hS2 => ?_⟩
          (try simp only [List.getElem_toArray]); (try simp only [List.getElem_cons_succ]); (try simp only [List.getElem_cons_zero]); (try simp only [Act.put]); (try simp only [List.setIfInBounds_toArray]); (repeat first | simp only [List.set_cons_succ] | simp only [List.set_cons_zero])
          refine wpAnyH_storeR 10 (by kernel_rfl) rfl rfl 43 _ _ rfl (wr.heap.size + 1) 12 _ rfl rfl rfl m1 rfl iRS one12N (fun w1 k => Keeps.trans' (S := fun _ => False) hS2 k (fun _ _ e => e) (fun i hi e => by have e : i = wr.heap.size + 1 := e; omega)) (fun v5 hb5 k5 hS3 => ?_)
          (try simp only [List.getElem_toArray]); (try simp only [List.getElem_cons_succ]); (try simp only [List.getElem_cons_zero]); (try simp only [Act.put]); (try simp only [List.setIfInBounds_toArray]); (repeat first | simp only [List.set_cons_succ] | simp only [List.set_cons_zero])
          have m7 := CL.keep m01 (by show 0 < 12; decide) k5 (fun e => by have e : wr.heap.size = wr.heap.size + 1 := e; omega)
          refine wpAnyH_storeR 11 (by kernel_rfl) rfl rfl 43 _ _ rfl (wr.heap.size) 12 _ rfl rfl rfl m7 rfl iRS one12N (fun w1 k => Keeps.trans' (S := fun _ => False) hS3 k (fun _ _ e => e) (fun i hi e => by have e : i = wr.heap.size := e; omega)) (fun w6 hb6 k6 hS4 => ?_)
          (try simp only [List.getElem_toArray]); (try simp only [List.getElem_cons_succ]); (try simp only [List.getElem_cons_zero]); (try simp only [Act.put]); (try simp only [List.setIfInBounds_toArray]); (repeat first | simp only [List.set_cons_succ] | simp only [List.set_cons_zero])
          refine wpAnyH_done (by kernel_rfl) ?_ _
          exact restH.out (wr.heap.size + 1) (wr.heap.size) w6 (hb5.keep (by show 0 < 12; decide) k6 (fun e => by have e : wr.heap.size + 1 = wr.heap.size := e; omega)) hb6 hS4
      · obtain rfl : i = N := by omega
        have d1 : decide ((i : Int) < (i : Int)) = false := decide_eq_false (by omega)
        have d2 : decide (i < i) = false := decide_eq_false (by omega)
        go_wp2_with fail
        go_ret
        exact ⟨rfl, hB⟩
/-- What a text comes to. -/
def prX (T : Bs) : Except (Int × Int × Int) (List St) := if 32768 < T.length then .error (230, 0, 0) else match prs0 T with
  | .error E => .error (231, (lnO (T.take (T.length - E.length)) : Int), (colO (T.take (T.length - E.length)) : Int))
  | .ok (l, _) => if chk l = 0 then .ok l else .error (chk l, 0, 0)
def PrsX (x : Except (Int × Int × Int) (List St)) (w : World) (e : Ending) (w' : World) : Prop := match x with
  | .error f => PrsE f.1 f.2.1 f.2.2 w e w'
  | .ok l => PrsO l w e w'
theorem sm_all (n : Nat) (l : List St) (h : bgSL l < n) (hn : n ≤ 1048576) : SmL l := fun w _ _ p c xs p' c' xs' ho hx ho' hx' => smI_all n l h hn w p c xs p' c' xs' ho.rd hx.toI ho'.rd hx'.toI
theorem fu_big : 327685 ≤ FU := by unfold FU; omega
theorem parse_all {w : World} {T : Bs} (hG : SG w) (h12 : 12 ≤ w.heap.size) : Calls Tryz.prog 13 #[.string (bs T)] w (PrsX (prX T) w) := by
  unfold prX
  by_cases hT : 32768 < T.length
  · rw [if_pos hT]
    exact parse_long hT
  rw [if_neg hT]
  have hT : T.length ≤ 32768 := by omega
  have hF := fu_big
  unfold prs0
  generalize FU = F at *
  cases hb : badB (spk false T) with
  | true =>
    rw [if_pos rfl]
    exact parse_first hG h12 hT hb
  | false =>
    rw [if_neg (by decide)]
    cases hs : sts F [] (spk false T) with
    | error E => exact parse_no hG h12 hT hb hF hs
    | ok z =>
      obtain ⟨l, R1⟩ := z
      dsimp only
      by_cases hc : chk l = 0
      · rw [if_pos hc]
        exact parse_ok hG h12 hT hb hF hs hc
      · rw [if_neg hc]
        exact parse_chk hG h12 hT hb hF hs hc
/-! What is left of a text behind a fault is an end of it; a dressed text's answer, without memory. -/
def SufT {α : Type} (R : Bs) (x : Except Bs (α × Bs)) : Prop := match x with
  | .error E => E <:+ R
  | .ok z => z.2 <:+ R
def SufR (R : Bs) (x : Except Bs Bs) : Prop := match x with
  | .error E => E <:+ R
  | .ok E => E <:+ R
theorem SufT.up {α : Type} {R R' : Bs} {x : Except Bs (α × Bs)} (h : SufT R x) (k : R <:+ R') : SufT R' x := by
  cases x <;> exact List.IsSuffix.trans h k
theorem thn_suf {α β : Type} {R : Bs} {x : Except Bs (α × Bs)} {f : α → Bs → Except Bs (β × Bs)} (h : SufT R x) (k : ∀ a R1, SufT R1 (f a R1)) : SufT R (thn x f) := by
  cases x with
  | error E => exact h
  | ok z => exact (k z.1 z.2).up h
theorem thr_suf {β : Type} {R : Bs} {x : Except Bs Bs} {f : Bs → Except Bs (β × Bs)} (h : SufR R x) (k : ∀ R1, SufT R1 (f R1)) : SufT R (thr x f) := by
  cases x with
  | error E => exact h
  | ok z => exact (k z).up h
theorem nxt_suf (R : Bs) : SufR R (nxt R) := by
  unfold nxt
  split <;> exact adv_suf R
theorem need_suf (w R : Bs) : SufR R (need w R) := by
  unfold need
  split
  · exact nxt_suf R
  · exact List.suffix_refl _
theorem ok_suf {α : Type} (a : α) (R : Bs) : SufT R (Except.ok (a, R)) := List.suffix_refl _
theorem er_suf {α : Type} (R : Bs) : SufT (α := α) R (Except.error R) := List.suffix_refl _
theorem num_suf (R : Bs) : SufT R (num R) := by
  unfold num
  split
  · exact thr_suf (nxt_suf R) fun _ => ok_suf _ _
  · exact er_suf _
theorem rd_suf : ∀ d : Nat, (∀ least R, SufT R (ex d least R)) ∧ (∀ left str least R, SufT R (lp d left str least R)) ∧ (∀ R, SufT R (opd d R)) ∧ (∀ R, SufT R (lst d R)) ∧ (∀ R, SufT R (obj d R)) ∧ (∀ R, SufT R (pr d R))
  | 0 => by
    refine ⟨fun _ R => ?_, fun _ _ _ R => ?_, fun R => ?_, fun R => ?_, fun R => ?_, fun R => ?_⟩ <;> simp only [ex, lp, opd, lst, obj, pr] <;> exact er_suf _
  | d + 1 => by
    obtain ⟨i1, i2, i3, i4, i5, i6⟩ := rd_suf d
    refine ⟨fun least R => ?_, fun left str least R => ?_, fun R => ?_, fun R => ?_, fun R => ?_, fun R => ?_⟩
    · rw [ex]
      exact thn_suf (i3 R) fun t R1 => i2 _ _ _ _
    · rw [lp]
      split
      · exact ok_suf _ _
      · exact thr_suf (nxt_suf R) fun R1 => thn_suf (i1 _ _) fun t R2 => i2 _ _ _ _
    · rw [opd]
      split
      · exact thr_suf (nxt_suf R) fun R1 => thn_suf (i3 _) fun t R2 => ok_suf _ _
      · split
        · exact thr_suf (nxt_suf R) fun R1 => thn_suf (i3 _) fun t R2 => ok_suf _ _
        · exact i4 R
    · rw [lst]
      split
      · exact thn_suf (i5 _) fun t R2 => ok_suf _ _
      · split
        · exact thr_suf (nxt_suf R) fun R1 => thn_suf (i5 _) fun t R2 => ok_suf _ _
        · split
          · exact i6 R
          · split
            · exact thr_suf (nxt_suf R) fun R1 => thn_suf (i1 _ _) fun t R2 => thr_suf (need_suf _ _) fun R3 => ok_suf _ _
            · split
              · exact thr_suf (nxt_suf R) fun R1 => ok_suf _ _
              · exact num_suf R
    · rw [obj]
      exact thr_suf (need_suf _ _) fun R1 => thn_suf (i1 _ _) fun t R2 => thr_suf (need_suf _ _) fun R3 => ok_suf _ _
    · rw [pr]
      exact thr_suf (nxt_suf _) fun R1 => thr_suf (need_suf _ _) fun R2 => thn_suf (i1 _ _) fun a R3 => thr_suf (need_suf _ _) fun R4 => thn_suf (i1 _ _) fun b R5 => thr_suf (need_suf _ _) fun R6 => ok_suf _ _
theorem smp_suf (R : Bs) : SufT R (smp R) := by
  have i1 := (rd_suf FU).1
  have i5 := (rd_suf FU).2.2.2.2.1
  unfold smp
  split
  · exact thn_suf (i5 _) fun a R1 => thr_suf (need_suf _ _) fun R2 => thn_suf (i1 _ _) fun b R3 => ok_suf _ _
  · split
    · exact thr_suf (nxt_suf _) fun R1 => thn_suf (i5 _) fun a R2 => ok_suf _ _
    · split
      · exact thr_suf (nxt_suf _) fun R1 => ok_suf _ _
      · split
        · exact thr_suf (nxt_suf _) fun R1 => thn_suf (i1 _ _) fun a R2 => ok_suf _ _
        · split
          · exact thr_suf (nxt_suf _) fun R1 => thr_suf (need_suf _ _) fun R2 => thn_suf (i1 _ _) fun a R3 => ok_suf _ _
          · exact er_suf _
theorem rs_suf : ∀ d : Nat, (∀ en R, SufT R (sts d en R)) ∧ (∀ R, SufT R (stm d R)) ∧ (∀ R, SufT R (brn d R)) ∧ (∀ R, SufT R (oth d R)) ∧ (∀ R, SufT R (blk d R))
  | 0 => by
    refine ⟨fun _ R => ?_, fun R => ?_, fun R => ?_, fun R => ?_, fun R => ?_⟩ <;> simp only [sts, stm, brn, oth, blk] <;> exact er_suf _
  | d + 1 => by
    have i0 := (rd_suf FU).1
    obtain ⟨i1, i2, i3, i4, i5⟩ := rs_suf d
    refine ⟨fun en R => ?_, fun R => ?_, fun R => ?_, fun R => ?_, fun R => ?_⟩
    · rw [sts]
      split
      · exact ok_suf _ _
      · exact thn_suf (i2 _) fun s R1 => thn_suf (i1 _ _) fun l R2 => ok_suf _ _
    · rw [stm]
      split
      · exact i3 R
      · split
        · exact thr_suf (nxt_suf _) fun R1 => thn_suf (i0 _ _) fun a R2 => thn_suf (i5 _) fun l R3 => ok_suf _ _
        · exact thn_suf (smp_suf _) fun s R1 => thr_suf (need_suf _ _) fun R2 => ok_suf _ _
    · rw [brn]
      refine thr_suf (need_suf _ _) fun R1 => thn_suf (i0 _ _) fun a R2 => thn_suf (i5 _) fun l R3 => ?_
      split
      · exact thr_suf (nxt_suf _) fun R4 => thn_suf (i4 _) fun m R5 => ok_suf _ _
      · exact ok_suf _ _
    · rw [oth]
      split
      · exact thn_suf (i3 _) fun s R1 => ok_suf _ _
      · exact i5 R
    · rw [blk]
      exact thr_suf (need_suf _ _) fun R1 => thn_suf (i1 _ _) fun l R2 => thr_suf (need_suf _ _) fun R3 => ok_suf _ _
theorem prs0_suf {T E : Bs} (h : prs0 T = .error E) : E <:+ T := by
  have hs : SufT T (prs0 T) := by
    unfold prs0
    split
    · exact spk_suf _ _
    · exact ((rs_suf FU).1 [] _).up (spk_suf _ _)
  rw [h] at hs
  exact hs
theorem take_suf (A E : Bs) : (A ++ E).take ((A ++ E).length - E.length) = A := by
  rw [List.length_append, Nat.add_sub_cancel]; simp
theorem colO_le (A : Bs) : colO A ≤ A.length + 1 := by
  unfold colO
  have := (List.takeWhile_sublist (fun b => b != 10) (l := A.reverse)).length_le
  rw [List.length_reverse] at this
  omega
theorem chk_vals (l : List St) : chk l = 0 ∨ chk l = 232 ∨ chk l = 233 ∨ chk l = 234 ∨ chk l = 235 := by
  unfold chk
  repeat' split
  all_goals simp
/-- What a dressed text comes to. -/
theorem prX_dr (T : Bs) (hd : (9 :: dr T).length ≤ 32768) (hT : T.length ≤ 32768) : (∃ l, prX T = .ok l ∧ prX (9 :: dr T) = .ok l) ∨ (∃ a b : Nat, prX T = .error (231, (a : Int), (b : Int)) ∧ prX (9 :: dr T) = .error (231, (a : Int), (b : Int) + 1) ∧ 1 ≤ a ∧ 1 ≤ b ∧ b ≤ 32769) ∨ ∃ c : Int, prX T = .error (c, 0, 0) ∧ prX (9 :: dr T) = .error (c, 0, 0) ∧ c ≠ 231 ∧ c ≠ 0 := by
  unfold prX
  rw [if_neg (by omega), if_neg (by omega), prs0_dr]
  cases hp : prs0 T with
  | error E =>
    obtain ⟨A, hA⟩ := prs0_suf hp
    refine .inr (.inl ⟨lnO A, colO A, ?_, ?_, ?_, ?_, ?_⟩)
    · show Except.error (231, (lnO (T.take (T.length - E.length)) : Int), (colO (T.take (T.length - E.length)) : Int)) = _
      rw [← hA, take_suf]
    · have e : 9 :: dr T = (9 :: dr A) ++ dr E := by rw [← hA, dr_app]; rfl
      dsimp only [mpT]
      rw [e, take_suf, lnO_dr, colO_dr]
      rfl
    · unfold lnO; omega
    · unfold colO; omega
    · have h1 := colO_le A
      have h2 := congrArg List.length hA
      rw [List.length_append] at h2
      omega
  | ok z =>
    obtain ⟨l, R⟩ := z
    dsimp only [mpT]
    by_cases h : chk l = 0
    · exact .inl ⟨l, by rw [if_pos h], by rw [if_pos h]⟩
    · refine .inr (.inr ⟨chk l, by rw [if_neg h], by rw [if_neg h], ?_, h⟩)
      rcases chk_vals l with e | e | e | e | e <;> omega
/-- "x := a - 1 * take [b];", and its tree. -/
def tx1 : Bs := [120, 32, 58, 61, 32, 97, 32, 45, 32, 49, 32, 42, 32, 116, 97, 107, 101, 32, 91, 98, 93, 59]
def E1 : Tr := .mk 7 0 [45] [.mk 2 0 [97] [], .mk 7 0 [42] [.mk 1 1 [] [], .mk 4 0 [] [.mk 2 0 [98] []]]]
def T1 : List St := [.mk 1 [120] E1 tr0 [] []]
set_option maxRecDepth 1000000 in
theorem prX_tx1 : prX tx1 = .ok T1 := by kernel_rfl
theorem bg_T1 : bgSL T1 = 8 := by kernel_rfl
theorem TC.node {w : World} {P : Nat → Prop} {e : TypeId} {k n : Int} {wd : Bs} {ps : List Tr} {a : Value} {xs : List Value} (hk : I64 k) (hn : I64 n) (hw : wd.length ≤ 140737488355328) (ho : OwnP w P e 4 a ps.length xs) (hx : TL w P e ps xs) : TC w P e (.mk k n wd ps) [.int .i64 k, .int .i64 n, .string (bs wd), a] := by
  unfold TC
  exact ⟨hk, hn, hw, a, xs, rfl, ho, hx⟩
theorem TL.nil' (w : World) (P : Nat → Prop) (e : TypeId) : TL w P e [] [] := by unfold TL; rfl
theorem TL.one {w : World} {P : Nat → Prop} {e : TypeId} {t : Tr} {ys : List Value} (h : TC w P e t ys) : TL w P e [t] ys := by
  unfold TL
  exact ⟨ys, [], by simp, h, TL.nil' _ _ _⟩
theorem TL.two {w : World} {P : Nat → Prop} {e : TypeId} {t u : Tr} {ys zs : List Value} (h : TC w P e t ys) (h' : TC w P e u zs) : TL w P e [t, u] (ys ++ zs) := by
  unfold TL
  exact ⟨ys, zs, rfl, h, TL.one h'⟩
theorem i64d {k : Int} (h : -100 ≤ k ∧ k ≤ 100 := by decide) : I64 k := by unfold I64; omega
theorem TC.leafF {w : World} {P : Nat → Prop} {e : TypeId} {k n : Int} {wd : Bs} (hk : I64 k) (hn : I64 n) (hw : wd.length ≤ 140737488355328) : TC w P e (.mk k n wd []) [.int .i64 k, .int .i64 n, .string (bs wd), .slice none 0 0] := TC.node hk hn hw (ownP_nil _ _ _ _) (TL.nil' _ _ _)
theorem wp_build1K {t e : TypeId} {z : Value} {size bytes : Nat} (ht : Tryz.prog.underlying t = some (.slice e)) (hinfo : (Tryz.prog.info? e).map (fun i => (i.zero, i.size, i.bytes)) = some (some z, size, bytes)) (hs : 0 < size) (hs2 : size ≤ 100) {o : Oper} {a : Act} {w : World} {K : Act → World → Prop} {Q : Exit → Act → World → Prop} (x : Operand) (ho : o.op = .buildSlice t 1 #[(0, x)]) (cs : List Value) (hc : cs.length = size) (hx : a.eval x = .agg cs.toArray)
    (h : K (a.put o.dst (.slice (some ⟨w.heap.size, 0, none⟩) 1 1)) (w.alloc (.cells cs.toArray e))) : o.wp Tryz.prog a w K Q := by
  obtain ⟨i0, hi0, hzz⟩ := Option.map_eq_some_iff.1 hinfo
  simp only [Prod.mk.injEq] at hzz
  obtain ⟨hz0, hz1, -⟩ := hzz
  refine wp_buildSlice t e 1 _ ho cs.toArray i0 _ ht hi0 hz0 (by rw [hz1]; omega) (by rw [hz1]; omega) ?_ h
  rw [hz1]
  have e : (#[(0, x)].map fun (i, x) => (i, a.eval x)).toList = ([Value.agg cs.toArray].zipIdx 0).map fun x => (x.2, x.1) := by simp [hx]
  have e2 : ([Value.agg cs.toArray].flatMap fun v => v.cells.toList).toArray = cs.toArray := by simp [Value.cells]
  rw [e, Great.fill_whole (s := size) hs [Value.agg cs.toArray] _ (fun v hv => by
    simp at hv
    subst hv
    simpa [Value.cells] using hc) (by simp), e2]
set_option maxHeartbeats 1000000 in
set_option maxRecDepth 100000 in
theorem fixed_ok {w : World} (hG : SG w) (h12 : 12 ≤ w.heap.size) : Calls Tryz.prog 8 #[] w fun e w' => e = .returned (.bool true) ∧ Keeps (fun _ => False) w w' := by
  have hP := parse_all (T := tx1) hG h12
  rw [prX_tx1] at hP
  clear hG h12
  go_enter Tryz.func8, Tryz.ntmps8
  refine wp_seq_k (fun KK hKK => ?_)
  have hKH : Hid _ := hKK
  clear hKK
  go_wp2_with fail
  refine hKH.out _ _ ?_
  clear hKH KK
  refine wp_seq_k (fun KK hKK => ?_)
  have hKH : Hid _ := hKK
  clear hKK
  go_wp2_with (go_at_call 13; refine hP.mono ?_; clear hP; rintro e w1 ⟨p, c, xs, rfl, O1, X1, k1⟩)
  refine hKH.out _ _ ?_
  clear hKH KK
  obtain ⟨W2, hW2⟩ : ∃ W2, W2 = w1.alloc (.cells #[.int .i64 0, .int .i64 0, .int .i64 0] 51) := ⟨_, rfl⟩
  have k2 : Keeps (fun _ => False) w1 W2 := by rw [hW2]; exact (Keeps.refl _ w1).alloc _
  have c2 : CL W2 w1.heap.size [.int .i64 0, .int .i64 0, .int .i64 0] := by rw [hW2]; exact CL.made w1 _ _
  rw [show w1.alloc (.cells #[.int .i64 0, .int .i64 0, .int .i64 0] 51) = W2 from hW2.symm]
  clear hW2
  have f0 := c2.c 0 _ rfl
  have f1 := c2.c 1 _ rfl
  have f2 := c2.c 2 _ rfl
  have O2 := O1.stay (k2.stay (fun _ _ _ e => e))
  have X2 := X1.stay (k2.stay (fun _ _ _ e => e))
  have K2 := k1.trans k2
  clear k1 k2 c2 O1 X1
  have hl1 : T1.length = 1 := rfl
  rw [hl1]
  refine wp_seq_k (fun KK hKK => ?_)
  have hKH : Hid _ := hKK
  clear hKK
  go_wp2_with fail
  refine hKH.out _ _ ?_
  clear hKH KK
  clear f0 f1 f2
  refine wp_seq_k (fun KK hKK => ?_)
  have hKH : Hid _ := hKK
  clear hKK
  go_wp2_with fail
  refine hKH.out _ _ ?_
  clear hKH KK
  obtain ⟨W3, hW3⟩ : ∃ W3, W3 = W2.alloc (.cells #[.int .i64 1, .int .i64 1, .string ⟨#[]⟩, .slice none 0 0] 41) := ⟨_, rfl⟩
  have kW3 : Keeps (fun _ => False) W2 W3 := by rw [hW3]; exact (Keeps.refl _ W2).alloc _
  have cW3 : CL W3 W2.heap.size [.int .i64 1, .int .i64 1, .string ⟨#[]⟩, .slice none 0 0] := by rw [hW3]; exact CL.made W2 _ _
  rw [← hW3]
  clear hW3
  refine wp_seq_k (fun KK hKK => ?_)
  have hKH : Hid _ := hKK
  clear hKK
  go_wp2_with (refine wpList_build1L uER inER (by decide) (by decide) rfl _ rfl [.int .i64 2, .int .i64 0, .string ⟨#[98]⟩, .slice none 0 0] rfl rfl ?_; (try simp only [Act.put, List.setIfInBounds_toArray, List.set_cons_zero, List.set_cons_succ]))
  refine hKH.out _ _ ?_
  clear hKH KK
  obtain ⟨W4, hW4⟩ : ∃ W4, W4 = W3.alloc (.cells #[.int .i64 2, .int .i64 0, .string ⟨#[98]⟩, .slice none 0 0] 41) := ⟨_, rfl⟩
  have kW4 : Keeps (fun _ => False) W3 W4 := by rw [hW4]; exact (Keeps.refl _ W3).alloc _
  have cW4 : CL W4 W3.heap.size [.int .i64 2, .int .i64 0, .string ⟨#[98]⟩, .slice none 0 0] := by rw [hW4]; exact CL.made W3 _ _
  have oW4 : OwnP W4 (fun _ => True) 41 4 (.slice (some ⟨W3.heap.size, 0, none⟩) 1 1) 1 [.int .i64 2, .int .i64 0, .string ⟨#[98]⟩, .slice none 0 0] := by rw [hW4]; exact ⟨own_lit W3 _ _ _ _ rfl (by decide), fun _ _ => trivial⟩
  obtain ⟨W5, hW5⟩ : ∃ W5, W5 = W4.alloc (.cells #[.int .i64 4, .int .i64 0, .string ⟨#[]⟩, .slice (some ⟨W3.heap.size, 0, none⟩) 1 1] 41) := ⟨_, rfl⟩
  have kW5 : Keeps (fun _ => False) W4 W5 := by rw [hW5]; exact (Keeps.refl _ W4).alloc _
  have cW5 : CL W5 W4.heap.size [.int .i64 4, .int .i64 0, .string ⟨#[]⟩, .slice (some ⟨W3.heap.size, 0, none⟩) 1 1] := by rw [hW5]; exact CL.made W4 _ _
  have z4 : W4.heap.size = W3.heap.size + 1 := by rw [hW4, World.size_alloc]
  rw [← hW4, ← hW5]
  have d4 : cW5 = cW5 := rfl
  clear d4
  rw [z4] at cW5
  have B5 : TC W5 (fun _ => True) 41 (.mk 4 0 [] [.mk 2 0 [98] []]) [.int .i64 4, .int .i64 0, .string ⟨#[]⟩, .slice (some ⟨W3.heap.size, 0, none⟩) 1 1] := TC.node (wd := []) i64d i64d (by decide) (oW4.stay (kW5.stay (fun _ _ _ e => e))) (TL.one (TC.leafF (wd := [98]) i64d i64d (by decide)))
  have N5 : TC W5 (fun _ => True) 41 (.mk 1 1 [] []) [.int .i64 1, .int .i64 1, .string ⟨#[]⟩, .slice none 0 0] := TC.leafF (wd := []) i64d i64d (by decide)
  have cN5 := (cW3.keep (by show 0 < 4; decide) kW4 (fun e => e)).keep (by show 0 < 4; decide) kW5 (fun e => e)
  have K5 := ((K2.trans kW3).trans kW4).trans kW5
  clear hW4 hW5 cW4 oW4 cW3 z4
  refine wp_seq_k (fun KK hKK => ?_)
  have hKH : Hid _ := hKK
  clear hKK
  go_wp2_with (first | (refine wpList_load_runL rfl 41 _ rfl ⟨W2.heap.size, 0, none⟩ rfl _ (run_er (cl_at0 cN5)) ?_; clear cN5) | (refine wpList_load_runL rfl 41 _ rfl ⟨W3.heap.size + 1, 0, none⟩ rfl _ (run_er (cl_at0 cW5)) ?_; clear cW5) | (refine wpList_build2L uER inER (by decide) (by decide) rfl _ _ rfl [.int .i64 1, .int .i64 1, .string ⟨#[]⟩, .slice none 0 0] [.int .i64 4, .int .i64 0, .string ⟨#[]⟩, .slice (some ⟨W3.heap.size, 0, none⟩) 1 1] rfl rfl rfl rfl ?_; (try simp only [Act.put, List.setIfInBounds_toArray, List.set_cons_zero, List.set_cons_succ])))
  refine hKH.out _ _ ?_
  clear hKH KK
  obtain ⟨W6, hW6⟩ : ∃ W6, W6 = W5.alloc (.cells #[.int .i64 1, .int .i64 1, .string ⟨#[]⟩, .slice none 0 0, .int .i64 4, .int .i64 0, .string ⟨#[]⟩, .slice (some ⟨W3.heap.size, 0, none⟩) 1 1] 41) := ⟨_, rfl⟩
  have kW6 : Keeps (fun _ => False) W5 W6 := by rw [hW6]; exact (Keeps.refl _ W5).alloc _
  have cW6 : CL W6 W5.heap.size [.int .i64 1, .int .i64 1, .string ⟨#[]⟩, .slice none 0 0, .int .i64 4, .int .i64 0, .string ⟨#[]⟩, .slice (some ⟨W3.heap.size, 0, none⟩) 1 1] := by rw [hW6]; exact CL.made W5 _ _
  have oW6 : OwnP W6 (fun _ => True) 41 4 (.slice (some ⟨W5.heap.size, 0, none⟩) 2 2) 2 [.int .i64 1, .int .i64 1, .string ⟨#[]⟩, .slice none 0 0, .int .i64 4, .int .i64 0, .string ⟨#[]⟩, .slice (some ⟨W3.heap.size, 0, none⟩) 1 1] := by rw [hW6]; exact ⟨own_lit W5 _ _ _ _ rfl (by decide), fun _ _ => trivial⟩
  obtain ⟨W7, hW7⟩ : ∃ W7, W7 = W6.alloc (.cells #[.int .i64 7, .int .i64 0, .string ⟨#[42]⟩, .slice (some ⟨W5.heap.size, 0, none⟩) 2 2] 41) := ⟨_, rfl⟩
  have kW7 : Keeps (fun _ => False) W6 W7 := by rw [hW7]; exact (Keeps.refl _ W6).alloc _
  have cW7 : CL W7 W6.heap.size [.int .i64 7, .int .i64 0, .string ⟨#[42]⟩, .slice (some ⟨W5.heap.size, 0, none⟩) 2 2] := by rw [hW7]; exact CL.made W6 _ _
  have z6 : W6.heap.size = W5.heap.size + 1 := by rw [hW6, World.size_alloc]
  rw [show W5.alloc (.cells #[.int .i64 1, .int .i64 1, .string ⟨#[]⟩, .slice none 0 0, .int .i64 4, .int .i64 0, .string ⟨#[]⟩, .slice (some ⟨W3.heap.size, 0, none⟩) 1 1] 41) = W6 from hW6.symm, show W6.alloc (.cells #[.int .i64 7, .int .i64 0, .string ⟨#[42]⟩, .slice (some ⟨W5.heap.size, 0, none⟩) 2 2] 41) = W7 from hW7.symm]
  rw [z6] at cW7
  have kk7 := kW6.trans kW7
  have M7 : TC W7 (fun _ => True) 41 (.mk 7 0 [42] [.mk 1 1 [] [], .mk 4 0 [] [.mk 2 0 [98] []]]) [.int .i64 7, .int .i64 0, .string ⟨#[42]⟩, .slice (some ⟨W5.heap.size, 0, none⟩) 2 2] := TC.node (wd := [42]) i64d i64d (by decide) (oW6.stay (kW7.stay (fun _ _ _ e => e))) (TL.two (N5.stay (kk7.stay (fun _ _ _ e => e))) (B5.stay (kk7.stay (fun _ _ _ e => e))))
  have K7 := K5.trans kk7
  clear hW6 hW7 cW6 oW6 kk7 N5 B5 K5 z6
  refine wp_seq_k (fun KK hKK => ?_)
  have hKH : Hid _ := hKK
  clear hKK
  go_wp2_with (first | (refine wpList_load_runL rfl 41 _ rfl ⟨W5.heap.size + 1, 0, none⟩ rfl _ (run_er (cl_at0 cW7)) ?_; clear cW7) | (refine wpList_build2L uER inER (by decide) (by decide) rfl _ _ rfl [.int .i64 2, .int .i64 0, .string ⟨#[97]⟩, .slice none 0 0] [.int .i64 7, .int .i64 0, .string ⟨#[42]⟩, .slice (some ⟨W5.heap.size, 0, none⟩) 2 2] rfl rfl rfl rfl ?_; (try simp only [Act.put, List.setIfInBounds_toArray, List.set_cons_zero, List.set_cons_succ])))
  refine hKH.out _ _ ?_
  clear hKH KK
  obtain ⟨W8, hW8⟩ : ∃ W8, W8 = W7.alloc (.cells #[.int .i64 2, .int .i64 0, .string ⟨#[97]⟩, .slice none 0 0, .int .i64 7, .int .i64 0, .string ⟨#[42]⟩, .slice (some ⟨W5.heap.size, 0, none⟩) 2 2] 41) := ⟨_, rfl⟩
  have kW8 : Keeps (fun _ => False) W7 W8 := by rw [hW8]; exact (Keeps.refl _ W7).alloc _
  have cW8 : CL W8 W7.heap.size [.int .i64 2, .int .i64 0, .string ⟨#[97]⟩, .slice none 0 0, .int .i64 7, .int .i64 0, .string ⟨#[42]⟩, .slice (some ⟨W5.heap.size, 0, none⟩) 2 2] := by rw [hW8]; exact CL.made W7 _ _
  have oW8 : OwnP W8 (fun _ => True) 41 4 (.slice (some ⟨W7.heap.size, 0, none⟩) 2 2) 2 [.int .i64 2, .int .i64 0, .string ⟨#[97]⟩, .slice none 0 0, .int .i64 7, .int .i64 0, .string ⟨#[42]⟩, .slice (some ⟨W5.heap.size, 0, none⟩) 2 2] := by rw [hW8]; exact ⟨own_lit W7 _ _ _ _ rfl (by decide), fun _ _ => trivial⟩
  obtain ⟨W9, hW9⟩ : ∃ W9, W9 = W8.alloc (.cells #[.int .i64 7, .int .i64 0, .string ⟨#[45]⟩, .slice (some ⟨W7.heap.size, 0, none⟩) 2 2] 41) := ⟨_, rfl⟩
  have kW9 : Keeps (fun _ => False) W8 W9 := by rw [hW9]; exact (Keeps.refl _ W8).alloc _
  have cW9 : CL W9 W8.heap.size [.int .i64 7, .int .i64 0, .string ⟨#[45]⟩, .slice (some ⟨W7.heap.size, 0, none⟩) 2 2] := by rw [hW9]; exact CL.made W8 _ _
  have z8 : W8.heap.size = W7.heap.size + 1 := by rw [hW8, World.size_alloc]
  rw [show W7.alloc (.cells #[.int .i64 2, .int .i64 0, .string ⟨#[97]⟩, .slice none 0 0, .int .i64 7, .int .i64 0, .string ⟨#[42]⟩, .slice (some ⟨W5.heap.size, 0, none⟩) 2 2] 41) = W8 from hW8.symm, show W8.alloc (.cells #[.int .i64 7, .int .i64 0, .string ⟨#[45]⟩, .slice (some ⟨W7.heap.size, 0, none⟩) 2 2] 41) = W9 from hW9.symm]
  rw [z8] at cW9
  have kk9 := kW8.trans kW9
  have S9 : TC W9 (fun _ => True) 41 E1 [.int .i64 7, .int .i64 0, .string ⟨#[45]⟩, .slice (some ⟨W7.heap.size, 0, none⟩) 2 2] := TC.node (wd := [45]) i64d i64d (by decide) (oW8.stay (kW9.stay (fun _ _ _ e => e))) (TL.two (TC.leafF (wd := [97]) i64d i64d (by decide)) (M7.stay (kk9.stay (fun _ _ _ e => e))))
  have K9 := K7.trans kk9
  have K29 : Keeps (fun _ => False) W2 W9 := (((((kW3.trans kW4).trans kW5).trans kW6).trans kW7).trans kW8).trans kW9
  clear hW8 hW9 cW8 oW8 kk9 M7 K7 z8 kW3 kW4 kW5 kW6 kW7 kW8 kW9 K2
  have O9 := O2.lt.stay (K29.stay (fun _ _ _ e => e))
  have X9 := X2.lt.stay (K29.stay (fun _ _ _ e => e))
  clear K29 O2 X2
  have hbk := fun W (k : Keeps (fun _ => False) W9 W) => bk_all 1048576 T1 (by rw [bg_T1]; decide) (Nat.le_refl _) W _ p c _ (O9.lt.stay (k.stay (fun _ _ _ e => e))) (X9.lt.stay (k.stay (fun _ _ _ e => e)))
  have hsm := fun (W : World) (P Q : Nat → Prop) (p : Option Addr) (c : Nat) (xs : List Value) (p' : Option Addr) (c' : Nat) (xs' : List Value) => sm_all 1048576 T1 (by rw [bg_T1]; decide) (Nat.le_refl _) W P Q p c xs p' c' xs'
  rw [hl1] at hbk hsm
  clear O9 X9
  refine wp_seq_k (fun KK hKK => ?_)
  have hKH : Hid _ := hKK
  clear hKK
  go_wp2_with fail
  refine wp_region_held_drew (S := fun w' => Keeps (fun _ => False) W9 w') (by kernel_rfl) (Keeps.refl _ W9).drew (fun hHeld => ?_)
  refine wpAnyH_take (i := 0) (v := ?_) rfl (by kernel_rfl) (by kernel_rfl) (by kernel_rfl) (fun _ _ _ h => h) (Or.inl ⟨by rfl, ?_⟩) (by assumption) ?_
  rotate_left
  · intro wx hSw; clear hSw; go_simp <;> with_reducible rfl
  (try simp only [List.getElem_toArray]); (try simp only [List.getElem_cons_succ]); (try simp only [List.getElem_cons_zero]); (try simp only [Act.put]); (try simp only [List.setIfInBounds_toArray]); (repeat first | simp only [List.set_cons_succ] | simp only [List.set_cons_zero])
  refine wpAnyH_take (i := 2) (v := .agg #[.int .i64 7, .int .i64 0, .string ⟨#[45]⟩, .slice (some ⟨W7.heap.size, 0, none⟩) 2 2]) rfl (by kernel_rfl) (by kernel_rfl) (by kernel_rfl) (fun _ _ _ h => h) (Or.inl ⟨by rfl, ?_⟩) (by assumption) ?_
  · intro wx hSw; exact takes_loadR 41 _ rfl ⟨W7.heap.size + 1, 0, none⟩ rfl (run_er (cl_at0 (CL.keep cW9 (by show 0 < 4; decide) (show Keeps (fun _ => False) W9 wx from hSw) (fun e => e))))
  (try simp only [List.getElem_toArray]); (try simp only [List.getElem_cons_succ]); (try simp only [List.getElem_cons_zero]); (try simp only [Act.put]); (try simp only [List.setIfInBounds_toArray]); (repeat first | simp only [List.set_cons_succ] | simp only [List.set_cons_zero])
  refine wpAnyH_take (i := 3) (v := ?_) rfl (by kernel_rfl) (by kernel_rfl) (by kernel_rfl) (fun _ _ _ h => h) (Or.inl ⟨by rfl, ?_⟩) (by assumption) ?_
  rotate_left
  · intro wx hSw; clear hSw; go_simp <;> with_reducible rfl
  (try simp only [List.getElem_toArray]); (try simp only [List.getElem_cons_succ]); (try simp only [List.getElem_cons_zero]); (try simp only [Act.put]); (try simp only [List.setIfInBounds_toArray]); (repeat first | simp only [List.set_cons_succ] | simp only [List.set_cons_zero])
  refine wpAnyH_two' 1 4 (by kernel_rfl) rfl rfl (by kernel_rfl) (by kernel_rfl) ?_ ?_
  · have hB := hbk W9.drew (Keeps.refl _ W9).drew
    refine wp_call1 15 _ rfl _ rfl (fun _ _ => rfl) (hB.mono ?_)
    rintro e v1 ⟨p2, c2, x2, rfl, O2, X2, k2⟩
    have k3 := (Keeps.refl (fun _ => False) W9).drew.trans k2
    refine ⟨_, rfl, k3, fun hS1 => ?_⟩
    (try simp only [List.getElem_toArray]); (try simp only [List.getElem_cons_succ]); (try simp only [List.getElem_cons_zero]); (try simp only [Act.put]); (try simp only [List.setIfInBounds_toArray]); (repeat first | simp only [List.set_cons_succ] | simp only [List.set_cons_zero])
    refine wpAnyH_one 4 (by kernel_rfl) rfl rfl ?_
    refine wp_build1K uRS inRS (by decide) (by decide) _ rfl [.int .i64 1, .string ⟨#[120]⟩, .int .i64 7, .int .i64 0, .string ⟨#[45]⟩, .slice (some ⟨W7.heap.size, 0, none⟩) 2 2, .int .i64 0, .int .i64 0, .string ⟨#[]⟩, .slice none 0 0, .slice none 0 0, .slice none 0 0] rfl rfl ?_
    refine ⟨k3.alloc _, fun hS2 => ?_⟩
    (try simp only [List.getElem_toArray]); (try simp only [List.getElem_cons_succ]); (try simp only [List.getElem_cons_zero]); (try simp only [Act.put]); (try simp only [List.setIfInBounds_toArray]); (repeat first | simp only [List.set_cons_succ] | simp only [List.set_cons_zero])
    have oX : OwnP (v1.alloc (.cells #[.int .i64 1, .string ⟨#[120]⟩, .int .i64 7, .int .i64 0, .string ⟨#[45]⟩, .slice (some ⟨W7.heap.size, 0, none⟩) 2 2, .int .i64 0, .int .i64 0, .string ⟨#[]⟩, .slice none 0 0, .slice none 0 0, .slice none 0 0] 43)) (fun _ => True) 43 12 (.slice (some ⟨v1.heap.size, 0, none⟩) 1 1) 1 [.int .i64 1, .string ⟨#[120]⟩, .int .i64 7, .int .i64 0, .string ⟨#[45]⟩, .slice (some ⟨W7.heap.size, 0, none⟩) 2 2, .int .i64 0, .int .i64 0, .string ⟨#[]⟩, .slice none 0 0, .slice none 0 0, .slice none 0 0] := ⟨own_lit v1 _ _ _ _ rfl (by decide), fun _ _ => trivial⟩
    have kX : Keeps (fun _ => False) v1 (v1.alloc (.cells #[.int .i64 1, .string ⟨#[120]⟩, .int .i64 7, .int .i64 0, .string ⟨#[45]⟩, .slice (some ⟨W7.heap.size, 0, none⟩) 2 2, .int .i64 0, .int .i64 0, .string ⟨#[]⟩, .slice none 0 0, .slice none 0 0, .slice none 0 0] 43)) := (Keeps.refl _ v1).alloc _
    generalize v1.alloc (.cells #[.int .i64 1, .string ⟨#[120]⟩, .int .i64 7, .int .i64 0, .string ⟨#[45]⟩, .slice (some ⟨W7.heap.size, 0, none⟩) 2 2, .int .i64 0, .int .i64 0, .string ⟨#[]⟩, .slice none 0 0, .slice none 0 0, .slice none 0 0] 43) = VV at *
    have HK : Keeps (fun _ => False) W9 VV := k3.trans kX
    have OA : OwnP VV (fun _ => True) 43 12 (.slice p2 1 c2) 1 x2 := (O2.stay (kX.stay (fun _ _ _ e => e))).mono (fun _ _ => trivial)
    have XA : SL VV (fun _ => True) 41 43 T1 x2 := (X2.stay (kX.stay (fun _ _ _ e => e))).mono (fun _ _ => trivial)
    have hX : SL VV (fun _ => True) 41 43 T1 [.int .i64 1, .string ⟨#[120]⟩, .int .i64 7, .int .i64 0, .string ⟨#[45]⟩, .slice (some ⟨W7.heap.size, 0, none⟩) 2 2, .int .i64 0, .int .i64 0, .string ⟨#[]⟩, .slice none 0 0, .slice none 0 0, .slice none 0 0] := by
      have h1 : SC VV (fun _ => True) 41 43 (.mk 1 [120] E1 tr0 [] []) [.int .i64 1, .string ⟨#[120]⟩, .int .i64 7, .int .i64 0, .string ⟨#[45]⟩, .slice (some ⟨W7.heap.size, 0, none⟩) 2 2, .int .i64 0, .int .i64 0, .string ⟨#[]⟩, .slice none 0 0, .slice none 0 0, .slice none 0 0] := SC.join (wd := [120]) (th := []) (el := []) i64d (by decide) (S9.stay (HK.stay (fun _ _ _ e => e))) (tr0_cells _ _ _) (ownP_nil _ _ _ _) (SL.nil _ _ _ _) (ownP_nil _ _ _ _) (SL.nil _ _ _ _)
      have h2 := SL.snoc h1 (SL.nil VV (fun _ => True) 41 43)
      exact h2
    have OB := oX
    refine wpAnyH_one 5 (by kernel_rfl) rfl rfl ?_
    refine wp_call2 14 _ _ rfl _ _ rfl rfl (fun _ _ => rfl) ((hsm _ _ _ _ _ _ _ _ _ OA XA OB hX).mono ?_)
    rintro e v5 ⟨rfl, k5⟩
    refine ⟨_, rfl, HK.trans k5, fun hS5 => ?_⟩
    (try simp only [List.getElem_toArray]); (try simp only [List.getElem_cons_succ]); (try simp only [List.getElem_cons_zero]); (try simp only [Act.put]); (try simp only [List.setIfInBounds_toArray]); (repeat first | simp only [List.set_cons_succ] | simp only [List.set_cons_zero])
    refine wpAnyH_take (i := 6) (v := ?_) rfl (by kernel_rfl) (by kernel_rfl) (by kernel_rfl) (fun _ _ _ h => h) (Or.inl ⟨by rfl, ?_⟩) (by assumption) ?_
    rotate_left
    · intro wx hSw; clear hSw; go_simp <;> with_reducible rfl
    (try simp only [List.getElem_toArray]); (try simp only [List.getElem_cons_succ]); (try simp only [List.getElem_cons_zero]); (try simp only [Act.put]); (try simp only [List.setIfInBounds_toArray]); (repeat first | simp only [List.set_cons_succ] | simp only [List.set_cons_zero])
    refine wpAnyH_done (by kernel_rfl) ?_ _
    refine hKH.out _ _ ?_
    clear hKH
    go_wp2_with fail
    go_ret
    exact ⟨rfl, K9.trans hS5⟩
  · refine wp_build1K uRS inRS (by decide) (by decide) _ rfl [.int .i64 1, .string ⟨#[120]⟩, .int .i64 7, .int .i64 0, .string ⟨#[45]⟩, .slice (some ⟨W7.heap.size, 0, none⟩) 2 2, .int .i64 0, .int .i64 0, .string ⟨#[]⟩, .slice none 0 0, .slice none 0 0, .slice none 0 0] rfl rfl ?_
    refine ⟨((Keeps.refl (fun _ => False) W9).drew).alloc _, fun hS2 => ?_⟩
    (try simp only [List.getElem_toArray]); (try simp only [List.getElem_cons_succ]); (try simp only [List.getElem_cons_zero]); (try simp only [Act.put]); (try simp only [List.setIfInBounds_toArray]); (repeat first | simp only [List.set_cons_succ] | simp only [List.set_cons_zero])
    have oX : OwnP (W9.drew.alloc (.cells #[.int .i64 1, .string ⟨#[120]⟩, .int .i64 7, .int .i64 0, .string ⟨#[45]⟩, .slice (some ⟨W7.heap.size, 0, none⟩) 2 2, .int .i64 0, .int .i64 0, .string ⟨#[]⟩, .slice none 0 0, .slice none 0 0, .slice none 0 0] 43)) (fun _ => True) 43 12 (.slice (some ⟨W9.drew.heap.size, 0, none⟩) 1 1) 1 [.int .i64 1, .string ⟨#[120]⟩, .int .i64 7, .int .i64 0, .string ⟨#[45]⟩, .slice (some ⟨W7.heap.size, 0, none⟩) 2 2, .int .i64 0, .int .i64 0, .string ⟨#[]⟩, .slice none 0 0, .slice none 0 0, .slice none 0 0] := ⟨own_lit W9.drew _ _ _ _ rfl (by decide), fun _ _ => trivial⟩
    have kX : Keeps (fun _ => False) W9 (W9.drew.alloc (.cells #[.int .i64 1, .string ⟨#[120]⟩, .int .i64 7, .int .i64 0, .string ⟨#[45]⟩, .slice (some ⟨W7.heap.size, 0, none⟩) 2 2, .int .i64 0, .int .i64 0, .string ⟨#[]⟩, .slice none 0 0, .slice none 0 0, .slice none 0 0] 43)) := ((Keeps.refl _ W9).drew).alloc _
    generalize W9.drew.alloc (.cells #[.int .i64 1, .string ⟨#[120]⟩, .int .i64 7, .int .i64 0, .string ⟨#[45]⟩, .slice (some ⟨W7.heap.size, 0, none⟩) 2 2, .int .i64 0, .int .i64 0, .string ⟨#[]⟩, .slice none 0 0, .slice none 0 0, .slice none 0 0] 43) = V0 at *
    have hB := hbk V0 kX
    refine wpAnyH_one 1 (by kernel_rfl) rfl rfl ?_
    refine wp_call1 15 _ rfl _ rfl (fun _ _ => rfl) (hB.mono ?_)
    rintro e v1 ⟨p2, c2, x2, rfl, O2, X2, k2⟩
    have k3 := kX.trans k2
    refine ⟨_, rfl, k3, fun hS1 => ?_⟩
    (try simp only [List.getElem_toArray]); (try simp only [List.getElem_cons_succ]); (try simp only [List.getElem_cons_zero]); (try simp only [Act.put]); (try simp only [List.setIfInBounds_toArray]); (repeat first | simp only [List.set_cons_succ] | simp only [List.set_cons_zero])
    have HK : Keeps (fun _ => False) W9 v1 := k3
    have OA : OwnP v1 (fun _ => True) 43 12 (.slice p2 1 c2) 1 x2 := O2.mono (fun _ _ => trivial)
    have XA : SL v1 (fun _ => True) 41 43 T1 x2 := X2.mono (fun _ _ => trivial)
    have hX : SL v1 (fun _ => True) 41 43 T1 [.int .i64 1, .string ⟨#[120]⟩, .int .i64 7, .int .i64 0, .string ⟨#[45]⟩, .slice (some ⟨W7.heap.size, 0, none⟩) 2 2, .int .i64 0, .int .i64 0, .string ⟨#[]⟩, .slice none 0 0, .slice none 0 0, .slice none 0 0] := by
      have h1 : SC v1 (fun _ => True) 41 43 (.mk 1 [120] E1 tr0 [] []) [.int .i64 1, .string ⟨#[120]⟩, .int .i64 7, .int .i64 0, .string ⟨#[45]⟩, .slice (some ⟨W7.heap.size, 0, none⟩) 2 2, .int .i64 0, .int .i64 0, .string ⟨#[]⟩, .slice none 0 0, .slice none 0 0, .slice none 0 0] := SC.join (wd := [120]) (th := []) (el := []) i64d (by decide) (S9.stay (HK.stay (fun _ _ _ e => e))) (tr0_cells _ _ _) (ownP_nil _ _ _ _) (SL.nil _ _ _ _) (ownP_nil _ _ _ _) (SL.nil _ _ _ _)
      have h2 := SL.snoc h1 (SL.nil v1 (fun _ => True) 41 43)
      exact h2
    have OB := oX.stay (k2.stay (fun _ _ _ e => e))
    refine wpAnyH_one 5 (by kernel_rfl) rfl rfl ?_
    refine wp_call2 14 _ _ rfl _ _ rfl rfl (fun _ _ => rfl) ((hsm _ _ _ _ _ _ _ _ _ OA XA OB hX).mono ?_)
    rintro e v5 ⟨rfl, k5⟩
    refine ⟨_, rfl, HK.trans k5, fun hS5 => ?_⟩
    (try simp only [List.getElem_toArray]); (try simp only [List.getElem_cons_succ]); (try simp only [List.getElem_cons_zero]); (try simp only [Act.put]); (try simp only [List.setIfInBounds_toArray]); (repeat first | simp only [List.set_cons_succ] | simp only [List.set_cons_zero])
    refine wpAnyH_take (i := 6) (v := ?_) rfl (by kernel_rfl) (by kernel_rfl) (by kernel_rfl) (fun _ _ _ h => h) (Or.inl ⟨by rfl, ?_⟩) (by assumption) ?_
    rotate_left
    · intro wx hSw; clear hSw; go_simp <;> with_reducible rfl
    (try simp only [List.getElem_toArray]); (try simp only [List.getElem_cons_succ]); (try simp only [List.getElem_cons_zero]); (try simp only [Act.put]); (try simp only [List.setIfInBounds_toArray]); (repeat first | simp only [List.set_cons_succ] | simp only [List.set_cons_zero])
    refine wpAnyH_done (by kernel_rfl) ?_ _
    refine hKH.out _ _ ?_
    clear hKH
    go_wp2_with fail
    go_ret
    exact ⟨rfl, K9.trans hS5⟩
end Go.Proofs.YtehblpbefkopbaaGreatDoor
