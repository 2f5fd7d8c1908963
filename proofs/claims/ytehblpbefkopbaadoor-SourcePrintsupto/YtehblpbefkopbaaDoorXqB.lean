import Derived.Test.YtehblpbefkopbaaDoorXcD
import Derived.Test.YtehblpbefkopbaaDoorXqA
import Derived.Test.YtehblpbefkopbaaDoorXgA
namespace Go.Proofs.YtehblpbefkopbaaDoor
open Go.RowKit Go.ChangeShapes Go.WideShapes Go.ChangeAt Go.Deep
attribute [local go_sem] Oper.semAt_some run_store_nf run_store_f
theorem wpList_load_runV {P : Program} {w : World} {ops : Array Oper} {rest : List Oper} {o : Oper} {a : Act} {Q : Exit → Act → World → Prop} (hw : Region.wanted o (yielded ops a.tmps) = true) (ty : TypeId) (x : Operand) (ho : o.op = .load ty x) (ad : Addr) (hx : a.eval x = .pointer (some ad)) (v : Value)
    (hr : (loadVar ty ad).run P w = .ok v w) (h : wpList P ops Q rest (a.put o.dst v) w) : wpList P ops Q (o :: rest) a w :=
  BigFrame.wpList_want hw fun _ hK => by
    unfold Oper.wp execOp
    simp only [ho, hx, Instr.loadAt, Instr.sureAddr, Sem.run_bind, Sem.run_pure, Result.andThen_ok, hr]
    exact hK _ _ h
def SmI (l : List St) : Prop := ∀ (w : World) (p : Option Addr) (c : Nat) (xs : List Value) (p' : Option Addr) (c' : Nat) (xs' : List Value), Rd w p xs → ISL w l xs → Rd w p' xs' → ISL w l xs' → Calls Tryd.prog 7 #[.slice p l.length c, .slice p' l.length c'] w fun e w' => e = .returned (.bool true) ∧ Keeps (fun _ => False) w w'
def SmL (l : List St) : Prop := ∀ (w : World) (P Q : Nat → Prop) (p : Option Addr) (c : Nat) (xs : List Value) (p' : Option Addr) (c' : Nat) (xs' : List Value), OwnP w P 42 12 (.slice p l.length c) l.length xs → SL w P 40 42 l xs → OwnP w Q 42 12 (.slice p' l.length c') l.length xs' → SL w Q 40 42 l xs' → Calls Tryd.prog 7 #[.slice p l.length c, .slice p' l.length c'] w fun e w' => e = .returned (.bool true) ∧ Keeps (fun _ => False) w w'
set_option maxHeartbeats 1500000 in
set_option maxRecDepth 100000 in
theorem smI_all : ∀ (n : Nat) (l : List St), bgSL l < n → n ≤ 1048576 → SmI l
  | 0, l, h, _ => absurd h (by omega)
  | n + 1, l, h, hn => by
    have IH := fun l (ht : bgSL l < n) => smI_all n l ht (by omega)
    intro w p c xs p' c' xs' hget hx hget' hx'
    obtain ⟨N, hN⟩ : ∃ N, N = l.length := ⟨_, rfl⟩
    have hNn : N ≤ n := by have := bgSL_len l; omega
    have HN : Hid (N = l.length) := hN
    rw [← hN]
    clear hN
    have e4 : ((N : Int) != (N : Int)) = false := by simp
    go_enter Tryd.func7, Tryd.ntmps7
    go_wp2_with fail
    go_loopw [5] (fun iv Wr => ∃ (i : Nat), iv = .int .i64 (i : Int) ∧ i ≤ N ∧ Keeps (fun _ => False) w Wr) (fun iv _ => N - (intOf iv).toNat)
    case atStart => exact ⟨0, rfl, Nat.zero_le _, Keeps.refl _ w⟩
    case round =>
      obtain ⟨i, rfl, hi, hB⟩ := hrel
      by_cases hlt : i < N
      · have d1 : decide ((i : Int) < (N : Int)) = true := decide_eq_true (by omega)
        have d2 : decide (i < N) = true := decide_eq_true hlt
        have i0 : (0 : Int) ≤ (i : Int) := by omega
        have i1 : (i : Int) < (N : Int) := by omega
        have i2 : (i : Int) + 1 ≤ 9223372036854775807 := by omega
        have hip : i < l.length := by rw [← HN.out]; exact hlt
        obtain ⟨t, htt⟩ : ∃ t, t = l[i] := ⟨_, rfl⟩
        have hgt : l[i]? = some t := by rw [htt]; exact List.getElem?_eq_getElem hip
        have hbt : bgS t ≤ bgSL l := bgSA l i t hgt
        obtain ⟨us, hty, hyc⟩ := hx.at i t hgt
        obtain ⟨vs, hty', hyc'⟩ := hx'.at i t hgt
        clear hgt htt hip
        obtain ⟨k, wd, a, b, th, el⟩ := t
        unfold bgS at hbt
        obtain ⟨-, -, ka, na, sa, pa, ma, ca, kb, nb, sb, pb, mb, cb, pt, ct, pe, ce, xt, xe, rfl, Ta, Tb, ot, st1, oe, se1⟩ := hty.parts
        obtain ⟨-, -, ka2, na2, sa2, pa2, ma2, ca2, kb2, nb2, sb2, pb2, mb2, cb2, pt2, ct2, pe2, ce2, xt2, xe2, rfl, Ta2, Tb2, ot2, st2, oe2, se2⟩ := hty'.parts
        clear hty hty'
        obtain ⟨s, hs⟩ : ∃ s, s = bs wd := ⟨_, rfl⟩
        rw [← hs] at hyc hyc'
        clear hs
        obtain ⟨g, og, rfl, -⟩ := hget (i * 12) _ (hyc 0 _ rfl)
        obtain ⟨g', og', rfl, -⟩ := hget' (i * 12) _ (hyc' 0 _ rfl)
        have hq1 : ∀ (j : Nat) (u : Value), ([.int .i64 k, .string s, .int .i64 ka, .int .i64 na, .string sa, .slice pa ma ca, .int .i64 kb, .int .i64 nb, .string sb, .slice pb mb cb, .slice pt th.length ct, .slice pe el.length ce] : List Value)[j]? = some u → wr.cell? ⟨g, og + i * 12 + j, none⟩ = some u := fun j u e => by
          obtain ⟨g1, o1, eg, h6⟩ := hget _ _ (hyc j u e)
          injection eg with eg; injection eg with eg eo _; subst eg eo
          rw [Nat.add_assoc]
          exact hB.cell h6 (fun e => e)
        have hq2 : ∀ (j : Nat) (u : Value), ([.int .i64 k, .string s, .int .i64 ka2, .int .i64 na2, .string sa2, .slice pa2 ma2 ca2, .int .i64 kb2, .int .i64 nb2, .string sb2, .slice pb2 mb2 cb2, .slice pt2 th.length ct2, .slice pe2 el.length ce2] : List Value)[j]? = some u → wr.cell? ⟨g', og' + i * 12 + j, none⟩ = some u := fun j u e => by
          obtain ⟨g1, o1, eg, h6⟩ := hget' _ _ (hyc' j u e)
          injection eg with eg; injection eg with eg eo _; subst eg eo
          rw [Nat.add_assoc]
          exact hB.cell h6 (fun e => e)
        clear hyc hyc'
        refine wp_seq_k (fun KK hKK => ?_)
        have hKH : Hid _ := hKK
        clear hKK
        go_wp2_with fail
        refine hKH.out _ _ ?_
        clear hKH KK
        refine wp_seq_k (fun KK hKK => ?_)
        have hKH : Hid _ := hKK
        clear hKK
        refine wp_block ?_
        refine wp_seq_k (fun K2 hK2 => ?_)
        have rest : ∀ (b6 b7 : Nat) (w6 : World), CL w6 b6 [.int .i64 k, .string s, .int .i64 ka, .int .i64 na, .string sa, .slice pa ma ca, .int .i64 kb, .int .i64 nb, .string sb, .slice pb mb cb, .slice pt th.length ct, .slice pe el.length ce] → CL w6 b7 [.int .i64 k, .string s, .int .i64 ka2, .int .i64 na2, .string sa2, .slice pa2 ma2 ca2, .int .i64 kb2, .int .i64 nb2, .string sb2, .slice pb2 mb2 cb2, .slice pt2 th.length ct2, .slice pe2 el.length ce2] → Keeps (fun _ => False) wr w6 → K2 { tmps := #[.slice (some ⟨g, og, none⟩) N c, .slice (some ⟨g', og', none⟩) N c', undef, undef, u4, .int .i64 (i : Int), .pointer (some ⟨b6, 0, none⟩), .pointer (some ⟨b7, 0, none⟩), .slice (some ⟨g, og, none⟩) N c, .int .i64 (N : Int), .slice (some ⟨g', og', none⟩) N c', .int .i64 (N : Int), .bool false, .int .i64 (i : Int), .slice (some ⟨g, og, none⟩) N c, .int .i64 (N : Int), .bool true, u17, u18, .slice (some ⟨g, og, none⟩) N c, .int .i64 (i : Int), .pointer (some ⟨g, og + i * 12, none⟩), .agg #[.int .i64 k, .string s, .int .i64 ka, .int .i64 na, .string sa, .slice pa ma ca, .int .i64 kb, .int .i64 nb, .string sb, .slice pb mb cb, .slice pt th.length ct, .slice pe el.length ce], .slice (some ⟨g', og', none⟩) N c', .int .i64 (i : Int), .pointer (some ⟨g', og' + i * 12, none⟩), .agg #[.int .i64 k, .string s, .int .i64 ka2, .int .i64 na2, .string sa2, .slice pa2 ma2 ca2, .int .i64 kb2, .int .i64 nb2, .string sb2, .slice pb2 mb2 cb2, .slice pt2 th.length ct2, .slice pe2 el.length ce2], u27, u28, u29, u30, u31, u32, u33, u34, u35, u36, u37, u38, u39, u40, u41, u42, u43, u44, u45, u46, u47, u48, u49, u50, u51, u52, u53, u54, u55, u56, u57, u58, u59, u60, u61, u62, u63, u64, u65, u66, u67, u68, u69, u70], defers := [] } w6 := by
          intro b6 b7 w6 hbA hbB k6
          have hKI : Hid _ := hK2
          clear hK2
          refine hKI.out _ _ ?_
          clear hKI hq1 hq2
          have y0 := hbA.c 0 _ rfl
          have y1 := hbA.c 1 _ rfl
          have y10 := hbA.c 10 _ rfl
          have y11 := hbA.c 11 _ rfl
          have x0 := hbB.c 0 _ rfl
          have x1 := hbB.c 1 _ rfl
          have x10 := hbB.c 10 _ rfl
          have x11 := hbB.c 11 _ rfl
          have kw6 : Keeps (fun _ => False) w w6 := hB.trans k6
          have hqa : ∀ W, Keeps (fun _ => False) w6 W → (loadVar 40 ⟨b6, 2, none⟩).run Tryd.prog W = .ok (.agg #[.int .i64 ka, .int .i64 na, .string sa, .slice pa ma ca]) W := fun W kW => run_er (fun j v e => (hbA.keep (by show 0 < 12; decide) kW (fun e => e)).c (2 + j) v (by rw [← List.getElem?_drop, ← e]; exact List.getElem?_append_left (l₂ := [.int .i64 kb, .int .i64 nb, .string sb, .slice pb mb cb, .slice pt th.length ct, .slice pe el.length ce]) (List.getElem?_eq_some_iff.1 e).1))
          have hqb : ∀ W, Keeps (fun _ => False) w6 W → (loadVar 40 ⟨b6, 6, none⟩).run Tryd.prog W = .ok (.agg #[.int .i64 kb, .int .i64 nb, .string sb, .slice pb mb cb]) W := fun W kW => run_er (fun j v e => (hbA.keep (by show 0 < 12; decide) kW (fun e => e)).c (6 + j) v (by rw [← List.getElem?_drop, ← e]; exact List.getElem?_append_left (l₂ := [.slice pt th.length ct, .slice pe el.length ce]) (List.getElem?_eq_some_iff.1 e).1))
          have hqc : ∀ W, Keeps (fun _ => False) w6 W → (loadVar 40 ⟨b7, 2, none⟩).run Tryd.prog W = .ok (.agg #[.int .i64 ka2, .int .i64 na2, .string sa2, .slice pa2 ma2 ca2]) W := fun W kW => run_er (fun j v e => (hbB.keep (by show 0 < 12; decide) kW (fun e => e)).c (2 + j) v (by rw [← List.getElem?_drop, ← e]; exact List.getElem?_append_left (l₂ := [.int .i64 kb2, .int .i64 nb2, .string sb2, .slice pb2 mb2 cb2, .slice pt2 th.length ct2, .slice pe2 el.length ce2]) (List.getElem?_eq_some_iff.1 e).1))
          have hqd : ∀ W, Keeps (fun _ => False) w6 W → (loadVar 40 ⟨b7, 6, none⟩).run Tryd.prog W = .ok (.agg #[.int .i64 kb2, .int .i64 nb2, .string sb2, .slice pb2 mb2 cb2]) W := fun W kW => run_er (fun j v e => (hbB.keep (by show 0 < 12; decide) kW (fun e => e)).c (6 + j) v (by rw [← List.getElem?_drop, ← e]; exact List.getElem?_append_left (l₂ := [.slice pt2 th.length ct2, .slice pe2 el.length ce2]) (List.getElem?_eq_some_iff.1 e).1))
          have hQa := hqa w6 (Keeps.refl _ w6)
          have hQc := hqc w6 (Keeps.refl _ w6)
          have hPa := sx_all n a (by omega) (by omega) w6 _ _ (Ta.keep kw6) (Ta2.keep kw6)
          have hPb := fun W (kW : Keeps (fun _ => False) w6 W) => sx_all n b (by omega) (by omega) W _ _ (Tb.keep (kw6.trans kW)) (Tb2.keep (kw6.trans kW))
          have hPt := fun W (kW : Keeps (fun _ => False) w6 W) => IH th (by omega) W pt ct _ pt2 ct2 _ (ot.keep (kw6.trans kW)) (st1.keep (kw6.trans kW)) (ot2.keep (kw6.trans kW)) (st2.keep (kw6.trans kW))
          have hPe := fun W (kW : Keeps (fun _ => False) w6 W) => IH el (by omega) W pe ce _ pe2 ce2 _ (oe.keep (kw6.trans kW)) (se1.keep (kw6.trans kW)) (oe2.keep (kw6.trans kW)) (se2.keep (kw6.trans kW))
          have e1 : (s.toList != s.toList) = false := by simp
          have e2 : (k != k) = false := by simp
          clear hB
          go_wp2_with (first | (refine wpList_load_runV (by rfl) 40 _ rfl ⟨b6, 2, none⟩ rfl _ hQa ?_; clear hQa) | (refine wpList_load_runV (by rfl) 40 _ rfl ⟨b7, 2, none⟩ rfl _ hQc ?_; clear hQc) | (go_at_call 14; refine hPa.mono ?_; clear hPa; rintro e w7 ⟨rfl, k7⟩; have hQb := hqb w7 k7; have hQd := hqd w7 k7; have hPb2 := hPb w7 k7) | (refine wpList_load_runV (by rfl) 40 _ rfl ⟨b6, 6, none⟩ rfl _ hQb ?_; clear hQb) | (refine wpList_load_runV (by rfl) 40 _ rfl ⟨b7, 6, none⟩ rfl _ hQd ?_; clear hQd) | (go_at_call 14; refine hPb2.mono ?_; clear hPb2; rintro e w8 ⟨rfl, k8⟩; have k68 := k7.trans k8; have y18 := k68.cell y10 (fun e => e); have x18 := k68.cell x10 (fun e => e); have hPt2 := hPt w8 k68) | (go_at_call 7; refine hPt2.mono ?_; clear hPt2; rintro e w9 ⟨rfl, k9⟩; have k69 := k68.trans k9; have y19 := k69.cell y11 (fun e => e); have x19 := k69.cell x11 (fun e => e); have hPe2 := hPe w9 k69) | (go_at_call 7; refine hPe2.mono ?_; clear hPe2; rintro e w10 ⟨rfl, k10⟩; have k610 := k69.trans k10))
          refine hKH.out _ _ ?_
          clear hKH
          have kw10 := kw6.trans k610
          clear hqa hqb hqc hqd hPb hPt hPe
          go_wp2_with fail
          go_roundw
          case rel => exact ⟨i + 1, by go_num, by omega, kw10⟩
          case measure => simp [intOf]; omega
        have restH : Hid _ := rest
        clear rest hK2
        go_wp2_with fail
        refine wp_region_held_drew (S := fun w' => Keeps (fun _ => False) wr w') (by kernel_rfl) (Keeps.refl _ wr).drew (fun hHeld => ?_)
        refine wpAnyH_take (i := 0) (v := ?_) rfl (by kernel_rfl) (by kernel_rfl) (by kernel_rfl) (fun _ _ _ h => h) (Or.inl ⟨by rfl, ?_⟩) (by assumption) ?_
        rotate_left
        · intro wx hSw; clear hSw; go_simp <;> with_reducible rfl
        (try simp only [List.getElem_toArray]); (try simp only [List.getElem_cons_succ]); (try simp only [List.getElem_cons_zero]); (try simp only [Act.put]); (try simp only [List.setIfInBounds_toArray]); (repeat first | simp only [List.set_cons_succ] | simp only [List.set_cons_zero])
        refine wpAnyH_take (i := 1) (v := ?_) rfl (by kernel_rfl) (by kernel_rfl) (by kernel_rfl) (fun _ _ _ h => h) (Or.inl ⟨by rfl, ?_⟩) (by assumption) ?_
        rotate_left
        · intro wx hSw; clear hSw; go_simp <;> with_reducible rfl
        (try simp only [List.getElem_toArray]); (try simp only [List.getElem_cons_succ]); (try simp only [List.getElem_cons_zero]); (try simp only [Act.put]); (try simp only [List.setIfInBounds_toArray]); (repeat first | simp only [List.set_cons_succ] | simp only [List.set_cons_zero])
        refine wpAnyH_take (i := 2) (v := ?_) rfl (by kernel_rfl) (by kernel_rfl) (by kernel_rfl) (fun _ _ _ h => h) (Or.inl ⟨by rfl, ?_⟩) (by assumption) ?_
        rotate_left
        · intro wx hSw; clear hSw; go_simp <;> with_reducible rfl
        (try simp only [List.getElem_toArray]); (try simp only [List.getElem_cons_succ]); (try simp only [List.getElem_cons_zero]); (try simp only [Act.put]); (try simp only [List.setIfInBounds_toArray]); (repeat first | simp only [List.set_cons_succ] | simp only [List.set_cons_zero])
        refine wpAnyH_take (i := 3) (v := .agg #[.int .i64 k, .string s, .int .i64 ka, .int .i64 na, .string sa, .slice pa ma ca, .int .i64 kb, .int .i64 nb, .string sb, .slice pb mb cb, .slice pt th.length ct, .slice pe el.length ce]) rfl (by kernel_rfl) (by kernel_rfl) (by kernel_rfl) (fun _ _ _ h => h) (Or.inl ⟨by rfl, ?_⟩) (by assumption) ?_
        · intro wx hSw; exact takes_loadR 42 _ rfl ⟨g, og + i * 12, none⟩ rfl (run_rs rfl (fun j v e => Keeps.cell (S := fun _ => False) hSw (hq1 j v e) (fun e => e)))
        (try simp only [List.getElem_toArray]); (try simp only [List.getElem_cons_succ]); (try simp only [List.getElem_cons_zero]); (try simp only [Act.put]); (try simp only [List.setIfInBounds_toArray]); (repeat first | simp only [List.set_cons_succ] | simp only [List.set_cons_zero])
        refine wpAnyH_take (i := 4) (v := ?_) rfl (by kernel_rfl) (by kernel_rfl) (by kernel_rfl) (fun _ _ _ h => h) (Or.inl ⟨by rfl, ?_⟩) (by assumption) ?_
        rotate_left
        · intro wx hSw; clear hSw; go_simp <;> with_reducible rfl
        (try simp only [List.getElem_toArray]); (try simp only [List.getElem_cons_succ]); (try simp only [List.getElem_cons_zero]); (try simp only [Act.put]); (try simp only [List.setIfInBounds_toArray]); (repeat first | simp only [List.set_cons_succ] | simp only [List.set_cons_zero])
        refine wpAnyH_take (i := 5) (v := ?_) rfl (by kernel_rfl) (by kernel_rfl) (by kernel_rfl) (fun _ _ _ h => h) (Or.inl ⟨by rfl, ?_⟩) (by assumption) ?_
        rotate_left
        · intro wx hSw; clear hSw; go_simp <;> with_reducible rfl
        (try simp only [List.getElem_toArray]); (try simp only [List.getElem_cons_succ]); (try simp only [List.getElem_cons_zero]); (try simp only [Act.put]); (try simp only [List.setIfInBounds_toArray]); (repeat first | simp only [List.set_cons_succ] | simp only [List.set_cons_zero])
        refine wpAnyH_take (i := 6) (v := ?_) rfl (by kernel_rfl) (by kernel_rfl) (by kernel_rfl) (fun _ _ _ h => h) (Or.inl ⟨by rfl, ?_⟩) (by assumption) ?_
        rotate_left
        · intro wx hSw; clear hSw; go_simp <;> with_reducible rfl
        (try simp only [List.getElem_toArray]); (try simp only [List.getElem_cons_succ]); (try simp only [List.getElem_cons_zero]); (try simp only [Act.put]); (try simp only [List.setIfInBounds_toArray]); (repeat first | simp only [List.set_cons_succ] | simp only [List.set_cons_zero])
        refine wpAnyH_take (i := 7) (v := .agg #[.int .i64 k, .string s, .int .i64 ka2, .int .i64 na2, .string sa2, .slice pa2 ma2 ca2, .int .i64 kb2, .int .i64 nb2, .string sb2, .slice pb2 mb2 cb2, .slice pt2 th.length ct2, .slice pe2 el.length ce2]) rfl (by kernel_rfl) (by kernel_rfl) (by kernel_rfl) (fun _ _ _ h => h) (Or.inl ⟨by rfl, ?_⟩) (by assumption) ?_
        · intro wx hSw; exact takes_loadR 42 _ rfl ⟨g', og' + i * 12, none⟩ rfl (run_rs rfl (fun j v e => Keeps.cell (S := fun _ => False) hSw (hq2 j v e) (fun e => e)))
        (try simp only [List.getElem_toArray]); (try simp only [List.getElem_cons_succ]); (try simp only [List.getElem_cons_zero]); (try simp only [Act.put]); (try simp only [List.setIfInBounds_toArray]); (repeat first | simp only [List.set_cons_succ] | simp only [List.set_cons_zero])
        have m0 := (CL.made wr zSR 42).drew
        have m1 := (CL.made (wr.alloc (.cells zSR.toArray 42)).drew zSR 42)
        have s1 : (wr.alloc (.cells zSR.toArray 42)).drew.heap.size = wr.heap.size + 1 := World.size_alloc _ _
        rw [s1] at m1
        have m01 := m0.alloc (by show 0 < 12; decide) (.cells zSR.toArray 42)
        refine wpAnyH_two' 8 9 (by kernel_rfl) rfl rfl (by kernel_rfl) (by kernel_rfl) ?_ ?_
        · go_simp
          refine ⟨hHeld.alloc _, fun hS1 => ?_⟩
          (try simp only [List.getElem_toArray]); (try simp only [List.getElem_cons_succ]); (try simp only [List.getElem_cons_zero]); (try simp only [Act.put]); (try simp only [List.setIfInBounds_toArray]); (repeat first | simp only [List.set_cons_succ] | simp only [List.set_cons_zero])
          refine wpAnyH_one 9 (by kernel_rfl) rfl rfl ?_
          go_simp
          refine ⟨hS1.alloc _, fun hS2 => ?_⟩
          (try simp only [List.getElem_toArray]); (try simp only [List.getElem_cons_succ]); (try simp only [List.getElem_cons_zero]); (try simp only [Act.put]); (try simp only [List.setIfInBounds_toArray]); (repeat first | simp only [List.set_cons_succ] | simp only [List.set_cons_zero])
          refine wpAnyH_storeR 10 (by kernel_rfl) rfl rfl 42 _ _ rfl (wr.heap.size) 12 _ rfl rfl rfl m01 rfl iRS one12N (fun w1 k => Keeps.trans' (S := fun _ => False) hS2 k (fun _ _ e => e) (fun i hi e => by have e : i = wr.heap.size := e; omega)) (fun v5 hb5 k5 hS3 => ?_)
          (try simp only [List.getElem_toArray]); (try simp only [List.getElem_cons_succ]); (try simp only [List.getElem_cons_zero]); (try simp only [Act.put]); (try simp only [List.setIfInBounds_toArray]); (repeat first | simp only [List.set_cons_succ] | simp only [List.set_cons_zero])
          have m7 := CL.keep m1 (by show 0 < 12; decide) k5 (fun e => by have e : wr.heap.size + 1 = wr.heap.size := e; omega)
          refine wpAnyH_storeR 11 (by kernel_rfl) rfl rfl 42 _ _ rfl (wr.heap.size + 1) 12 _ rfl rfl rfl m7 rfl iRS one12N (fun w1 k => Keeps.trans' (S := fun _ => False) hS3 k (fun _ _ e => e) (fun i hi e => by have e : i = wr.heap.size + 1 := e; omega)) (fun w6 hb6 k6 hS4 => ?_)
          (try simp only [List.getElem_toArray]); (try simp only [List.getElem_cons_succ]); (try simp only [List.getElem_cons_zero]); (try simp only [Act.put]); (try simp only [List.setIfInBounds_toArray]); (repeat first | simp only [List.set_cons_succ] | simp only [List.set_cons_zero])
          refine wpAnyH_done (by kernel_rfl) ?_ _
          exact restH.out (wr.heap.size) (wr.heap.size + 1) w6 (hb5.keep (by show 0 < 12; decide) k6 (fun e => by have e : wr.heap.size = wr.heap.size + 1 := e; omega)) hb6 hS4
        · go_simp
          refine ⟨hHeld.alloc _, fun hS1 => ?_⟩
          (try simp only [List.getElem_toArray]); (try simp only [List.getElem_cons_succ]); (try simp only [List.getElem_cons_zero]); (try simp only [Act.put]); (try simp only [List.setIfInBounds_toArray]); (repeat first | simp only [List.set_cons_succ] | simp only [List.set_cons_zero])
          refine wpAnyH_one 8 (by kernel_rfl) rfl rfl ?_
          go_simp
          refine ⟨hS1.alloc _, fun hS2 => ?_⟩
          (try simp only [List.getElem_toArray]); (try simp only [List.getElem_cons_succ]); (try simp only [List.getElem_cons_zero]); (try simp only [Act.put]); (try simp only [List.setIfInBounds_toArray]); (repeat first | simp only [List.set_cons_succ] | simp only [List.set_cons_zero])
          refine wpAnyH_storeR 10 (by kernel_rfl) rfl rfl 42 _ _ rfl (wr.heap.size + 1) 12 _ rfl rfl rfl m1 rfl iRS one12N (fun w1 k => Keeps.trans' (S := fun _ => False) hS2 k (fun _ _ e => e) (fun i hi e => by have e : i = wr.heap.size + 1 := e; omega)) (fun v5 hb5 k5 hS3 => ?_)
          (try simp only [List.getElem_toArray]); (try simp only [List.getElem_cons_succ]); (try simp only [List.getElem_cons_zero]); (try simp only [Act.put]); (try simp only [List.setIfInBounds_toArray]); (repeat first | simp only [List.set_cons_succ] | simp only [List.set_cons_zero])
          have m7 := CL.keep m01 (by show 0 < 12; decide) k5 (fun e => by have e : wr.heap.size = wr.heap.size + 1 := e; omega)
          refine wpAnyH_storeR 11 (by kernel_rfl) rfl rfl 42 _ _ rfl (wr.heap.size) 12 _ rfl rfl rfl m7 rfl iRS one12N (fun w1 k => Keeps.trans' (S := fun _ => False) hS3 k (fun _ _ e => e) (fun i hi e => by have e : i = wr.heap.size := e; omega)) (fun w6 hb6 k6 hS4 => ?_)
          (try simp only [List.getElem_toArray]); (try simp only [List.getElem_cons_succ]); (try simp only [List.getElem_cons_zero]); (try simp only [Act.put]); (try simp only [List.setIfInBounds_toArray]); (repeat first | simp only [List.set_cons_succ] | simp only [List.set_cons_zero])
          refine wpAnyH_done (by kernel_rfl) ?_ _
          exact restH.out (wr.heap.size + 1) (wr.heap.size) w6 (hb5.keep (by show 0 < 12; decide) k6 (fun e => by have e : wr.heap.size + 1 = wr.heap.size := e; omega)) hb6 hS4
      · obtain rfl : i = N := by omega
        have d1 : decide ((i : Int) < (i : Int)) = false := decide_eq_false (by omega)
        have d2 : decide (i < i) = false := decide_eq_false (by omega)
        go_wp2_with fail
        go_ret
        exact ⟨rfl, hB⟩
/-- What a text comes to. -/
def prX (T : Bs) : Except (Int × Int × Int) (List St) := if 32768 < T.length then .error (230, 0, 0) else match prs0 T with
  | .error E => .error (231, (lnO (T.take (T.length - E.length)) : Int), (colO (T.take (T.length - E.length)) : Int))
  | .ok (l, _) => if chk l = 0 then .ok l else .error (chk l, 0, 0)
def PrsX (x : Except (Int × Int × Int) (List St)) (w : World) (e : Ending) (w' : World) : Prop := match x with
  | .error f => PrsE f.1 f.2.1 f.2.2 w e w'
  | .ok l => PrsO l w e w'
theorem sm_all (n : Nat) (l : List St) (h : bgSL l < n) (hn : n ≤ 1048576) : SmL l := fun w _ _ p c xs p' c' xs' ho hx ho' hx' => smI_all n l h hn w p c xs p' c' xs' ho.rd hx.toI ho'.rd hx'.toI
theorem fu_big : 327685 ≤ FU := by unfold FU; omega
def SufT {α : Type} (R : Bs) (x : Except Bs (α × Bs)) : Prop := match x with
  | .error E => E <:+ R
  | .ok z => z.2 <:+ R
def SufR (R : Bs) (x : Except Bs Bs) : Prop := match x with
  | .error E => E <:+ R
  | .ok E => E <:+ R
theorem SufT.up {α : Type} {R R' : Bs} {x : Except Bs (α × Bs)} (h : SufT R x) (k : R <:+ R') : SufT R' x := by
  cases x <;> exact List.IsSuffix.trans h k
theorem thn_suf {α β : Type} {R : Bs} {x : Except Bs (α × Bs)} {f : α → Bs → Except Bs (β × Bs)} (h : SufT R x) (k : ∀ a R1, SufT R1 (f a R1)) : SufT R (thn x f) := by
  cases x with
  | error E => exact h
  | ok z => exact (k z.1 z.2).up h
theorem thr_suf {β : Type} {R : Bs} {x : Except Bs Bs} {f : Bs → Except Bs (β × Bs)} (h : SufR R x) (k : ∀ R1, SufT R1 (f R1)) : SufT R (thr x f) := by
  cases x with
  | error E => exact h
  | ok z => exact (k z).up h
theorem nxt_suf (R : Bs) : SufR R (nxt R) := by
  unfold nxt
  split <;> exact adv_suf R
theorem need_suf (w R : Bs) : SufR R (need w R) := by
  unfold need
  split
  · exact nxt_suf R
  · exact List.suffix_refl _
theorem ok_suf {α : Type} (a : α) (R : Bs) : SufT R (Except.ok (a, R)) := List.suffix_refl _
theorem er_suf {α : Type} (R : Bs) : SufT (α := α) R (Except.error R) := List.suffix_refl _
theorem num_suf (R : Bs) : SufT R (num R) := by
  unfold num
  split
  · exact thr_suf (nxt_suf R) fun _ => ok_suf _ _
  · exact er_suf _
theorem rd_suf : ∀ d : Nat, (∀ least R, SufT R (ex d least R)) ∧ (∀ left str least R, SufT R (lp d left str least R)) ∧ (∀ R, SufT R (opd d R)) ∧ (∀ R, SufT R (lst d R)) ∧ (∀ R, SufT R (obj d R)) ∧ (∀ R, SufT R (pr d R))
  | 0 => by
    refine ⟨fun _ R => ?_, fun _ _ _ R => ?_, fun R => ?_, fun R => ?_, fun R => ?_, fun R => ?_⟩ <;> simp only [ex, lp, opd, lst, obj, pr] <;> exact er_suf _
  | d + 1 => by
    obtain ⟨i1, i2, i3, i4, i5, i6⟩ := rd_suf d
    refine ⟨fun least R => ?_, fun left str least R => ?_, fun R => ?_, fun R => ?_, fun R => ?_, fun R => ?_⟩
    · rw [ex]
      exact thn_suf (i3 R) fun t R1 => i2 _ _ _ _
    · rw [lp]
      split
      · exact ok_suf _ _
      · exact thr_suf (nxt_suf R) fun R1 => thn_suf (i1 _ _) fun t R2 => i2 _ _ _ _
    · rw [opd]
      split
      · exact thr_suf (nxt_suf R) fun R1 => thn_suf (i3 _) fun t R2 => ok_suf _ _
      · split
        · exact thr_suf (nxt_suf R) fun R1 => thn_suf (i3 _) fun t R2 => ok_suf _ _
        · exact i4 R
    · rw [lst]
      split
      · exact thn_suf (i5 _) fun t R2 => ok_suf _ _
      · split
        · exact thr_suf (nxt_suf R) fun R1 => thn_suf (i5 _) fun t R2 => ok_suf _ _
        · split
          · exact i6 R
          · split
            · exact thr_suf (nxt_suf R) fun R1 => thn_suf (i1 _ _) fun t R2 => thr_suf (need_suf _ _) fun R3 => ok_suf _ _
            · split
              · exact thr_suf (nxt_suf R) fun R1 => ok_suf _ _
              · exact num_suf R
    · rw [obj]
      exact thr_suf (need_suf _ _) fun R1 => thn_suf (i1 _ _) fun t R2 => thr_suf (need_suf _ _) fun R3 => ok_suf _ _
    · rw [pr]
      exact thr_suf (nxt_suf _) fun R1 => thr_suf (need_suf _ _) fun R2 => thn_suf (i1 _ _) fun a R3 => thr_suf (need_suf _ _) fun R4 => thn_suf (i1 _ _) fun b R5 => thr_suf (need_suf _ _) fun R6 => ok_suf _ _
theorem smp_suf (R : Bs) : SufT R (smp R) := by
  have i1 := (rd_suf FU).1
  have i5 := (rd_suf FU).2.2.2.2.1
  unfold smp
  split
  · exact thn_suf (i5 _) fun a R1 => thr_suf (need_suf _ _) fun R2 => thn_suf (i1 _ _) fun b R3 => ok_suf _ _
  · split
    · exact thr_suf (nxt_suf _) fun R1 => thn_suf (i5 _) fun a R2 => ok_suf _ _
    · split
      · exact thr_suf (nxt_suf _) fun R1 => ok_suf _ _
      · split
        · exact thr_suf (nxt_suf _) fun R1 => thn_suf (i1 _ _) fun a R2 => ok_suf _ _
        · split
          · exact thr_suf (nxt_suf _) fun R1 => thr_suf (need_suf _ _) fun R2 => thn_suf (i1 _ _) fun a R3 => ok_suf _ _
          · exact er_suf _
theorem rs_suf : ∀ d : Nat, (∀ en R, SufT R (sts d en R)) ∧ (∀ R, SufT R (stm d R)) ∧ (∀ R, SufT R (brn d R)) ∧ (∀ R, SufT R (oth d R)) ∧ (∀ R, SufT R (blk d R))
  | 0 => by
    refine ⟨fun _ R => ?_, fun R => ?_, fun R => ?_, fun R => ?_, fun R => ?_⟩ <;> simp only [sts, stm, brn, oth, blk] <;> exact er_suf _
  | d + 1 => by
    have i0 := (rd_suf FU).1
    obtain ⟨i1, i2, i3, i4, i5⟩ := rs_suf d
    refine ⟨fun en R => ?_, fun R => ?_, fun R => ?_, fun R => ?_, fun R => ?_⟩
    · rw [sts]
      split
      · exact ok_suf _ _
      · exact thn_suf (i2 _) fun s R1 => thn_suf (i1 _ _) fun l R2 => ok_suf _ _
    · rw [stm]
      split
      · exact i3 R
      · split
        · exact thr_suf (nxt_suf _) fun R1 => thn_suf (i0 _ _) fun a R2 => thn_suf (i5 _) fun l R3 => ok_suf _ _
        · exact thn_suf (smp_suf _) fun s R1 => thr_suf (need_suf _ _) fun R2 => ok_suf _ _
    · rw [brn]
      refine thr_suf (need_suf _ _) fun R1 => thn_suf (i0 _ _) fun a R2 => thn_suf (i5 _) fun l R3 => ?_
      split
      · exact thr_suf (nxt_suf _) fun R4 => thn_suf (i4 _) fun m R5 => ok_suf _ _
      · exact ok_suf _ _
    · rw [oth]
      split
      · exact thn_suf (i3 _) fun s R1 => ok_suf _ _
      · exact i5 R
    · rw [blk]
      exact thr_suf (need_suf _ _) fun R1 => thn_suf (i1 _ _) fun l R2 => thr_suf (need_suf _ _) fun R3 => ok_suf _ _
theorem prs0_suf {T E : Bs} (h : prs0 T = .error E) : E <:+ T := by
  have hs : SufT T (prs0 T) := by
    unfold prs0
    split
    · exact spk_suf _ _
    · exact ((rs_suf FU).1 [] _).up (spk_suf _ _)
  rw [h] at hs
  exact hs
theorem take_suf (A E : Bs) : (A ++ E).take ((A ++ E).length - E.length) = A := by
  rw [List.length_append, Nat.add_sub_cancel]; simp
theorem colO_le (A : Bs) : colO A ≤ A.length + 1 := by
  unfold colO
  have := (List.takeWhile_sublist (fun b => b != 10) (l := A.reverse)).length_le
  rw [List.length_reverse] at this
  omega
theorem chk_vals (l : List St) : chk l = 0 ∨ chk l = 232 ∨ chk l = 233 ∨ chk l = 234 ∨ chk l = 235 := by
  unfold chk
  repeat' split
  all_goals simp
/-- What a dressed text comes to. -/
theorem prX_dr (T : Bs) (hd : (9 :: dr T).length ≤ 32768) (hT : T.length ≤ 32768) : (∃ l, prX T = .ok l ∧ prX (9 :: dr T) = .ok l) ∨ (∃ a b : Nat, prX T = .error (231, (a : Int), (b : Int)) ∧ prX (9 :: dr T) = .error (231, (a : Int), (b : Int) + 1) ∧ 1 ≤ a ∧ 1 ≤ b ∧ b ≤ 32769) ∨ ∃ c : Int, prX T = .error (c, 0, 0) ∧ prX (9 :: dr T) = .error (c, 0, 0) ∧ c ≠ 231 ∧ c ≠ 0 := by
  unfold prX
  rw [if_neg (by omega), if_neg (by omega), prs0_dr]
  cases hp : prs0 T with
  | error E =>
    obtain ⟨A, hA⟩ := prs0_suf hp
    refine .inr (.inl ⟨lnO A, colO A, ?_, ?_, ?_, ?_, ?_⟩)
    · show Except.error (231, (lnO (T.take (T.length - E.length)) : Int), (colO (T.take (T.length - E.length)) : Int)) = _
      rw [← hA, take_suf]
    · have e : 9 :: dr T = (9 :: dr A) ++ dr E := by rw [← hA, dr_app]; rfl
      dsimp only [mpT]
      rw [e, take_suf, lnO_dr, colO_dr]
      rfl
    · unfold lnO; omega
    · unfold colO; omega
    · have h1 := colO_le A
      have h2 := congrArg List.length hA
      rw [List.length_append] at h2
      omega
  | ok z =>
    obtain ⟨l, R⟩ := z
    dsimp only [mpT]
    by_cases h : chk l = 0
    · exact .inl ⟨l, by rw [if_pos h], by rw [if_pos h]⟩
    · refine .inr (.inr ⟨chk l, by rw [if_neg h], by rw [if_neg h], ?_, h⟩)
      rcases chk_vals l with e | e | e | e | e <;> omega
/-- "x := a - 1 * take [b];", and its tree. -/
def tx1 : Bs := [120, 32, 58, 61, 32, 97, 32, 45, 32, 49, 32, 42, 32, 116, 97, 107, 101, 32, 91, 98, 93, 59]
def E1 : Tr := .mk 7 0 [45] [.mk 2 0 [97] [], .mk 7 0 [42] [.mk 1 1 [] [], .mk 4 0 [] [.mk 2 0 [98] []]]]
def T1 : List St := [.mk 1 [120] E1 tr0 [] []]
set_option maxRecDepth 1000000 in
theorem prX_tx1 : prX tx1 = .ok T1 := by kernel_rfl
theorem bg_T1 : bgSL T1 = 8 := by kernel_rfl
theorem TC.node {w : World} {P : Nat → Prop} {e : TypeId} {k n : Int} {wd : Bs} {ps : List Tr} {a : Value} {xs : List Value} (hk : I64 k) (hn : I64 n) (hw : wd.length ≤ 140737488355328) (ho : OwnP w P e 4 a ps.length xs) (hx : TL w P e ps xs) : TC w P e (.mk k n wd ps) [.int .i64 k, .int .i64 n, .string (bs wd), a] := by
  unfold TC
  exact ⟨hk, hn, hw, a, xs, rfl, ho, hx⟩
theorem TL.nil' (w : World) (P : Nat → Prop) (e : TypeId) : TL w P e [] [] := by unfold TL; rfl
theorem TL.one {w : World} {P : Nat → Prop} {e : TypeId} {t : Tr} {ys : List Value} (h : TC w P e t ys) : TL w P e [t] ys := by
  unfold TL
  exact ⟨ys, [], by simp, h, TL.nil' _ _ _⟩
theorem TL.two {w : World} {P : Nat → Prop} {e : TypeId} {t u : Tr} {ys zs : List Value} (h : TC w P e t ys) (h' : TC w P e u zs) : TL w P e [t, u] (ys ++ zs) := by
  unfold TL
  exact ⟨ys, zs, rfl, h, TL.one h'⟩
theorem i64d {k : Int} (h : -100 ≤ k ∧ k ≤ 100 := by decide) : I64 k := by unfold I64; omega
theorem TC.leafF {w : World} {P : Nat → Prop} {e : TypeId} {k n : Int} {wd : Bs} (hk : I64 k) (hn : I64 n) (hw : wd.length ≤ 140737488355328) : TC w P e (.mk k n wd []) [.int .i64 k, .int .i64 n, .string (bs wd), .slice none 0 0] := TC.node hk hn hw (ownP_nil _ _ _ _) (TL.nil' _ _ _)
theorem wp_build1K {t e : TypeId} {z : Value} {size bytes : Nat} (ht : Tryd.prog.underlying t = some (.slice e)) (hinfo : (Tryd.prog.info? e).map (fun i => (i.zero, i.size, i.bytes)) = some (some z, size, bytes)) (hs : 0 < size) (hs2 : size ≤ 100) {o : Oper} {a : Act} {w : World} {K : Act → World → Prop} {Q : Exit → Act → World → Prop} (x : Operand) (ho : o.op = .buildSlice t 1 #[(0, x)]) (cs : List Value) (hc : cs.length = size) (hx : a.eval x = .agg cs.toArray)
    (h : K (a.put o.dst (.slice (some ⟨w.heap.size, 0, none⟩) 1 1)) (w.alloc (.cells cs.toArray e))) : o.wp Tryd.prog a w K Q := by
  obtain ⟨i0, hi0, hzz⟩ := Option.map_eq_some_iff.1 hinfo
  simp only [Prod.mk.injEq] at hzz
  obtain ⟨hz0, hz1, -⟩ := hzz
  refine wp_buildSlice t e 1 _ ho cs.toArray i0 _ ht hi0 hz0 (by rw [hz1]; omega) (by rw [hz1]; omega) ?_ h
  rw [hz1]
  have e : (#[(0, x)].map fun (i, x) => (i, a.eval x)).toList = ([Value.agg cs.toArray].zipIdx 0).map fun x => (x.2, x.1) := by simp [hx]
  have e2 : ([Value.agg cs.toArray].flatMap fun v => v.cells.toList).toArray = cs.toArray := by simp [Value.cells]
  rw [e, Great.fill_whole (s := size) hs [Value.agg cs.toArray] _ (fun v hv => by
    simp at hv
    subst hv
    simpa [Value.cells] using hc) (by simp), e2]
end Go.Proofs.YtehblpbefkopbaaDoor
namespace Go.Proofs.YtehblpbefkopbaaDoor
open Go.RowKit Go.ChangeShapes Go.WideShapes Go.ChangeAt Go.Deep
attribute [local go_sem] Oper.semAt_some run_store_nf run_store_f
theorem inES : (Tryd.prog.info? 32).map (fun i => (i.zero, i.size, i.bytes)) = some (some (.agg zER.toArray), 4, 56) := by kernel_rfl
theorem uES : Tryd.prog.underlying 30 = some (.slice 32) := by kernel_rfl
theorem run_store_sleP {w : World} {b o : Nat} (hc : (w.cell? ⟨b, o, none⟩).isSome = true) (hz : w.frozen? ⟨b, o, none⟩ = false) (p : Option Addr) (m c : Nat) : (storeVar 30 ⟨b, o, none⟩ (.slice p m c)).run Tryd.prog w = .ok () (w.setCell ⟨b, o, none⟩ (.slice p m c)) := by
  obtain ⟨u, hu⟩ := Option.isSome_iff_exists.1 hc
  go_simp
theorem wpList_store_sleP {w : World} {ops : Array Oper} {rest : List Oper} {o : Oper} {a : Act} {Q : Exit → Act → World → Prop} (hgd : o.guard = none) (hd : o.dst = none) (x y : Operand) (ho : o.op = .store 30 x y) (b off : Nat) (hx : a.eval x = .pointer (some ⟨b, off, none⟩)) (p : Option Addr) (m c : Nat) (hy : a.eval y = .slice p m c)
    {l : List Value} (hB : CL w b l) (hl : off < l.length) (h : ∀ w1, CL w1 b (l.set off (.slice p m c)) → Keeps (fun k => k = b) w w1 → w1.heap.size = w.heap.size → wpList Tryd.prog ops Q rest a w1) : wpList Tryd.prog ops Q (o :: rest) a w :=
  wpList_plain hgd fun _ hK => by
    unfold Oper.wp execOp
    simp only [ho, hx, hy, Instr.storeAt, Instr.sureAddr, Sem.run_bind, Sem.run_pure, Result.andThen_ok, run_store_sleP (by rw [hB.c off _ (List.getElem?_eq_getElem hl)]; rfl) (hB.z off hl) p m c]
    refine hK _ _ ?_
    have e : a.put o.dst undef = a := by rw [hd]; rfl
    rw [e]
    exact h _ (hB.set hl _) ((Keeps.refl (fun k => k = b) w).setCell (p := ⟨b, off, none⟩) (fun _ => rfl) _) (by simp)
/-- Expressions on their way, all of them from a block on. -/
structure AcEp (B : Nat) (W : World) (acc : List Tr) (i : Nat) (p : Option Addr) (c : Nat) (xs : List Value) : Prop where
  o : OwnP W (fun g => B ≤ g) 32 4 (.slice p i c) i xs
  x : TL W (fun g => B ≤ g ∧ ∀ b, (Value.slice p i c).ownBlock = some b → g ≠ b) 32 acc xs
theorem AcEp.keep {B : Nat} {W W1 : World} {acc : List Tr} {i : Nat} {p : Option Addr} {c : Nat} {xs : List Value} {S : Nat → Prop} (e : AcEp B W acc i p c xs) (k : Keeps S W W1) (h : ∀ i, B ≤ i → i < W.heap.size → ¬ S i) : AcEp B W1 acc i p c xs :=
  ⟨e.o.stay (k.stay (fun i h1 h2 => h i h1 h2)), e.x.stay (k.stay (fun i h1 h2 => h i h1.1 h2))⟩
theorem AcEp.nil (B : Nat) (W : World) : AcEp B W [] 0 none 0 [] := ⟨⟨⟨by simp, .inl ⟨rfl, rfl⟩⟩, fun g hg => by cases hg⟩, by unfold TL; rfl⟩
theorem AcEp.add {B : Nat} {W : World} {acc : List Tr} {i : Nat} {p : Option Addr} {c : Nat} {xs : List Value} (e : AcEp B W acc i p c xs) (hB : B ≤ W.heap.size) (hi : (i + 1) * 56 ≤ 140737488355328) {t : Tr} {L : List Value} (V : TC W (fun g => B ≤ g ∧ ∀ b, (Value.slice p i c).ownBlock = some b → g ≠ b) 32 t L) (hL : L.length = 4) (h1 : ∀ u ∈ L, u.oneCell' = true) :
    ∃ p' c' w', (Builtin.append_ #[30, 30] 30 #[.slice p i c, .slice (some ⟨W.heap.size, 0, none⟩) 1 1]).run Tryd.prog (W.alloc (.cells L.toArray 32)) = .ok (.slice p' (i + 1) c') w' ∧ AcEp B w' (acc ++ [t]) (i + 1) p' c' (xs ++ L) ∧ Keeps (fun g => (Value.slice p i c).ownBlock = some g) W w' := by
  obtain ⟨v', w', hr, ho, kk, hb⟩ := append_sz uES inES rfl (by decide) e.o.1 (Nat.zero_le _) (by decide) (by omega) L hL h1
  obtain ⟨p', c', rfl, -⟩ := own_slice ho
  have hlo : ∀ b, (Value.slice p i c).ownBlock = some b → b < W.heap.size := fun b hb => owns_lt' e.o.1 b hb
  have hge : ∀ b, (Value.slice p i c).ownBlock = some b → B ≤ b := fun b hb => e.o.2 b hb
  refine ⟨p', c', w', hr, ⟨⟨ho, fun g hg => ?_⟩, TL.snoc ((V.lt.stay (kk.stay (fun g hg _ q => hg.1.2 g q rfl))).mono fun g hg => ⟨hg.1.1, fun b hb' => ?_⟩) ((e.x.lt.stay (kk.stay (fun g hg _ q => hg.1.2 g q rfl))).mono fun g hg => ⟨hg.1.1, fun b hb' => ?_⟩)⟩, kk⟩
  · rcases hb with hb | hb
    · rw [hb] at hg; exact hge g hg
    · rw [hb] at hg; cases hg; show B ≤ W.heap.size + 1; omega
  · rcases hb with hb | hb
    · rw [hb] at hb'; exact hg.1.2 b hb'
    · rw [hb] at hb'; cases hb'; have := hg.2; omega
  · rcases hb with hb | hb
    · rw [hb] at hb'; exact hg.1.2 b hb'
    · rw [hb] at hb'; cases hb'; have := hg.2; omega
/-- What stands in a round. -/
structure ExI (w : World) (l : List Value) (k n : Int) (s : ByteArray) (ps : List Tr) (W : World) (i : Nat) (p : Option Addr) (c : Nat) (ys : List Value) : Prop where
  kp : Keeps (fun _ => False) w W
  b1 : CL W w.heap.size l
  b2 : CL W (w.heap.size + 1) zER
  b3 : CL W (w.heap.size + 1 + 1) [.int .i64 k, .int .i64 n, .string s, .slice p i c]
  z : w.heap.size + 3 ≤ W.heap.size
  ac : AcEp (w.heap.size + 3) W (ps.take i) i p c ys
def ExE (t : Tr) : Prop := ∀ (w : World) (l : List Value), IE w t l → Calls Tryd.prog 9 #[.agg l.toArray] w fun e w' => ∃ l', e = .returned (.agg l'.toArray) ∧ TC w' (fun g => w.heap.size ≤ g) 32 t l' ∧ Keeps (fun _ => False) w w'
set_option maxHeartbeats 1000000 in
set_option maxRecDepth 100000 in
theorem ex_all : ∀ (n : Nat) (t : Tr), bgE t ≤ n → FtE t → ExE t
  | 0, t, h, _ => absurd h (by have := bgE_pos t; omega)
  | n + 1, .mk k m wd ps, h, hn => by
    have IH := fun t (ht : bgE t ≤ n) (hf : FtE t) => ex_all n t ht hf
    intro w l ht
    unfold IE at ht
    obtain ⟨hk, hm, hw, p, c, xs, rfl, hget, hx⟩ := ht
    unfold FtE at hn
    obtain ⟨hN56, hFt⟩ := hn
    obtain ⟨N, hN⟩ : ∃ N, N = ps.length := ⟨_, rfl⟩
    have hbg : bgL ps ≤ n := by unfold bgE at h; omega
    have hNn : N * 56 ≤ 140737488355327 := by rw [hN]; exact hN56
    clear hN56
    clear h
    have HN : Hid (N = ps.length) := hN
    rw [← hN]
    clear hN
    obtain ⟨s, hs⟩ : ∃ s, s = bs wd := ⟨_, rfl⟩
    have HS : Hid (s = bs wd) := hs
    rw [← hs]
    clear hs
    go_enter Tryd.func9, Tryd.ntmps9
    have q1 : CL ((w.alloc (.cells #[.int .i64 k, .int .i64 m, .string s, .slice p N c] 40)).alloc (.cells zER.toArray 32)) w.heap.size [.int .i64 k, .int .i64 m, .string s, .slice p N c] := (CL.made w [.int .i64 k, .int .i64 m, .string s, .slice p N c] 40).alloc (by show 0 < 4; decide) _
    have q2 : CL ((w.alloc (.cells #[.int .i64 k, .int .i64 m, .string s, .slice p N c] 40)).alloc (.cells zER.toArray 32)) (w.heap.size + 1) zER := by
      have := CL.made (w.alloc (.cells #[.int .i64 k, .int .i64 m, .string s, .slice p N c] 40)) zER 32
      simpa using this
    have kA : Keeps (fun _ => False) w ((w.alloc (.cells #[.int .i64 k, .int .i64 m, .string s, .slice p N c] 40)).alloc (.cells zER.toArray 32)) := ((Keeps.refl _ w).alloc _).alloc _
    obtain ⟨W1, hW1⟩ : ∃ W1, W1 = (w.alloc (.cells #[.int .i64 k, .int .i64 m, .string s, .slice p N c] 40)).alloc (.cells zER.toArray 32) := ⟨_, rfl⟩
    have z1 : W1.heap.size = w.heap.size + 1 + 1 := by rw [hW1]; simp
    rw [← hW1] at q1 q2 kA
    have HW : Hid (_ = _) := hW1
    clear hW1
    have y0 := q1.c 0 _ rfl
    have y1 := q1.c 1 _ rfl
    have y2 := q1.c 2 _ rfl
    refine wp_seq_k (fun KK hKK => ?_)
    have hKH : Hid _ := hKK
    clear hKK
    go_wp2_with fail
    rw [← show W1 = (w.alloc (.cells #[.int .i64 k, .int .i64 m, .string s, .slice p N c] 40)).alloc (.cells #[.int .i64 0, .int .i64 0, .string { data := #[] }, .slice none 0 0] 32) from HW.out]
    refine hKH.out _ _ ?_
    clear hKH KK HW
    go_wp2_with fail
    obtain ⟨w3, hw3⟩ : ∃ w3, w3 = W1.alloc (.cells #[.int .i64 k, .int .i64 m, .string s, .slice none 0 0] 32) := ⟨_, rfl⟩
    have Z3 : w3.heap.size = w.heap.size + 3 := by rw [hw3, World.size_alloc, z1]
    have hb3' : CL w3 (w.heap.size + 1 + 1) [.int .i64 k, .int .i64 m, .string s, .slice none 0 0] := by rw [← z1, hw3]; exact CL.made W1 _ _
    have k13 : Keeps (fun _ => False) W1 w3 := by rw [hw3]; exact (Keeps.refl _ W1).alloc _
    rw [← hw3]
    clear hw3
    have B0 : ExI w [.int .i64 k, .int .i64 m, .string s, .slice p N c] k m s ps w3 0 none 0 [] := ⟨kA.trans k13, q1.keep (by show 0 < 4; decide) k13 (fun e => e), q2.keep (by show 0 < 4; decide) k13 (fun e => e), hb3', by omega, by rw [List.take_zero]; exact AcEp.nil _ _⟩
    clear hb3' k13 q1 q2 kA y0 y1 y2 Z3 z1
    go_loopw [4] (fun iv Wr => ∃ (i : Nat) (p' : Option Addr) (c' : Nat) (ys : List Value), iv = .int .i64 (i : Int) ∧ i ≤ N ∧ ExI w [.int .i64 k, .int .i64 m, .string s, .slice p N c] k m s ps Wr i p' c' ys) (fun iv _ => N - (intOf iv).toNat)
    case atStart => exact ⟨0, none, 0, [], rfl, Nat.zero_le _, B0⟩
    case round =>
      clear B0
      obtain ⟨i, p', c', ys, rfl, hi, hB⟩ := hrel
      have y3 := hB.b1.c 3 _ rfl
      have x3 := hB.b3.c 3 _ rfl
      by_cases hlt : i < N
      · have d1 : decide ((i : Int) < (N : Int)) = true := decide_eq_true (by omega)
        have d2 : decide (i < N) = true := decide_eq_true hlt
        have i0 : (0 : Int) ≤ (i : Int) := by omega
        have i1 : (i : Int) < (N : Int) := by omega
        have i2 : (i : Int) + 1 ≤ 9223372036854775807 := by omega
        have hip : i < ps.length := by rw [← HN.out]; exact hlt
        obtain ⟨t, htt⟩ : ∃ t, t = ps[i] := ⟨_, rfl⟩
        have hgt : ps[i]? = some t := by rw [htt]; exact List.getElem?_eq_getElem hip
        have htk : Hid (ps.take (i + 1) = ps.take i ++ [t]) := take_snoc hgt
        have hbt : bgE t ≤ n := Nat.le_trans (bgA ps i t hgt) hbg
        obtain ⟨us, hty, hyc⟩ := hx.at i t hgt
        obtain ⟨k2, n2, s2, p2, m2, c2, rfl⟩ := hty.shapeR
        obtain ⟨g, o, rfl, -⟩ := hget (i * 4) _ (hyc 0 _ rfl)
        have hq : ∀ (j : Nat) (u : Value), [Value.int .i64 k2, .int .i64 n2, .string s2, .slice p2 m2 c2][j]? = some u → wr.cell? ⟨g, o + i * 4 + j, none⟩ = some u := fun j u e => by
          obtain ⟨g', o', eg, h6⟩ := hget _ _ (hyc j u e)
          injection eg with eg; injection eg with eg eo _; subst eg eo
          rw [Nat.add_assoc]
          exact hB.kp.cell h6 (fun e => e)
        have hR1 := run_er hq
        have hP := IH t hbt (hFt.at hgt) wr _ (hty.keep hB.kp)
        clear hq hyc hgt htt hip
        refine wp_seq_k (fun KK hKK => ?_)
        have hKH : Hid _ := hKK
        clear hKK
        go_wp2_with fail
        refine hKH.out _ _ ?_
        clear hKH KK
        refine wp_seq_k (fun KK hKK => ?_)
        have hKH : Hid _ := hKK
        clear hKK
        refine wp_block ?_
        refine wp_seq_k (fun K2 hK2 => ?_)
        have hKI : Hid _ := hK2
        clear hK2
        go_wp2_with (first | (refine wpList_load_runL rfl 40 _ rfl ⟨g, o + i * 4, none⟩ rfl _ hR1 ?_; clear hR1) | (go_at_call 9; refine hP.mono ?_; clear hP; rintro e w1 ⟨l', rfl, V1, k1⟩; obtain ⟨k4, n4, s4, p4, m4, c4, rfl⟩ := V1.shapeR; have z4 := k1.size))
        refine hKI.out _ _ ?_
        clear hKI K2
        obtain ⟨w5, hw5⟩ : ∃ w5, w5 = w1.alloc (.cells #[.int .i64 k4, .int .i64 n4, .string s4, .slice p4 m4 c4] 32) := ⟨_, rfl⟩
        have hb5' : CL w5 w1.heap.size [.int .i64 k4, .int .i64 n4, .string s4, .slice p4 m4 c4] := by rw [hw5]; exact CL.made w1 _ _
        have k15 : Keeps (fun _ => False) w1 w5 := by rw [hw5]; exact (Keeps.refl _ w1).alloc _
        rw [← hw5]
        clear hw5
        have kr5 := k1.trans k15
        have z5 := hB.z
        have C3 := hB.b3.keep (by show 0 < 4; decide) kr5 (fun e => e)
        have A5 := hB.ac.keep kr5 (fun _ _ _ e => e)
        have zz6 := kr5.size
        obtain ⟨p6, c6, w6, hr6, A6, k6⟩ := A5.add (by omega) (by omega) ((V1.stay (k15.stay (fun _ _ _ e => e))).mono (fun g hg => ⟨by omega, fun b hb => by have := owns_lt' hB.ac.o.1 b hb; omega⟩)) rfl oneR'
        have C36 : CL w6 (w.heap.size + 1 + 1) [.int .i64 k, .int .i64 m, .string s, .slice p' i c'] := C3.keep (by show 0 < 4; decide) k6 (fun e => by have := hB.ac.o.2 _ e; omega)
        have kw6 : Keeps (fun _ => False) w w6 := (hB.kp.trans kr5).trans' k6 (fun _ _ e => e) (fun j hj e => by have := hB.ac.o.2 _ e; omega)
        have hlo : ∀ b, (Value.slice p' i c').ownBlock = some b → w.heap.size + 3 ≤ b := fun b hb => hB.ac.o.2 _ hb
        have HX : Hid (CL w6 w.heap.size [.int .i64 k, .int .i64 m, .string s, .slice (some ⟨g, o, none⟩) N c] ∧ CL w6 (w.heap.size + 1) zER ∧ w.heap.size + 3 ≤ w6.heap.size) := ⟨(hB.b1.keep (by show 0 < 4; decide) kr5 (fun e => e)).keep (by show 0 < 4; decide) k6 (fun e => by have := hlo _ e; omega), (hB.b2.keep (by show 0 < 4; decide) kr5 (fun e => e)).keep (by show 0 < 4; decide) k6 (fun e => by have := hlo _ e; omega), by have := k6.size; omega⟩
        have x3' := C3.c 3 _ rfl
        clear x3 y3 V1 A5 C3 z4 z5 zz6 hlo
        go_wp2_with (first | (refine wpList_load_runL rfl 32 _ rfl ⟨w1.heap.size, 0, none⟩ rfl _ (run_es (cl_at0 hb5')) ?_) | (refine wpList_build1L uES inES (by decide) (by decide) rfl _ rfl [_, _, _, _] rfl rfl ?_; (try simp only [Act.put, List.setIfInBounds_toArray, List.set_cons_zero, List.set_cons_succ])) | (refine wpList_append_tL rfl _ _ 30 rfl _ _ _ w6 rfl rfl hr6 ?_; clear hr6) | (refine wpList_store_sleP rfl rfl _ _ rfl (w.heap.size + 1 + 1) 3 rfl p6 (i + 1) c6 rfl C36 (by show 3 < 4; decide) ?_; intro w7 hb7 k7 zz7))
        refine hKH.out _ _ ?_
        clear hKH KK
        have hb7' : CL w7 (w.heap.size + 1 + 1) [.int .i64 k, .int .i64 m, .string s, .slice p6 (i + 1) c6] := hb7
        have B7 : ExI w [.int .i64 k, .int .i64 m, .string s, .slice (some ⟨g, o, none⟩) N c] k m s ps w7 (i + 1) p6 c6 (ys ++ [.int .i64 k4, .int .i64 n4, .string s4, .slice p4 m4 c4]) := ⟨kw6.trans' k7 (fun _ _ e => e) (fun j hj e => by omega), HX.out.1.keep (by show 0 < 4; decide) k7 (fun e => by omega), HX.out.2.1.keep (by show 0 < 4; decide) k7 (fun e => by omega), hb7', by have := HX.out.2.2; omega, by rw [htk.out]; exact A6.keep k7 (fun j h1 _ e => by omega)⟩
        go_wp2_with fail
        go_roundw
        case rel => exact ⟨i + 1, p6, c6, _, by go_num, by omega, B7⟩
        case measure => simp [intOf]; omega
      · obtain rfl : i = N := by omega
        have d1 : decide ((i : Int) < (i : Int)) = false := decide_eq_false (by omega)
        have d2 : decide (i < i) = false := decide_eq_false (by omega)
        have hb3 := hB.b3
        have hb2 := hB.b2
        go_wp2_with (first | (refine wpList_load_runL rfl 32 _ rfl ⟨w.heap.size + 1 + 1, 0, none⟩ rfl _ (run_es (cl_at0 hb3)) ?_) | (refine wpList_store_cl rfl 32 _ _ rfl (w.heap.size + 1) 0 4 _ rfl rfl rfl hb2 (by show 4 ≤ 4; decide) iER oneR ?_; intro w9 hc9 k9 zz9; clear zz9))
        have hc9' : CL w9 (w.heap.size + 1) [.int .i64 k, .int .i64 m, .string s, .slice p' i c'] := hc9
        have hrn := run_es (cl_at0 hc9')
        have hrel9 := hB.ac.keep k9 (fun j h1 _ e => by omega)
        refine bodyPost_ret (v := .agg #[.int .i64 k, .int .i64 m, .string s, .slice p' i c']) (by rw [results_cell1' rfl]; simp [asAddr, hrn]) rfl ?_
        have ep : ps.take i = ps := by rw [HN.out]; exact List.take_length
        refine ⟨[.int .i64 k, .int .i64 m, .string s, .slice p' i c'], rfl, ?_, hB.kp.trans' k9 (fun _ _ e => e) (fun j hj e => by omega)⟩
        unfold TC
        rw [HS.out]
        have x9 := hrel9.x
        rw [ep] at x9
        refine ⟨hk, hm, hw, .slice p' i c', ys, rfl, ?_, x9.mono (fun g hg => by have := hg.1; omega)⟩
        have o9 := hrel9.o.mono (P' := fun g => w.heap.size ≤ g) (fun g hg => by omega)
        rw [← HN.out]
        exact o9
theorem inSS : (Tryd.prog.info? 34).map (fun i => (i.zero, i.size, i.bytes)) = some (some (.agg zSR.toArray), 12, 184) := by kernel_rfl
theorem uSS : Tryd.prog.underlying 23 = some (.slice 34) := by kernel_rfl
theorem run_store_slP {w : World} {b o : Nat} (hc : (w.cell? ⟨b, o, none⟩).isSome = true) (hz : w.frozen? ⟨b, o, none⟩ = false) (p : Option Addr) (m c : Nat) : (storeVar 23 ⟨b, o, none⟩ (.slice p m c)).run Tryd.prog w = .ok () (w.setCell ⟨b, o, none⟩ (.slice p m c)) := by
  obtain ⟨u, hu⟩ := Option.isSome_iff_exists.1 hc
  go_simp
theorem wpList_store_slP {w : World} {ops : Array Oper} {rest : List Oper} {o : Oper} {a : Act} {Q : Exit → Act → World → Prop} (hgd : o.guard = none) (hd : o.dst = none) (x y : Operand) (ho : o.op = .store 23 x y) (b off : Nat) (hx : a.eval x = .pointer (some ⟨b, off, none⟩)) (p : Option Addr) (m c : Nat) (hy : a.eval y = .slice p m c)
    {l : List Value} (hB : CL w b l) (hl : off < l.length) (h : ∀ w1, CL w1 b (l.set off (.slice p m c)) → Keeps (fun k => k = b) w w1 → w1.heap.size = w.heap.size → wpList Tryd.prog ops Q rest a w1) : wpList Tryd.prog ops Q (o :: rest) a w :=
  wpList_plain hgd fun _ hK => by
    unfold Oper.wp execOp
    simp only [ho, hx, hy, Instr.storeAt, Instr.sureAddr, Sem.run_bind, Sem.run_pure, Result.andThen_ok, run_store_slP (by rw [hB.c off _ (List.getElem?_eq_getElem hl)]; rfl) (hB.z off hl) p m c]
    refine hK _ _ ?_
    have e : a.put o.dst undef = a := by rw [hd]; rfl
    rw [e]
    exact h _ (hB.set hl _) ((Keeps.refl (fun k => k = b) w).setCell (p := ⟨b, off, none⟩) (fun _ => rfl) _) (by simp)
/-- Statements on their way, all of them from a block on. -/
structure AcSp (B : Nat) (W : World) (acc : List St) (i : Nat) (p : Option Addr) (c : Nat) (xs : List Value) : Prop where
  o : OwnP W (fun g => B ≤ g) 34 12 (.slice p i c) i xs
  x : SL W (fun g => B ≤ g ∧ ∀ b, (Value.slice p i c).ownBlock = some b → g ≠ b) 32 34 acc xs
theorem AcSp.keep {B : Nat} {W W1 : World} {acc : List St} {i : Nat} {p : Option Addr} {c : Nat} {xs : List Value} {S : Nat → Prop} (e : AcSp B W acc i p c xs) (k : Keeps S W W1) (h : ∀ i, B ≤ i → i < W.heap.size → ¬ S i) : AcSp B W1 acc i p c xs :=
  ⟨e.o.stay (k.stay (fun i h1 h2 => h i h1 h2)), e.x.stay (k.stay (fun i h1 h2 => h i h1.1 h2))⟩
theorem AcSp.nil (B : Nat) (W : World) : AcSp B W [] 0 none 0 [] := ⟨⟨⟨by simp, .inl ⟨rfl, rfl⟩⟩, fun g hg => by cases hg⟩, by unfold SL; rfl⟩
theorem AcSp.add {B : Nat} {W : World} {acc : List St} {i : Nat} {p : Option Addr} {c : Nat} {xs : List Value} (e : AcSp B W acc i p c xs) (hB : B ≤ W.heap.size) (hi : (i + 1) * 184 ≤ 140737488355328) {t : St} {L : List Value} (V : SC W (fun g => B ≤ g ∧ ∀ b, (Value.slice p i c).ownBlock = some b → g ≠ b) 32 34 t L) (hL : L.length = 12) (h1 : ∀ u ∈ L, u.oneCell' = true) :
    ∃ p' c' w', (Builtin.append_ #[23, 23] 23 #[.slice p i c, .slice (some ⟨W.heap.size, 0, none⟩) 1 1]).run Tryd.prog (W.alloc (.cells L.toArray 34)) = .ok (.slice p' (i + 1) c') w' ∧ AcSp B w' (acc ++ [t]) (i + 1) p' c' (xs ++ L) ∧ Keeps (fun g => (Value.slice p i c).ownBlock = some g) W w' := by
  obtain ⟨v', w', hr, ho, kk, hb⟩ := append_sz uSS inSS rfl (by decide) e.o.1 (Nat.zero_le _) (by decide) (by omega) L hL h1
  obtain ⟨p', c', rfl, -⟩ := own_slice ho
  have hlo : ∀ b, (Value.slice p i c).ownBlock = some b → b < W.heap.size := fun b hb => owns_lt' e.o.1 b hb
  have hge : ∀ b, (Value.slice p i c).ownBlock = some b → B ≤ b := fun b hb => e.o.2 b hb
  refine ⟨p', c', w', hr, ⟨⟨ho, fun g hg => ?_⟩, SL.snoc ((V.lt.stay (kk.stay (fun g hg _ q => hg.1.2 g q rfl))).mono fun g hg => ⟨hg.1.1, fun b hb' => ?_⟩) ((e.x.lt.stay (kk.stay (fun g hg _ q => hg.1.2 g q rfl))).mono fun g hg => ⟨hg.1.1, fun b hb' => ?_⟩)⟩, kk⟩
  · rcases hb with hb | hb
    · rw [hb] at hg; exact hge g hg
    · rw [hb] at hg; cases hg; show B ≤ W.heap.size + 1; omega
  · rcases hb with hb | hb
    · rw [hb] at hb'; exact hg.1.2 b hb'
    · rw [hb] at hb'; cases hb'; have := hg.2; omega
  · rcases hb with hb | hb
    · rw [hb] at hb'; exact hg.1.2 b hb'
    · rw [hb] at hb'; cases hb'; have := hg.2; omega
/-- What stands in a round. -/
structure PgI (w : World) (l : List St) (W : World) (i : Nat) (p : Option Addr) (c : Nat) (ys : List Value) : Prop where
  kp : Keeps (fun _ => False) w W
  ac : AcSp w.heap.size W (l.take i) i p c ys
def PgL (l : List St) : Prop := ∀ (w : World) (p : Option Addr) (c : Nat) (xs : List Value), Rd w p xs → ISL w l xs → Calls Tryd.prog 4 #[.slice p l.length c] w fun e w' => ∃ (p' : Option Addr) (c' : Nat) (xs' : List Value), e = .returned (.slice p' l.length c') ∧ OwnP w' (fun g => w.heap.size ≤ g) 34 12 (.slice p' l.length c') l.length xs' ∧ SL w' (fun g => w.heap.size ≤ g) 32 34 l xs' ∧ Keeps (fun _ => False) w w'
set_option maxHeartbeats 1500000 in
set_option maxRecDepth 100000 in
theorem pg_all : ∀ (n : Nat) (l : List St), bgSL l < n → FtSL l → l.length * 184 ≤ 140737488355327 → PgL l
  | 0, l, h, _, _ => absurd h (by omega)
  | n + 1, l, h, hFt, h184 => by
    have IH := fun l (ht : bgSL l < n) (hf : FtSL l) (h1 : l.length * 184 ≤ 140737488355327) => pg_all n l ht hf h1
    intro w p c xs hget hx
    obtain ⟨N, hN⟩ : ∃ N, N = l.length := ⟨_, rfl⟩
    have hNn : N * 184 ≤ 140737488355327 := by rw [hN]; exact h184
    clear h184
    have HN : Hid (N = l.length) := hN
    rw [← hN]
    clear hN
    have B0 : PgI w l w 0 none 0 [] := ⟨Keeps.refl _ w, by rw [List.take_zero]; exact AcSp.nil _ _⟩
    go_enter Tryd.func4, Tryd.ntmps4
    go_wp2_with fail
    go_loopw [3, 4] (fun v iv Wr => ∃ (i : Nat) (p' : Option Addr) (c' : Nat) (ys : List Value), v = .slice p' i c' ∧ iv = .int .i64 (i : Int) ∧ i ≤ N ∧ PgI w l Wr i p' c' ys) (fun _ iv _ => N - (intOf iv).toNat)
    case atStart => exact ⟨0, none, 0, [], rfl, rfl, Nat.zero_le _, B0⟩
    case round =>
      clear B0
      obtain ⟨i, p', c', ys, rfl, rfl, hi, hB⟩ := hrel
      by_cases hlt : i < N
      · have d1 : decide ((i : Int) < (N : Int)) = true := decide_eq_true (by omega)
        have d2 : decide (i < N) = true := decide_eq_true hlt
        have i0 : (0 : Int) ≤ (i : Int) := by omega
        have i1 : (i : Int) < (N : Int) := by omega
        have i2 : (i : Int) + 1 ≤ 9223372036854775807 := by omega
        have hip : i < l.length := by rw [← HN.out]; exact hlt
        obtain ⟨t, htt⟩ : ∃ t, t = l[i] := ⟨_, rfl⟩
        have hgt : l[i]? = some t := by rw [htt]; exact List.getElem?_eq_getElem hip
        have htk : Hid (l.take (i + 1) = l.take i ++ [t]) := take_snoc hgt
        have hbt : bgS t ≤ bgSL l := bgSA l i t hgt
        obtain ⟨us, hty, hyc⟩ := hx.at i t hgt
        have hft := hFt.at hgt
        clear hgt htt hip
        obtain ⟨k, wd, a, b, th, el⟩ := t
        unfold bgS at hbt
        unfold FtS at hft
        obtain ⟨fa, fb, ft1, ft2, fe1, fe2⟩ := hft
        obtain ⟨hk, hw, ka, na, sa, pa, ma, ca, kb, nb, sb, pb, mb, cb, pt, ct, pe, ce, xt, xe, rfl, Ta, Tb, ot, xt1, oe, xe1⟩ := hty.parts
        clear hty
        obtain ⟨s, hs⟩ : ∃ s, s = bs wd := ⟨_, rfl⟩
        rw [← hs] at hyc
        have HS : Hid (s = bs wd) := hs
        clear hs
        obtain ⟨g, o, rfl, -⟩ := hget (i * 12) _ (hyc 0 _ rfl)
        have hq : ∀ (j : Nat) (u : Value), ([.int .i64 k, .string s, .int .i64 ka, .int .i64 na, .string sa, .slice pa ma ca, .int .i64 kb, .int .i64 nb, .string sb, .slice pb mb cb, .slice pt th.length ct, .slice pe el.length ce] : List Value)[j]? = some u → wr.cell? ⟨g, o + i * 12 + j, none⟩ = some u := fun j u e => by
          obtain ⟨g', o', eg, h6⟩ := hget _ _ (hyc j u e)
          injection eg with eg; injection eg with eg eo _; subst eg eo
          rw [Nat.add_assoc]
          exact hB.kp.cell h6 (fun e => e)
        have hR1 := run_rs rfl hq
        clear hq hyc
        refine wp_seq_k (fun KK hKK => ?_)
        have hKH : Hid _ := hKK
        clear hKK
        go_wp2_with fail
        refine hKH.out _ _ ?_
        clear hKH KK
        refine wp_seq_k (fun KK hKK => ?_)
        have hKH : Hid _ := hKK
        clear hKK
        refine wp_block ?_
        refine wp_seq_k (fun K2 hK2 => ?_)
        have hKI : Hid _ := hK2
        clear hK2
        go_wp2_with (refine wpList_load_runL rfl 42 _ rfl ⟨g, o + i * 12, none⟩ rfl _ hR1 ?_; clear hR1)
        refine hKI.out _ _ ?_
        clear hKI K2
        obtain ⟨w5, hw5⟩ : ∃ w5, w5 = wr.alloc (.cells #[.int .i64 k, .string s, .int .i64 ka, .int .i64 na, .string sa, .slice pa ma ca, .int .i64 kb, .int .i64 nb, .string sb, .slice pb mb cb, .slice pt th.length ct, .slice pe el.length ce] 42) := ⟨_, rfl⟩
        have hb5 : CL w5 wr.heap.size [.int .i64 k, .string s, .int .i64 ka, .int .i64 na, .string sa, .slice pa ma ca, .int .i64 kb, .int .i64 nb, .string sb, .slice pb mb cb, .slice pt th.length ct, .slice pe el.length ce] := by rw [hw5]; exact CL.made wr _ _
        have k5 : Keeps (fun _ => False) wr w5 := by rw [hw5]; exact (Keeps.refl _ wr).alloc _
        have z5 : w5.heap.size = wr.heap.size + 1 := by rw [hw5, World.size_alloc]
        rw [← hw5]
        clear hw5
        have kw5 := hB.kp.trans k5
        have y0 := hb5.c 0 _ rfl
        have y1 := hb5.c 1 _ rfl
        have qa : ∀ (j : Nat) (u : Value), [Value.int .i64 ka, .int .i64 na, .string sa, .slice pa ma ca][j]? = some u → w5.cell? ⟨wr.heap.size, 2 + j, none⟩ = some u := fun j u e => by
          refine hb5.c (2 + j) u ?_
          rw [← List.getElem?_drop]
          have hj := (List.getElem?_eq_some_iff.1 e).1
          rw [← e]
          exact List.getElem?_append_left (l₂ := [.int .i64 kb, .int .i64 nb, .string sb, .slice pb mb cb, .slice pt th.length ct, .slice pe el.length ce]) hj
        have qb : ∀ (j : Nat) (u : Value), [Value.int .i64 kb, .int .i64 nb, .string sb, .slice pb mb cb][j]? = some u → w5.cell? ⟨wr.heap.size, 6 + j, none⟩ = some u := fun j u e => by
          refine hb5.c (6 + j) u ?_
          rw [← List.getElem?_drop]
          have hj := (List.getElem?_eq_some_iff.1 e).1
          rw [← e]
          exact List.getElem?_append_left (l₂ := [.slice pt th.length ct, .slice pe el.length ce]) hj
        have hPa : ∀ W, Keeps (fun _ => False) w5 W → _ := fun W kW => ex_all n a (by omega) fa W _ (Ta.keep (kw5.trans kW))
        have hPb : ∀ W, Keeps (fun _ => False) w5 W → _ := fun W kW => ex_all n b (by omega) fb W _ (Tb.keep (kw5.trans kW))
        refine wp_seq_k (fun K2 hK2 => ?_)
        have rest : ∀ (b6 : Nat) (w6 : World) (ka2 na2 : Int) (sa2 : ByteArray) (pa2 : Option Addr) (ma2 ca2 : Nat) (kb2 nb2 : Int) (sb2 : ByteArray) (pb2 : Option Addr) (mb2 cb2 : Nat), CL w6 b6 [.int .i64 k, .string s, .int .i64 ka2, .int .i64 na2, .string sa2, .slice pa2 ma2 ca2, .int .i64 kb2, .int .i64 nb2, .string sb2, .slice pb2 mb2 cb2, .slice none 0 0, .slice none 0 0] → wr.heap.size < b6 → b6 < w6.heap.size → Keeps (fun _ => False) w5 w6 → TC w6 (fun g => wr.heap.size < g ∧ g ≠ b6) 32 a [.int .i64 ka2, .int .i64 na2, .string sa2, .slice pa2 ma2 ca2] → TC w6 (fun g => wr.heap.size < g ∧ g ≠ b6) 32 b [.int .i64 kb2, .int .i64 nb2, .string sb2, .slice pb2 mb2 cb2] → K2 { tmps := #[.slice (some ⟨g, o, none⟩) N c, undef, .slice none 0 0, .slice p' i c', .int .i64 (i : Int), .pointer (some ⟨wr.heap.size, 0, none⟩), .pointer (some ⟨b6, 0, none⟩), .int .i64 (i : Int), .slice (some ⟨g, o, none⟩) N c, .int .i64 (N : Int), .bool true, u11, u12, .slice (some ⟨g, o, none⟩) N c, .int .i64 (i : Int), .pointer (some ⟨g, o + i * 12, none⟩), .agg #[.int .i64 k, .string s, .int .i64 ka, .int .i64 na, .string sa, .slice pa ma ca, .int .i64 kb, .int .i64 nb, .string sb, .slice pb mb cb, .slice pt th.length ct, .slice pe el.length ce], .pointer (some ⟨wr.heap.size, 0, none⟩), .int .i64 k, .pointer (some ⟨wr.heap.size, 1, none⟩), .string s, .pointer (some ⟨wr.heap.size, 2, none⟩), .agg #[.int .i64 ka, .int .i64 na, .string sa, .slice pa ma ca], .agg #[.int .i64 ka2, .int .i64 na2, .string sa2, .slice pa2 ma2 ca2], .pointer (some ⟨wr.heap.size, 6, none⟩), .agg #[.int .i64 kb, .int .i64 nb, .string sb, .slice pb mb cb], .agg #[.int .i64 kb2, .int .i64 nb2, .string sb2, .slice pb2 mb2 cb2], .agg #[.int .i64 k, .string s, .int .i64 ka2, .int .i64 na2, .string sa2, .slice pa2 ma2 ca2, .int .i64 kb2, .int .i64 nb2, .string sb2, .slice pb2 mb2 cb2, .slice none 0 0, .slice none 0 0], u28, u29, u30, u31, u32, u33, u34, u35, u36, u37, u38, u39, undef], defers := [] } w6 := by
          intro b6 w6 ka2 na2 sa2 pa2 ma2 ca2 kb2 nb2 sb2 pb2 mb2 cb2 hb6' zv z6 k56 Va6 Vb6
          have hKI : Hid _ := hK2
          clear hK2
          refine hKI.out _ _ ?_
          clear hKI hPa hPb qa qb y0 y1
          have kw6 := kw5.trans k56
          have hb56 := hb5.keep (by show 0 < 12; decide) k56 (fun e => e)
          have y10 := hb56.c 10 _ rfl
          clear hb5
          have hP7 := IH th (by omega) ft2 ft1 w6 pt ct _ (ot.keep kw6) (xt1.keep kw6)
          refine wp_seq_k (fun K3 hK3 => ?_)
          have hKI : Hid _ := hK3
          clear hK3
          go_wp2_with (first | (go_at_call 4; refine hP7.mono ?_; clear hP7; rintro e w7 ⟨p7, c7, x7, rfl, O7, X7, k7⟩; have hb7 := hb6'.keep (by show 0 < 12; decide) k7 (fun e => e)) | (refine wpList_store_slP rfl rfl _ _ rfl b6 10 rfl p7 th.length c7 rfl hb7 (by show 10 < 12; decide) ?_; intro w8 hb8 k8 zz8))
          refine hKI.out _ _ ?_
          clear hKI
          have hb8' : CL w8 b6 [.int .i64 k, .string s, .int .i64 ka2, .int .i64 na2, .string sa2, .slice pa2 ma2 ca2, .int .i64 kb2, .int .i64 nb2, .string sb2, .slice pb2 mb2 cb2, .slice p7 th.length c7, .slice none 0 0] := hb8
          have z7 := k7.size
          have z8 := k8.size
          have O8 := O7.stay (k8.stay (fun g hg _ e => by have : w6.heap.size ≤ g := hg; omega))
          have X8 := X7.stay (k8.stay (fun g hg _ e => by have : w6.heap.size ≤ g := hg; omega))
          have K8 : Keeps (fun g => g = b6) w6 w8 := (k7.mono (fun _ _ e => e.elim)).trans k8
          have kw8 : Keeps (fun _ => False) w w8 := kw6.trans' K8 (fun _ _ e => e) (fun g hg e => by have := hB.kp.size; omega)
          have y11 := (hb56.keep (by show 0 < 12; decide) K8 (fun e => by omega)).c 11 _ rfl
          clear hb8 hb7 hb6' hb56 O7 X7 k7 k8 zz8 y10
          have hP9 := IH el (by omega) fe2 fe1 w8 pe ce _ (oe.keep kw8) (xe1.keep kw8)
          refine wp_seq_k (fun K4 hK4 => ?_)
          have hKI : Hid _ := hK4
          clear hK4
          go_wp2_with (first | (go_at_call 4; refine hP9.mono ?_; clear hP9; rintro e w9 ⟨p9, c9, x9, rfl, O9, X9, k9⟩; have hb9 := hb8'.keep (by show 0 < 12; decide) k9 (fun e => e)) | (refine wpList_store_slP rfl rfl _ _ rfl b6 11 rfl p9 el.length c9 rfl hb9 (by show 11 < 12; decide) ?_; intro w10 hb10 k10 zz10))
          refine hKI.out _ _ ?_
          clear hKI
          have hb10' : CL w10 b6 [.int .i64 k, .string s, .int .i64 ka2, .int .i64 na2, .string sa2, .slice pa2 ma2 ca2, .int .i64 kb2, .int .i64 nb2, .string sb2, .slice pb2 mb2 cb2, .slice p7 th.length c7, .slice p9 el.length c9] := hb10
          have z9 := k9.size
          have z10 := k10.size
          have O10 := O9.stay (k10.stay (fun g hg _ e => by have : w8.heap.size ≤ g := hg; omega))
          have X10 := X9.stay (k10.stay (fun g hg _ e => by have : w8.heap.size ≤ g := hg; omega))
          have K810 : Keeps (fun g => g = b6) w8 w10 := (k9.mono (fun _ _ e => e.elim)).trans k10
          have K610 := K8.trans K810
          have Kr10 : Keeps (fun g => g = b6) wr w10 := ((k5.trans k56).mono (fun _ _ e => e.elim)).trans K610
          have kw10 : Keeps (fun _ => False) w w10 := kw8.trans' K810 (fun _ _ e => e) (fun g hg e => by have := hB.kp.size; omega)
          have A10 := hB.ac.keep Kr10 (fun g _ hg e => by omega)
          have hown : ∀ b, (Value.slice p' i c').ownBlock = some b → b < wr.heap.size := fun b hb => owns_lt' hB.ac.o.1 b hb
          have zw := hB.kp.size
          have V10 : SC w10 (fun g => w.heap.size ≤ g ∧ ∀ b, (Value.slice p' i c').ownBlock = some b → g ≠ b) 32 34 (.mk k wd a b th el) [.int .i64 k, .string (bs wd), .int .i64 ka2, .int .i64 na2, .string sa2, .slice pa2 ma2 ca2, .int .i64 kb2, .int .i64 nb2, .string sb2, .slice pb2 mb2 cb2, .slice p7 th.length c7, .slice p9 el.length c9] :=
            SC.join hk hw ((Va6.stay (K610.stay (fun g hg _ e => by have := hg.2; omega))).mono (fun g hg => ⟨by have := hg.1; omega, fun b hb => by have := hown b hb; have := hg.1; omega⟩)) ((Vb6.stay (K610.stay (fun g hg _ e => by have := hg.2; omega))).mono (fun g hg => ⟨by have := hg.1; omega, fun b hb => by have := hown b hb; have := hg.1; omega⟩))
              ((O8.stay (K810.stay (fun g hg _ e => by have : w6.heap.size ≤ g := hg; omega))).mono (fun g hg => ⟨by omega, fun b hb => by have := hown b hb; omega⟩)) ((X8.stay (K810.stay (fun g hg _ e => by have : w6.heap.size ≤ g := hg; omega))).mono (fun g hg => ⟨by omega, fun b hb => by have := hown b hb; omega⟩))
              (O10.mono (fun g hg => ⟨by omega, fun b hb => by have := hown b hb; omega⟩)) (X10.mono (fun g hg => ⟨by omega, fun b hb => by have := hown b hb; omega⟩))
          rw [← HS.out] at V10
          obtain ⟨p11, c11, w11, hr11, A11, k11⟩ := A10.add (by omega) (by omega) V10 rfl one12N'
          have kw11 : Keeps (fun _ => False) w w11 := kw10.trans' k11 (fun _ _ e => e) (fun j hj e => by have := hB.ac.o.2 _ e; omega)
          have B11 : PgI w l w11 (i + 1) p11 c11 (ys ++ [.int .i64 k, .string s, .int .i64 ka2, .int .i64 na2, .string sa2, .slice pa2 ma2 ca2, .int .i64 kb2, .int .i64 nb2, .string sb2, .slice pb2 mb2 cb2, .slice p7 th.length c7, .slice p9 el.length c9]) := ⟨kw11, by rw [htk.out]; exact A11⟩
          clear V10 A11 A10 O10 X10 O8 X8 Va6 Vb6 K610 K810 K8 Kr10 hb10 hb9 hb8' k9 k10 zz10 y11 hown kw11 kw10 kw8 kw6
          go_wp2_with (first | (refine wpList_load_runL rfl 34 _ rfl ⟨b6, 0, none⟩ rfl _ (run_ss rfl (cl_at0 hb10')) ?_) | (refine wpList_build1L uSS inSS (by decide) (by decide) rfl _ rfl [.int .i64 k, .string s, .int .i64 ka2, .int .i64 na2, .string sa2, .slice pa2 ma2 ca2, .int .i64 kb2, .int .i64 nb2, .string sb2, .slice pb2 mb2 cb2, .slice p7 th.length c7, .slice p9 el.length c9] rfl rfl ?_; (try simp only [Act.put, List.setIfInBounds_toArray, List.set_cons_zero, List.set_cons_succ])) | (refine wpList_append_tL rfl _ _ 23 rfl _ _ _ w11 rfl rfl hr11 ?_; clear hr11))
          refine hKH.out _ _ ?_
          clear hKH
          go_wp2_with fail
          go_roundw
          case rel => exact ⟨i + 1, p11, c11, _, rfl, by go_num, by omega, B11⟩
          case measure => simp [intOf]; omega
        have restH : Hid _ := rest
        clear rest hK2
        go_wp2_with fail
        refine wp_region_held_drew (S := fun w' => Keeps (fun _ => False) w5 w') (by kernel_rfl) (Keeps.refl _ w5).drew (fun hHeld => ?_)
        refine wpAnyH_take (i := 0) (v := ?_) rfl (by kernel_rfl) (by kernel_rfl) (by kernel_rfl) (fun _ _ _ h => h) (Or.inl ⟨by rfl, ?_⟩) (by assumption) ?_
        rotate_left
        · intro wx hSw; have p0 := hSw.cell y0 (fun e => e); have p1 := hSw.cell y1 (fun e => e); clear hSw; go_simp <;> with_reducible rfl
        (try simp only [List.getElem_toArray]); (try simp only [List.getElem_cons_succ]); (try simp only [List.getElem_cons_zero]); (try simp only [Act.put]); (try simp only [List.setIfInBounds_toArray]); (repeat first | simp only [List.set_cons_succ] | simp only [List.set_cons_zero])
        refine wpAnyH_take (i := 1) (v := ?_) rfl (by kernel_rfl) (by kernel_rfl) (by kernel_rfl) (fun _ _ _ h => h) (Or.inl ⟨by rfl, ?_⟩) (by assumption) ?_
        rotate_left
        · intro wx hSw; have p0 := hSw.cell y0 (fun e => e); have p1 := hSw.cell y1 (fun e => e); clear hSw; go_simp <;> with_reducible rfl
        (try simp only [List.getElem_toArray]); (try simp only [List.getElem_cons_succ]); (try simp only [List.getElem_cons_zero]); (try simp only [Act.put]); (try simp only [List.setIfInBounds_toArray]); (repeat first | simp only [List.set_cons_succ] | simp only [List.set_cons_zero])
        refine wpAnyH_take (i := 2) (v := ?_) rfl (by kernel_rfl) (by kernel_rfl) (by kernel_rfl) (fun _ _ _ h => h) (Or.inl ⟨by rfl, ?_⟩) (by assumption) ?_
        rotate_left
        · intro wx hSw; have p0 := hSw.cell y0 (fun e => e); have p1 := hSw.cell y1 (fun e => e); clear hSw; go_simp <;> with_reducible rfl
        (try simp only [List.getElem_toArray]); (try simp only [List.getElem_cons_succ]); (try simp only [List.getElem_cons_zero]); (try simp only [Act.put]); (try simp only [List.setIfInBounds_toArray]); (repeat first | simp only [List.set_cons_succ] | simp only [List.set_cons_zero])
        refine wpAnyH_take (i := 3) (v := ?_) rfl (by kernel_rfl) (by kernel_rfl) (by kernel_rfl) (fun _ _ _ h => h) (Or.inl ⟨by rfl, ?_⟩) (by assumption) ?_
        rotate_left
        · intro wx hSw; have p0 := hSw.cell y0 (fun e => e); have p1 := hSw.cell y1 (fun e => e); clear hSw; go_simp <;> with_reducible rfl
        (try simp only [List.getElem_toArray]); (try simp only [List.getElem_cons_succ]); (try simp only [List.getElem_cons_zero]); (try simp only [Act.put]); (try simp only [List.setIfInBounds_toArray]); (repeat first | simp only [List.set_cons_succ] | simp only [List.set_cons_zero])
        refine wpAnyH_take (i := 4) (v := ?_) rfl (by kernel_rfl) (by kernel_rfl) (by kernel_rfl) (fun _ _ _ h => h) (Or.inl ⟨by rfl, ?_⟩) (by assumption) ?_
        rotate_left
        · intro wx hSw; have p0 := hSw.cell y0 (fun e => e); have p1 := hSw.cell y1 (fun e => e); clear hSw; go_simp <;> with_reducible rfl
        (try simp only [List.getElem_toArray]); (try simp only [List.getElem_cons_succ]); (try simp only [List.getElem_cons_zero]); (try simp only [Act.put]); (try simp only [List.setIfInBounds_toArray]); (repeat first | simp only [List.set_cons_succ] | simp only [List.set_cons_zero])
        refine wpAnyH_take (i := 5) (v := .agg #[.int .i64 ka, .int .i64 na, .string sa, .slice pa ma ca]) rfl (by kernel_rfl) (by kernel_rfl) (by kernel_rfl) (fun _ _ _ h => h) (Or.inl ⟨by rfl, ?_⟩) (by assumption) ?_
        · intro wx hSw; exact takes_loadR 40 _ rfl ⟨wr.heap.size, 2, none⟩ rfl (run_er (fun j v e => Keeps.cell (S := fun _ => False) hSw (qa j v e) (fun e => e)))
        (try simp only [List.getElem_toArray]); (try simp only [List.getElem_cons_succ]); (try simp only [List.getElem_cons_zero]); (try simp only [Act.put]); (try simp only [List.setIfInBounds_toArray]); (repeat first | simp only [List.set_cons_succ] | simp only [List.set_cons_zero])
        refine wpAnyH_take (i := 7) (v := ?_) rfl (by kernel_rfl) (by kernel_rfl) (by kernel_rfl) (fun _ _ _ h => h) (Or.inl ⟨by rfl, ?_⟩) (by assumption) ?_
        rotate_left
        · intro wx hSw; have p0 := hSw.cell y0 (fun e => e); have p1 := hSw.cell y1 (fun e => e); clear hSw; go_simp <;> with_reducible rfl
        (try simp only [List.getElem_toArray]); (try simp only [List.getElem_cons_succ]); (try simp only [List.getElem_cons_zero]); (try simp only [Act.put]); (try simp only [List.setIfInBounds_toArray]); (repeat first | simp only [List.set_cons_succ] | simp only [List.set_cons_zero])
        refine wpAnyH_take (i := 8) (v := .agg #[.int .i64 kb, .int .i64 nb, .string sb, .slice pb mb cb]) rfl (by kernel_rfl) (by kernel_rfl) (by kernel_rfl) (fun _ _ _ h => h) (Or.inl ⟨by rfl, ?_⟩) (by assumption) ?_
        · intro wx hSw; exact takes_loadR 40 _ rfl ⟨wr.heap.size, 6, none⟩ rfl (run_er (fun j v e => Keeps.cell (S := fun _ => False) hSw (qb j v e) (fun e => e)))
        (try simp only [List.getElem_toArray]); (try simp only [List.getElem_cons_succ]); (try simp only [List.getElem_cons_zero]); (try simp only [Act.put]); (try simp only [List.setIfInBounds_toArray]); (repeat first | simp only [List.set_cons_succ] | simp only [List.set_cons_zero])
        have z0 : w5.drew.heap.size = wr.heap.size + 1 := z5
        refine wpAnyH_two' 6 11 (by kernel_rfl) rfl rfl (by kernel_rfl) (by kernel_rfl) ?_ ?_
        · refine wp_call1 9 _ rfl _ rfl (fun _ _ => rfl) ((hPa w5.drew (Keeps.refl _ w5).drew).mono ?_)
          rintro e v1 ⟨la2, rfl, Va, k1⟩
          obtain ⟨ka2, na2, sa2, pa2, ma2, ca2, rfl⟩ := Va.shapeR
          have k51 : Keeps (fun _ => False) w5 v1 := (Keeps.refl (fun _ => False) w5).drew.trans k1
          refine ⟨_, rfl, k51, fun hS1 => ?_⟩
          (try simp only [List.getElem_toArray]); (try simp only [List.getElem_cons_succ]); (try simp only [List.getElem_cons_zero]); (try simp only [Act.put]); (try simp only [List.setIfInBounds_toArray]); (repeat first | simp only [List.set_cons_succ] | simp only [List.set_cons_zero])
          have zv1 := k1.size
          have hPb2 := hPb v1 k51
          refine wpAnyH_two' 9 11 (by kernel_rfl) rfl rfl (by kernel_rfl) (by kernel_rfl) ?_ ?_
          · refine wp_call1 9 _ rfl _ rfl (fun _ _ => rfl) (hPb2.mono ?_)
            rintro e v2 ⟨lb2, rfl, Vb, k2⟩
            obtain ⟨kb2, nb2, sb2, pb2, mb2, cb2, rfl⟩ := Vb.shapeR
            have k52 : Keeps (fun _ => False) w5 v2 := k51.trans k2
            refine ⟨_, rfl, k52, fun hS2 => ?_⟩
            (try simp only [List.getElem_toArray]); (try simp only [List.getElem_cons_succ]); (try simp only [List.getElem_cons_zero]); (try simp only [Act.put]); (try simp only [List.setIfInBounds_toArray]); (repeat first | simp only [List.set_cons_succ] | simp only [List.set_cons_zero])
            have zv2 := k2.size
            refine wpAnyH_take (i := 10) (v := ?_) rfl (by kernel_rfl) (by kernel_rfl) (by kernel_rfl) (fun _ _ _ h => h) (Or.inl ⟨by rfl, ?_⟩) (by assumption) ?_
            rotate_left
            · intro wx hSw; clear hSw; go_simp <;> with_reducible rfl
            (try simp only [List.getElem_toArray]); (try simp only [List.getElem_cons_succ]); (try simp only [List.getElem_cons_zero]); (try simp only [Act.put]); (try simp only [List.setIfInBounds_toArray]); (repeat first | simp only [List.set_cons_succ] | simp only [List.set_cons_zero])
            have m6 := CL.made v2 zSR 34
            refine wpAnyH_one 11 (by kernel_rfl) rfl rfl ?_
            go_simp
            refine ⟨hS2.alloc _, fun hS3 => ?_⟩
            (try simp only [List.getElem_toArray]); (try simp only [List.getElem_cons_succ]); (try simp only [List.getElem_cons_zero]); (try simp only [Act.put]); (try simp only [List.setIfInBounds_toArray]); (repeat first | simp only [List.set_cons_succ] | simp only [List.set_cons_zero])
            refine wpAnyH_storeR 12 (by kernel_rfl) rfl rfl 34 _ _ rfl (v2.heap.size) 12 _ rfl rfl rfl m6 rfl iRS one12N (fun w1 k => Keeps.trans' (S := fun _ => False) (by assumption) k (fun _ _ e => e) (fun i hi e => by have e : i = v2.heap.size := e; omega)) (fun w6 hb6 k6 hS4 => ?_)
            (try simp only [List.getElem_toArray]); (try simp only [List.getElem_cons_succ]); (try simp only [List.getElem_cons_zero]); (try simp only [Act.put]); (try simp only [List.setIfInBounds_toArray]); (repeat first | simp only [List.set_cons_succ] | simp only [List.set_cons_zero])
            refine wpAnyH_done (by kernel_rfl) ?_ _
            have z6 := k6.size
            (try simp only [World.size_alloc] at z6)
            refine restH.out (v2.heap.size) w6 _ _ _ _ _ _ _ _ _ _ _ _ hb6 (by omega) (by omega) hS4 ?_ ?_
            · exact ((((Va.stay (k2.stay (fun _ _ _ e => e))).lt.stay (((Keeps.refl (fun _ => False) v2).alloc _).stay (fun _ _ _ e => e))).stay (k6.stay (fun g hg _ e => by have := hg.2; omega))).mono (fun g hg => ⟨by have := hg.1; omega, by have := hg.2; omega⟩))
            · exact (((Vb.lt.stay (((Keeps.refl (fun _ => False) v2).alloc _).stay (fun _ _ _ e => e))).stay (k6.stay (fun g hg _ e => by have := hg.2; omega))).mono (fun g hg => ⟨by have := hg.1; omega, by have := hg.2; omega⟩))
          · go_simp
            refine ⟨hS1.alloc _, fun hS2 => ?_⟩
            (try simp only [List.getElem_toArray]); (try simp only [List.getElem_cons_succ]); (try simp only [List.getElem_cons_zero]); (try simp only [Act.put]); (try simp only [List.setIfInBounds_toArray]); (repeat first | simp only [List.set_cons_succ] | simp only [List.set_cons_zero])
            have hPb3 := hPb _ (k51.alloc (.cells #[.int .i64 0, .string { data := #[] }, .int .i64 0, .int .i64 0, .string { data := #[] }, .slice none 0 0, .int .i64 0, .int .i64 0, .string { data := #[] }, .slice none 0 0, .slice none 0 0, .slice none 0 0] 34))
            have m0 : CL (v1.alloc (.cells #[.int .i64 0, .string { data := #[] }, .int .i64 0, .int .i64 0, .string { data := #[] }, .slice none 0 0, .int .i64 0, .int .i64 0, .string { data := #[] }, .slice none 0 0, .slice none 0 0, .slice none 0 0] 34)) v1.heap.size zSR := CL.made v1 zSR 34
            have y1 : Keeps (fun _ => False) v1 (v1.alloc (.cells #[.int .i64 0, .string { data := #[] }, .int .i64 0, .int .i64 0, .string { data := #[] }, .slice none 0 0, .int .i64 0, .int .i64 0, .string { data := #[] }, .slice none 0 0, .slice none 0 0, .slice none 0 0] 34)) := (Keeps.refl _ v1).alloc _
            have y3 : (v1.alloc (.cells #[.int .i64 0, .string { data := #[] }, .int .i64 0, .int .i64 0, .string { data := #[] }, .slice none 0 0, .int .i64 0, .int .i64 0, .string { data := #[] }, .slice none 0 0, .slice none 0 0, .slice none 0 0] 34)).heap.size = v1.heap.size + 1 := World.size_alloc _ _
            have y2 := k51.trans y1
            generalize v1.alloc (.cells #[.int .i64 0, .string { data := #[] }, .int .i64 0, .int .i64 0, .string { data := #[] }, .slice none 0 0, .int .i64 0, .int .i64 0, .string { data := #[] }, .slice none 0 0, .slice none 0 0, .slice none 0 0] 34) = va at *
            refine wpAnyH_one 9 (by kernel_rfl) rfl rfl ?_
            refine wp_call1 9 _ rfl _ rfl (fun _ _ => rfl) (hPb3.mono ?_)
            rintro e v2 ⟨lb2, rfl, Vb, k2⟩
            obtain ⟨kb2, nb2, sb2, pb2, mb2, cb2, rfl⟩ := Vb.shapeR
            have k52 : Keeps (fun _ => False) w5 v2 := y2.trans k2
            refine ⟨_, rfl, k52, fun hS3 => ?_⟩
            (try simp only [List.getElem_toArray]); (try simp only [List.getElem_cons_succ]); (try simp only [List.getElem_cons_zero]); (try simp only [Act.put]); (try simp only [List.setIfInBounds_toArray]); (repeat first | simp only [List.set_cons_succ] | simp only [List.set_cons_zero])
            have zv2 := k2.size
            refine wpAnyH_take (i := 10) (v := ?_) rfl (by kernel_rfl) (by kernel_rfl) (by kernel_rfl) (fun _ _ _ h => h) (Or.inl ⟨by rfl, ?_⟩) (by assumption) ?_
            rotate_left
            · intro wx hSw; clear hSw; go_simp <;> with_reducible rfl
            (try simp only [List.getElem_toArray]); (try simp only [List.getElem_cons_succ]); (try simp only [List.getElem_cons_zero]); (try simp only [Act.put]); (try simp only [List.setIfInBounds_toArray]); (repeat first | simp only [List.set_cons_succ] | simp only [List.set_cons_zero])
            have m6 := m0.keep (by show 0 < 12; decide) k2 (fun e => e)
            refine wpAnyH_storeR 12 (by kernel_rfl) rfl rfl 34 _ _ rfl (v1.heap.size) 12 _ rfl rfl rfl m6 rfl iRS one12N (fun w1 k => Keeps.trans' (S := fun _ => False) (by assumption) k (fun _ _ e => e) (fun i hi e => by have e : i = v1.heap.size := e; omega)) (fun w6 hb6 k6 hS4 => ?_)
            (try simp only [List.getElem_toArray]); (try simp only [List.getElem_cons_succ]); (try simp only [List.getElem_cons_zero]); (try simp only [Act.put]); (try simp only [List.setIfInBounds_toArray]); (repeat first | simp only [List.set_cons_succ] | simp only [List.set_cons_zero])
            refine wpAnyH_done (by kernel_rfl) ?_ _
            have z6 := k6.size
            (try simp only [World.size_alloc] at z6)
            refine restH.out (v1.heap.size) w6 _ _ _ _ _ _ _ _ _ _ _ _ hb6 (by omega) (by omega) hS4 ?_ ?_
            · exact ((((Va.lt.stay (y1.stay (fun _ _ _ e => e))).stay (k2.stay (fun _ _ _ e => e))).stay (k6.stay (fun g hg _ e => by have := hg.2; omega))).mono (fun g hg => ⟨by have := hg.1; omega, by have := hg.2; omega⟩))
            · exact ((Vb.stay (k6.stay (fun g hg _ e => by omega))).mono (fun g hg => ⟨by omega, by omega⟩))
        · go_simp
          refine ⟨hHeld.alloc _, fun hS1 => ?_⟩
          (try simp only [List.getElem_toArray]); (try simp only [List.getElem_cons_succ]); (try simp only [List.getElem_cons_zero]); (try simp only [Act.put]); (try simp only [List.setIfInBounds_toArray]); (repeat first | simp only [List.set_cons_succ] | simp only [List.set_cons_zero])
          have m0 : CL ((w5.alloc (.cells #[.int .i64 0, .string { data := #[] }, .int .i64 0, .int .i64 0, .string { data := #[] }, .slice none 0 0, .int .i64 0, .int .i64 0, .string { data := #[] }, .slice none 0 0, .slice none 0 0, .slice none 0 0] 34)).drew) (wr.heap.size + 1) zSR := by rw [← z5]; exact (CL.made w5 zSR 34).drew
          have y1 : Keeps (fun _ => False) w5 ((w5.alloc (.cells #[.int .i64 0, .string { data := #[] }, .int .i64 0, .int .i64 0, .string { data := #[] }, .slice none 0 0, .int .i64 0, .int .i64 0, .string { data := #[] }, .slice none 0 0, .slice none 0 0, .slice none 0 0] 34)).drew) := ((Keeps.refl _ w5).alloc _).drew
          have y3 : ((w5.alloc (.cells #[.int .i64 0, .string { data := #[] }, .int .i64 0, .int .i64 0, .string { data := #[] }, .slice none 0 0, .int .i64 0, .int .i64 0, .string { data := #[] }, .slice none 0 0, .slice none 0 0, .slice none 0 0] 34)).drew).heap.size = w5.heap.size + 1 := World.size_alloc _ _
          generalize (w5.alloc (.cells #[.int .i64 0, .string { data := #[] }, .int .i64 0, .int .i64 0, .string { data := #[] }, .slice none 0 0, .int .i64 0, .int .i64 0, .string { data := #[] }, .slice none 0 0, .slice none 0 0, .slice none 0 0] 34)).drew = va at *
          refine wpAnyH_one 6 (by kernel_rfl) rfl rfl ?_
          refine wp_call1 9 _ rfl _ rfl (fun _ _ => rfl) ((hPa va y1).mono ?_)
          rintro e v1 ⟨la2, rfl, Va, k1⟩
          obtain ⟨ka2, na2, sa2, pa2, ma2, ca2, rfl⟩ := Va.shapeR
          have k51 : Keeps (fun _ => False) w5 v1 := y1.trans k1
          refine ⟨_, rfl, k51, fun hS2 => ?_⟩
          (try simp only [List.getElem_toArray]); (try simp only [List.getElem_cons_succ]); (try simp only [List.getElem_cons_zero]); (try simp only [Act.put]); (try simp only [List.setIfInBounds_toArray]); (repeat first | simp only [List.set_cons_succ] | simp only [List.set_cons_zero])
          have zv1 := k1.size
          have hPb2 := hPb v1 k51
          refine wpAnyH_one 9 (by kernel_rfl) rfl rfl ?_
          refine wp_call1 9 _ rfl _ rfl (fun _ _ => rfl) (hPb2.mono ?_)
          rintro e v2 ⟨lb2, rfl, Vb, k2⟩
          obtain ⟨kb2, nb2, sb2, pb2, mb2, cb2, rfl⟩ := Vb.shapeR
          have k52 : Keeps (fun _ => False) w5 v2 := k51.trans k2
          refine ⟨_, rfl, k52, fun hS3 => ?_⟩
          (try simp only [List.getElem_toArray]); (try simp only [List.getElem_cons_succ]); (try simp only [List.getElem_cons_zero]); (try simp only [Act.put]); (try simp only [List.setIfInBounds_toArray]); (repeat first | simp only [List.set_cons_succ] | simp only [List.set_cons_zero])
          have zv2 := k2.size
          refine wpAnyH_take (i := 10) (v := ?_) rfl (by kernel_rfl) (by kernel_rfl) (by kernel_rfl) (fun _ _ _ h => h) (Or.inl ⟨by rfl, ?_⟩) (by assumption) ?_
          rotate_left
          · intro wx hSw; clear hSw; go_simp <;> with_reducible rfl
          (try simp only [List.getElem_toArray]); (try simp only [List.getElem_cons_succ]); (try simp only [List.getElem_cons_zero]); (try simp only [Act.put]); (try simp only [List.setIfInBounds_toArray]); (repeat first | simp only [List.set_cons_succ] | simp only [List.set_cons_zero])
          have m6 := (m0.keep (by show 0 < 12; decide) k1 (fun e => e)).keep (by show 0 < 12; decide) k2 (fun e => e)
          refine wpAnyH_storeR 12 (by kernel_rfl) rfl rfl 34 _ _ rfl (wr.heap.size + 1) 12 _ rfl rfl rfl m6 rfl iRS one12N (fun w1 k => Keeps.trans' (S := fun _ => False) (by assumption) k (fun _ _ e => e) (fun i hi e => by have e : i = wr.heap.size + 1 := e; omega)) (fun w6 hb6 k6 hS4 => ?_)
          (try simp only [List.getElem_toArray]); (try simp only [List.getElem_cons_succ]); (try simp only [List.getElem_cons_zero]); (try simp only [Act.put]); (try simp only [List.setIfInBounds_toArray]); (repeat first | simp only [List.set_cons_succ] | simp only [List.set_cons_zero])
          refine wpAnyH_done (by kernel_rfl) ?_ _
          have z6 := k6.size
          (try simp only [World.size_alloc] at z6)
          refine restH.out (wr.heap.size + 1) w6 _ _ _ _ _ _ _ _ _ _ _ _ hb6 (by omega) (by omega) hS4 ?_ ?_
          · exact (((Va.stay (k2.stay (fun _ _ _ e => e))).stay (k6.stay (fun g hg _ e => by omega))).mono (fun g hg => ⟨by omega, by omega⟩))
          · exact ((Vb.stay (k6.stay (fun g hg _ e => by omega))).mono (fun g hg => ⟨by omega, by omega⟩))
      · obtain rfl : i = N := by omega
        have d1 : decide ((i : Int) < (i : Int)) = false := decide_eq_false (by omega)
        have d2 : decide (i < i) = false := decide_eq_false (by omega)
        go_wp2_with fail
        go_ret
        have ep : l.take i = l := by rw [HN.out]; exact List.take_length
        have x9 := hB.ac.x
        rw [ep] at x9
        exact ⟨p', c', ys, rfl, hB.ac.o, x9.mono (fun g hg => hg.1), hB.kp⟩
end Go.Proofs.YtehblpbefkopbaaDoor
