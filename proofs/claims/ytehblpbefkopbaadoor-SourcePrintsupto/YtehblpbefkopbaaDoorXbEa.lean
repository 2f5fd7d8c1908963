import Derived.Test.YtehblpbefkopbaaDoorXbD
namespace Go.Proofs.YtehblpbefkopbaaDoor
open Go.RowKit Go.ChangeShapes Go.WideShapes Go.ChangeAt Go.Deep
attribute [local go_sem] Oper.semAt_some run_store_nf run_store_f
theorem S12.keep {S : Nat → Prop} {W W' : World} {b o : Nat} {k : Int} {wd : Bs} {ka na : Int} {wa : Bs} {pa : Option Addr} {ma ca : Nat} {kb nb : Int} {wb : Bs} {pb : Option Addr} {mb cb : Nat} {pt : Option Addr} {mt ct : Nat} {pe : Option Addr} {me ce : Nat} (h : S12 W b o k wd ka na wa pa ma ca kb nb wb pb mb cb pt mt ct pe me ce) (q : Keeps S W W') (hb : ¬ S b) : S12 W' b o k wd ka na wa pa ma ca kb nb wb pb mb cb pt mt ct pe me ce :=
  ⟨q.cell h.y0 hb, q.cell h.y1 hb, h.ea.keep q hb, h.eb.keep q hb, q.cell h.yt hb, q.cell h.ye hb⟩
theorem okC_okS {w : World} {B : Nat} {k : Int} {b o : Nat} {wd : Bs} {ta tb : Tr} {th el : List St} {ka na : Int} {wa : Bs} {pa : Option Addr} {ma ca : Nat} {kb nb : Int} {wb : Bs} {pb : Option Addr} {mb cb : Nat} {qt : Option Addr} {ct : Nat} {qe : Option Addr} {ce : Nat} {xs ys : List Value} (Sp : SP w B b o k wd ta tb th el ka na wa pa ma ca kb nb wb pb mb cb qt ct qe ce xs ys) : okC k wd (zrC ka na wa ma) (zrC kb nb wb mb) th.length el.length = okS k wd ta tb th.length el.length := by
  unfold okS okC
  rw [Sp.za, Sp.zb]
set_option maxHeartbeats 1000000 in
set_option maxRecDepth 100000 in
theorem stm_wrong {w : World} {B v me ms : Nat} {wr : Bool} {ns : List Bs} {p : Option Addr} {c : Nat} (V : SV w B v me ms wr ns p c) {k : Int} {b o : Nat} {wd : Bs} {ta tb : Tr} {th el : List St} {ka na : Int} {wa : Bs} {pa : Option Addr} {ma ca : Nat} {kb nb : Int} {wb : Bs} {pb : Option Addr} {mb cb : Nat} {qt : Option Addr} {ct : Nat} {qe : Option Addr} {ce : Nat} {xs ys : List Value} (Sp : SP w B b o k wd ta tb th el ka na wa pa ma ca kb nb wb pb mb cb qt ct qe ce xs ys) (hok : okS k wd ta tb th.length el.length = false) : Calls Tryd.prog 40 #[pR v, pA b o] w fun e w' => e = .returned (vlW (mzS (.mk k wd ta tb th el)).1 (mzS (.mk k wd ta tb th el)).2) ∧ SVT w B v me ms ns p c w' (wr || wrS (.mk k wd ta tb th el)) (nmS (.mk k wd ta tb th el) ns) := by
  have ka0 := (Keeps.refl (fun _ => False) w).alloc (.cells zZ.toArray 74)
  have m0 := CL.made w zZ 74
  have Va := V.keep0 ka0
  have hCB := cbs_any (Sp.s.keep ka0 (fun e => e)) Sp.hw Va.g
  rw [okC_okS Sp, hok] at hCB
  have hlw := V.low
  rw [show mzS (.mk k wd ta tb th el) = (0, 0) from by unfold mzS; simp [hok], show wrS (.mk k wd ta tb th el) = true from by unfold wrS; simp [hok], show nmS (.mk k wd ta tb th el) ns = ns from by unfold nmS; simp [hok], Bool.or_true]
  clear hok Sp
  have nv : v ≠ w.heap.size := fun e => by have := (hlw v (.inl rfl)).2; omega
  go_enter Tryd.func40, Tryd.ntmps40
  go_wp2_with (first | (go_at_call 52; refine hCB.mono ?_; rintro e w1 ⟨rfl, k1⟩; have V1 := Va.keep0 k1; have M1 := m0.keep (by show 0 < 2; decide) k1 (fun e => e); clear hCB) | (refine wpList_store_bb rfl rfl _ _ rfl v 0 rfl true rfl V1.cl (by show 0 < 4; decide) ?_; intro w2 c2 k2 z2; clear z2; have M2 := M1.keep (by show 0 < 2; decide) k2 (fun e => nv e.symm)) | (refine wpList_store_cl rfl 74 _ _ rfl w.heap.size 0 2 _ rfl rfl rfl M2 (by show 2 ≤ 2; decide) iSz one2 ?_; intro w9 hc9 k9 zz9; clear zz9))
  have hc6 : CL w9 w.heap.size [.int .i64 0, .int .i64 0] := hc9
  have hrn := run_sz hc6
  refine bodyPost_ret (v := .agg #[.int .i64 0, .int .i64 0]) (by rw [results_cell1 rfl]; simp [asAddr, hrn]) rfl ?_
  have T2 := Va.get3 k1 (V1.wrong c2 k2) (Keeps.refl _ _)
  exact ⟨rfl, SVT.fin V T2 k9⟩
set_option maxHeartbeats 4000000 in
set_option maxRecDepth 100000 in
theorem stm_1 {N : Nat} (IH : CXS N) {w : World} {B v me ms : Nat} {wr : Bool} {ns : List Bs} {p : Option Addr} {c : Nat} (V : SV w B v me ms wr ns p c) {b o : Nat} {wd : Bs} {ta tb : Tr} {th el : List St} (hN : FtE ta ∧ FtE tb ∧ th.length * 184 ≤ 140737488355327 ∧ FtSL th ∧ el.length * 184 ≤ 140737488355327 ∧ FtSL el) {ka na : Int} {wa : Bs} {pa : Option Addr} {ma ca : Nat} {kb nb : Int} {wb : Bs} {pb : Option Addr} {mb cb : Nat} {qt : Option Addr} {ct : Nat} {qe : Option Addr} {ce : Nat} {xs ys : List Value} (Sp : SP w B b o 1 wd ta tb th el ka na wa pa ma ca kb nb wb pb mb cb qt ct qe ce xs ys) (hbg : 1 + bgE ta + bgE tb + bgSL th + bgSL el ≤ N + 1) (hok : okS 1 wd ta tb th.length el.length = true) : Calls Tryd.prog 40 #[pR v, pA b o] w fun e w' => e = .returned (vlW (mzS (.mk 1 wd ta tb th el)).1 (mzS (.mk 1 wd ta tb th el)).2) ∧ SVT w B v me ms ns p c w' (wr || wrS (.mk 1 wd ta tb th el)) (nmS (.mk 1 wd ta tb th el) ns) := by
  have ka0 := (Keeps.refl (fun _ => False) w).alloc (.cells zZ.toArray 74)
  have m0 := CL.made w zZ 74
  have Va := V.keep0 ka0
  have hCB := cbs_any (Sp.s.keep ka0 (fun e => e)) Sp.hw Va.g
  rw [okC_okS Sp, hok] at hCB
  have hlw := V.low
  obtain ⟨a0, ha0⟩ : ∃ a : Nat × Nat, a = (0, 0) := ⟨_, rfl⟩
  have HSZ : Hid (mzS (.mk 1 wd ta tb th el) = undr (wtM (wtM (wtM a0 (mzE ta)) (mzSL th)) (mzSL el))) := by show _ = _; rw [ha0]; unfold mzS; rw [if_pos hok]; simp [usA, usB, wtM_zero, wtM_zero', wtM_nrm]
  have HWR : Hid ((wr || wrS (.mk 1 wd ta tb th el)) = (((wr || wrE ta) || wrSL th) || wrSL el)) := by show _ = _; unfold wrS; rw [if_pos hok]; simp [usA, usB, Bool.or_assoc]
  have HNM : Hid (nmS (.mk 1 wd ta tb th el) ns = nmSL el (nmSL th (nmE ta (nmAdd ns wd)))) := by show _ = _; unfold nmS; rw [if_pos hok]; simp [usA, usB, usW]
  have ba0 : a0.1 = 0 ∧ a0.2 = 0 := by rw [ha0]; exact ⟨rfl, rfl⟩
  clear hok
  go_enter Tryd.func40, Tryd.ntmps40
  refine wp_seq_k (fun K0 h0 => ?_)
  have H0 : Hid _ := h0
  clear h0
  go_wp2_with fail
  refine H0.out _ _ ?_
  clear H0 K0
  refine wp_seq_k (fun K0 h0 => ?_)
  have H0 : Hid _ := h0
  clear h0
  go_wp2_with (go_at_call 52; refine hCB.mono ?_; rintro e w1 ⟨rfl, k1⟩; clear hCB)
  refine H0.out _ _ ?_
  clear H0 K0
  refine wp_seq_k (fun K0 h0 => ?_)
  have H0 : Hid _ := h0
  clear h0
  go_wp2_with fail
  refine H0.out _ _ ?_
  clear H0 K0
  have S0 : SuT w B v me ms (Value.slice p ns.length c).ownBlock w1.heap.size (w1.alloc (.cells zZ.toArray 74)) a0 wr ns p c := by
    have kb := (Keeps.refl (fun _ => False) w1).alloc (.cells zZ.toArray 74)
    have z1 := k1.size
    have z0 : (w.alloc (.cells zZ.toArray 74)).heap.size = w.heap.size + 1 := by simp
    exact ⟨by rw [ha0]; exact CL.made w1 zZ _, (m0.keep (by show 0 < 2; decide) k1 (fun e => e)).keep (by show 0 < 2; decide) kb (fun e => e), (Va.keep0 k1).keep0 kb, ((ka0.trans k1).trans kb).mono (fun _ _ e => e.elim), fun i e => .inl e, hlw, by omega⟩
  obtain ⟨w2, hw2⟩ : ∃ w2, w2 = w1.alloc (.cells zZ.toArray 74) := ⟨_, rfl⟩
  have hw3 : w1.alloc (.cells #[.int .i64 0, .int .i64 0] 74) = w2 := hw2.symm
  rw [hw3]
  rw [← hw2] at S0
  clear hw3 hw2 ha0 k1 Va m0 ka0
  generalize w1.heap.size = x at *
  clear w1
  have hNA := vname_any S0.V wd Sp.hw
  have y0 := S0.cell Sp.s.y0 Sp.lB
  have y1 := S0.cell Sp.s.y1 Sp.lB
  have u0 := S0.cell (show w.cell? ⟨0, 5, none⟩ = some (.bool true) from V.g.us 5 _ rfl) (Nat.lt_of_lt_of_le (by decide) V.lo)
  have u1 := S0.cell (show w.cell? ⟨0, 6, none⟩ = some (.bool true) from V.g.us 6 _ rfl) (Nat.lt_of_lt_of_le (by decide) V.lo)
  have u2 := S0.cell (show w.cell? ⟨0, 7, none⟩ = some (.bool false) from V.g.us 7 _ rfl) (Nat.lt_of_lt_of_le (by decide) V.lo)
  go_wp2_with (go_at_call 53; refine hNA.mono ?_; rintro e w3 ⟨rfl, T3⟩; clear hNA; obtain ⟨p3, c3, S3⟩ := S0.step T3; have y0 := S3.cell Sp.s.y0 Sp.lB; have y1 := S3.cell Sp.s.y1 Sp.lB; have u0 := S3.cell (show w.cell? ⟨0, 5, none⟩ = some (.bool true) from V.g.us 5 _ rfl) (Nat.lt_of_lt_of_le (by decide) V.lo); have u1 := S3.cell (show w.cell? ⟨0, 6, none⟩ = some (.bool true) from V.g.us 6 _ rfl) (Nat.lt_of_lt_of_le (by decide) V.lo); have u2 := S3.cell (show w.cell? ⟨0, 7, none⟩ = some (.bool false) from V.g.us 7 _ rfl) (Nat.lt_of_lt_of_le (by decide) V.lo))
  clear y0 y1 u0 u1 u2
  have Sd := (S3).keep0 ((Keeps.refl (fun _ => False) _).drew)
  have hE := cx_all (bgE ta) ta (Nat.le_refl _) hN.1 _ B v me ms _ _ _ _ b (o + 2) Sd.V (Sp.fa.keep Sd.kp (fun i hi e => by have := Sd.lo i e; omega))
  obtain ⟨a21, ha21⟩ : ∃ q, q = wtM a0 (mzE ta) := ⟨_, rfl⟩
  have ba21 : a21.1 < 9223372036854775808 ∧ a21.2 ≤ 1000000 := by have := mzE_le ta; rw [ha21]; refine ⟨wtM_lt _ _, ?_⟩; unfold wtM; simp only; omega
  refine wp_region_held_drew (S := fun _ => True) (by kernel_rfl) trivial (fun hHeld => ?_)
  refine wpAnyH_take (i := 1) (v := ?_) rfl (by kernel_rfl) (by kernel_rfl) (by kernel_rfl) (fun _ _ _ h => h) (Or.inl ⟨by rfl, ?_⟩) (by assumption) ?_
  rotate_left
  · intro wx hSw; clear hSw; go_simp <;> with_reducible rfl
  (try simp only [gA]); (try simp only [gB]); (try simp only [gC]); (try simp only [Act.put]); (try simp only [gD]); (repeat first | simp only [gE] | simp only [gF])
  refine wpAnyH_take (i := 2) (v := ?_) rfl (by kernel_rfl) (by kernel_rfl) (by kernel_rfl) (fun _ _ _ h => h) (Or.inl ⟨by rfl, ?_⟩) (by assumption) ?_
  rotate_left
  · intro wx hSw; clear hSw; go_simp <;> with_reducible rfl
  (try simp only [gA]); (try simp only [gB]); (try simp only [gC]); (try simp only [Act.put]); (try simp only [gD]); (repeat first | simp only [gE] | simp only [gF])
  refine wpAnyH_take (i := 3) (v := ?_) rfl (by kernel_rfl) (by kernel_rfl) (by kernel_rfl) (fun _ _ _ h => h) (Or.inl ⟨by rfl, ?_⟩) (by assumption) ?_
  rotate_left
  · intro wx hSw; clear hSw; go_simp <;> with_reducible rfl
  (try simp only [gA]); (try simp only [gB]); (try simp only [gC]); (try simp only [Act.put]); (try simp only [gD]); (repeat first | simp only [gE] | simp only [gF])
  refine wpAnyH_take (i := 4) (v := ?_) rfl (by kernel_rfl) (by kernel_rfl) (by kernel_rfl) (fun _ _ _ h => h) (Or.inl ⟨by rfl, ?_⟩) (by assumption) ?_
  rotate_left
  · intro wx hSw; clear hSw; go_simp <;> with_reducible rfl
  (try simp only [gA]); (try simp only [gB]); (try simp only [gC]); (try simp only [Act.put]); (try simp only [gD]); (repeat first | simp only [gE] | simp only [gF])
  refine wpAnyH_two' 0 5 (by kernel_rfl) rfl rfl (by kernel_rfl) (by kernel_rfl) ?_ ?_
  · refine wp_loadK 74 _ rfl ⟨x, 0, none⟩ rfl _ (run_sz Sd.a) ?_
    refine ⟨trivial, fun _ => ?_⟩
    (try simp only [gA]); (try simp only [gB]); (try simp only [gC]); (try simp only [Act.put]); (try simp only [gD]); (repeat first | simp only [gE] | simp only [gF])
    refine wpAnyH_one 5 (by kernel_rfl) rfl rfl ?_
    refine wp_call2 54 _ _ rfl _ _ rfl rfl (fun _ _ => rfl) (hE.mono ?_)
    rintro e w4 ⟨rfl, q1⟩
    obtain ⟨p', c', S1⟩ := Sd.step q1
    refine ⟨_, rfl, trivial, fun _ => ?_⟩
    (try simp only [gA]); (try simp only [gB]); (try simp only [gC]); (try simp only [Act.put]); (try simp only [gD]); (repeat first | simp only [gE] | simp only [gF])
    refine wpAnyH_one 6 (by kernel_rfl) rfl rfl ?_
    refine wp_call2 51 _ _ rfl _ _ rfl rfl (fun _ _ => rfl) ((with_any w4 a0 (mzE ta) (by omega) (by have := mzE_le ta; omega)).mono ?_)
    rintro e w5 ⟨rfl, k2⟩
    rw [← ha21]
    have S2 := S1.keep0 k2
    refine ⟨_, rfl, trivial, fun _ => ?_⟩
    (try simp only [gA]); (try simp only [gB]); (try simp only [gC]); (try simp only [Act.put]); (try simp only [gD]); (repeat first | simp only [gE] | simp only [gF])
    obtain ⟨wq21, hX⟩ : ∃ X, X = w5.setCells x 0 [.int .i64 (a21.1 : Int), .int .i64 (a21.2 : Int)] := ⟨_, rfl⟩
    have kX : Keeps (fun i => i = x) w5 wq21 := by rw [hX]; exact (Keeps.refl (fun i => i = x) w5).setsA _ _
    have cX : CL wq21 x [.int .i64 (a21.1 : Int), .int .i64 (a21.2 : Int)] := by rw [hX]; exact S2.a.sets (o := 0) (by show 0 + 2 ≤ 2; decide)
    refine wpAnyH_store 7 (by kernel_rfl) rfl rfl 74 _ _ rfl x 0 2 #[.int .i64 (a21.1 : Int), .int .i64 (a21.2 : Int)] rfl rfl rfl (S2.a.there (by show 0 + 2 ≤ 2; decide)) iSz one2 trivial (fun _ => ?_)
    (try simp only [gA]); (try simp only [gB]); (try simp only [gC]); (try simp only [Act.put]); (try simp only [gD]); (repeat first | simp only [gE] | simp only [gF])
    refine wpAnyH_done (by kernel_rfl) ?_ _
    have hx10 : w5.setCells x 0 (#[.int .i64 (a21.1 : Int), .int .i64 (a21.2 : Int)] : Array Value).toList = wq21 := hX.symm
    rw [hx10]
    have S21 := S2.box kX cX
    clear hx10 hX cX kX S2 S1 k2 q1 hE
    have y0 := S21.cell Sp.s.y0 Sp.lB
    have y1 := S21.cell Sp.s.y1 Sp.lB
    have u0 := S21.cell (show w.cell? ⟨0, 5, none⟩ = some (.bool true) from V.g.us 5 _ rfl) (Nat.lt_of_lt_of_le (by decide) V.lo)
    have u1 := S21.cell (show w.cell? ⟨0, 6, none⟩ = some (.bool true) from V.g.us 6 _ rfl) (Nat.lt_of_lt_of_le (by decide) V.lo)
    have u2 := S21.cell (show w.cell? ⟨0, 7, none⟩ = some (.bool false) from V.g.us 7 _ rfl) (Nat.lt_of_lt_of_le (by decide) V.lo)
    go_wp2_with fail
    clear y0 y1 u0 u1 u2
    rw [← ha21] at HSZ
    have Sd := (S21).keep0 ((Keeps.refl (fun _ => False) _).drew)
    have yS : Y3 _ x a21 b o qt th.length ct qe el.length ce := ⟨Sd.a, Sd.cell Sp.s.yt Sp.lB, Sd.cell Sp.s.ye Sp.lB⟩
    have hT := css_of IH th (by omega) hN.2.2.2.1 hN.2.2.1 _ B v me ms _ _ _ _ qt ct xs Sd.V (Sp.ot.stay Sd.stay) (Sp.lt.stay Sd.stay)
    have lT := mzSL_le th
    have nT := hN.2.2.1
    have nE := hN.2.2.2.2.1
    have lE := mzSL_le el
    have bA : (a21).1 < 9223372036854775808 ∧ (a21).2 ≤ 4503599627370496 := by omega
    have bT : (mzSL th).1 < 9223372036854775808 ∧ (mzSL th).2 ≤ 4503599627370496 := by omega
    have bL : (mzSL el).1 < 9223372036854775808 ∧ (mzSL el).2 ≤ 4503599627370496 := by omega
    have b16 : (wtM (a21) (mzSL th)).1 < 9223372036854775808 ∧ (wtM (a21) (mzSL th)).2 ≤ 1125899906842624 := ⟨wtM_lt _ _, by unfold wtM; dsimp only; omega⟩
    have bB : (wtM (a21) (mzSL th)).1 < 9223372036854775808 ∧ (wtM (a21) (mzSL th)).2 ≤ 4503599627370496 := ⟨b16.1, Nat.le_trans b16.2 (by decide)⟩
    have b17 : (wtM (wtM (a21) (mzSL th)) (mzSL el)).1 < 9223372036854775808 ∧ (wtM (wtM (a21) (mzSL th)) (mzSL el)).2 ≤ 4503599627370496 := by
        generalize wtM (a21) (mzSL th) = q at *
        exact ⟨wtM_lt _ _, by unfold wtM; dsimp only; omega⟩
    clear b16 lT lE
    refine wp_region_held_drew (S := fun W => Y3 W x a21 b o qt th.length ct qe el.length ce) (by kernel_rfl) yS (fun hHeld => ?_)
    refine wpAnyH_take (i := 0) (v := (.agg #[.int .i64 (a21.1 : Int), .int .i64 (a21.2 : Int)])) rfl (by kernel_rfl) (by kernel_rfl) (by kernel_rfl) (fun _ _ _ h => h) (Or.inl ⟨by rfl, ?_⟩) (by assumption) ?_
    · intro wx hSw; have q0 := hSw.a.c 0 _ rfl; have q1 := hSw.a.c 1 _ rfl; clear hSw; go_simp
    (try simp only [gA]); (try simp only [gB]); (try simp only [gC]); (try simp only [Act.put]); (try simp only [gD]); (repeat first | simp only [gE] | simp only [gF])
    refine wpAnyH_take (i := 1) (v := ?_) rfl (by kernel_rfl) (by kernel_rfl) (by kernel_rfl) (fun _ _ _ h => h) (Or.inl ⟨by rfl, ?_⟩) (by assumption) ?_
    rotate_left
    · intro wx hSw; clear hSw; go_simp <;> with_reducible rfl
    (try simp only [gA]); (try simp only [gB]); (try simp only [gC]); (try simp only [Act.put]); (try simp only [gD]); (repeat first | simp only [gE] | simp only [gF])
    refine wpAnyH_take (i := 2) (v := ?_) rfl (by kernel_rfl) (by kernel_rfl) (by kernel_rfl) (fun _ _ _ h => h) (Or.inl ⟨by rfl, ?_⟩) (by assumption) ?_
    rotate_left
    · intro wx hSw; clear hSw; go_simp <;> with_reducible rfl
    (try simp only [gA]); (try simp only [gB]); (try simp only [gC]); (try simp only [Act.put]); (try simp only [gD]); (repeat first | simp only [gE] | simp only [gF])
    refine wpAnyH_take (i := 3) (v := ?_) rfl (by kernel_rfl) (by kernel_rfl) (by kernel_rfl) (fun _ _ _ h => h) (Or.inl ⟨by rfl, ?_⟩) (by assumption) ?_
    rotate_left
    · intro wx hSw; clear hSw; go_simp <;> with_reducible rfl
    (try simp only [gA]); (try simp only [gB]); (try simp only [gC]); (try simp only [Act.put]); (try simp only [gD]); (repeat first | simp only [gE] | simp only [gF])
    refine wpAnyH_take (i := 4) (v := ?_) rfl (by kernel_rfl) (by kernel_rfl) (by kernel_rfl) (fun _ _ _ h => h) (Or.inl ⟨by rfl, ?_⟩) (by assumption) ?_
    rotate_left
    · intro wx hSw; clear hSw; go_simp <;> with_reducible rfl
    (try simp only [gA]); (try simp only [gB]); (try simp only [gC]); (try simp only [Act.put]); (try simp only [gD]); (repeat first | simp only [gE] | simp only [gF])
    refine wpAnyH_take (i := 5) (v := ?_) rfl (by kernel_rfl) (by kernel_rfl) (by kernel_rfl) (fun _ _ _ h => h) (Or.inl ⟨by rfl, ?_⟩) (by assumption) ?_
    rotate_left
    · intro wx hSw; have q0 := hSw.t; clear hSw; go_simp <;> with_reducible rfl
    (try simp only [gA]); (try simp only [gB]); (try simp only [gC]); (try simp only [Act.put]); (try simp only [gD]); (repeat first | simp only [gE] | simp only [gF])
    refine wpAnyH_take (i := 8) (v := ?_) rfl (by kernel_rfl) (by kernel_rfl) (by kernel_rfl) (fun _ _ _ h => h) (Or.inl ⟨by rfl, ?_⟩) (by assumption) ?_
    rotate_left
    · intro wx hSw; clear hSw; go_simp <;> with_reducible rfl
    (try simp only [gA]); (try simp only [gB]); (try simp only [gC]); (try simp only [Act.put]); (try simp only [gD]); (repeat first | simp only [gE] | simp only [gF])
    refine wpAnyH_take (i := 9) (v := ?_) rfl (by kernel_rfl) (by kernel_rfl) (by kernel_rfl) (fun _ _ _ h => h) (Or.inl ⟨by rfl, ?_⟩) (by assumption) ?_
    rotate_left
    · intro wx hSw; clear hSw; go_simp <;> with_reducible rfl
    (try simp only [gA]); (try simp only [gB]); (try simp only [gC]); (try simp only [Act.put]); (try simp only [gD]); (repeat first | simp only [gE] | simp only [gF])
    refine wpAnyH_take (i := 10) (v := ?_) rfl (by kernel_rfl) (by kernel_rfl) (by kernel_rfl) (fun _ _ _ h => h) (Or.inl ⟨by rfl, ?_⟩) (by assumption) ?_
    rotate_left
    · intro wx hSw; clear hSw; go_simp <;> with_reducible rfl
    (try simp only [gA]); (try simp only [gB]); (try simp only [gC]); (try simp only [Act.put]); (try simp only [gD]); (repeat first | simp only [gE] | simp only [gF])
    refine wpAnyH_take (i := 11) (v := ?_) rfl (by kernel_rfl) (by kernel_rfl) (by kernel_rfl) (fun _ _ _ h => h) (Or.inl ⟨by rfl, ?_⟩) (by assumption) ?_
    rotate_left
    · intro wx hSw; clear hSw; go_simp <;> with_reducible rfl
    (try simp only [gA]); (try simp only [gB]); (try simp only [gC]); (try simp only [Act.put]); (try simp only [gD]); (repeat first | simp only [gE] | simp only [gF])
    refine wpAnyH_take (i := 12) (v := ?_) rfl (by kernel_rfl) (by kernel_rfl) (by kernel_rfl) (fun _ _ _ h => h) (Or.inl ⟨by rfl, ?_⟩) (by assumption) ?_
    rotate_left
    · intro wx hSw; have q0 := hSw.e; clear hSw; go_simp <;> with_reducible rfl
    (try simp only [gA]); (try simp only [gB]); (try simp only [gC]); (try simp only [Act.put]); (try simp only [gD]); (repeat first | simp only [gE] | simp only [gF])
    refine wpAnyH_one 6 (by kernel_rfl) rfl rfl ?_
    refine wp_call2 24 _ _ rfl _ _ rfl rfl (fun _ _ => rfl) (hT.mono ?_)
    rintro e w14 ⟨rfl, q4⟩
    obtain ⟨p14, c14, S14⟩ := Sd.step q4
    have y14 : Y3 w14 x a21 b o qt th.length ct qe el.length ce := ⟨S14.a, S14.cell Sp.s.yt Sp.lB, S14.cell Sp.s.ye Sp.lB⟩
    refine ⟨_, rfl, y14, fun _ => ?_⟩
    (try simp only [gA]); (try simp only [gB]); (try simp only [gC]); (try simp only [Act.put]); (try simp only [gD]); (repeat first | simp only [gE] | simp only [gF])
    refine wpAnyH_one 7 (by kernel_rfl) rfl rfl ?_
    refine wp_call2 51 _ _ rfl _ _ rfl rfl (fun _ _ => rfl) ((with_n w14 a21 (mzSL th) bA bT).mono ?_)
    rintro e w15 ⟨rfl, k5⟩
    have S15 := S14.keep0 k5
    have y15 : Y3 w15 x a21 b o qt th.length ct qe el.length ce := ⟨S15.a, S15.cell Sp.s.yt Sp.lB, S15.cell Sp.s.ye Sp.lB⟩
    refine ⟨_, rfl, y15, fun _ => ?_⟩
    (try simp only [gA]); (try simp only [gB]); (try simp only [gC]); (try simp only [Act.put]); (try simp only [gD]); (repeat first | simp only [gE] | simp only [gF])
    have hE2 := css_of IH el (by omega) hN.2.2.2.2.2 hN.2.2.2.2.1 _ B v me ms _ _ _ _ qe ce ys S15.V (Sp.oe.stay S15.stay) (Sp.le.stay S15.stay)
    refine wpAnyH_one 13 (by kernel_rfl) rfl rfl ?_
    refine wp_call2 24 _ _ rfl _ _ rfl rfl (fun _ _ => rfl) (hE2.mono ?_)
    rintro e w16 ⟨rfl, q6⟩
    obtain ⟨p16, c16, S16⟩ := S15.step q6
    have y16 : Y3 w16 x a21 b o qt th.length ct qe el.length ce := ⟨S16.a, S16.cell Sp.s.yt Sp.lB, S16.cell Sp.s.ye Sp.lB⟩
    refine ⟨_, rfl, y16, fun _ => ?_⟩
    (try simp only [gA]); (try simp only [gB]); (try simp only [gC]); (try simp only [Act.put]); (try simp only [gD]); (repeat first | simp only [gE] | simp only [gF])
    refine wpAnyH_one 14 (by kernel_rfl) rfl rfl ?_
    refine wp_call2 51 _ _ rfl _ _ rfl rfl (fun _ _ => rfl) ((with_n w16 (wtM a21 (mzSL th)) (mzSL el) bB bL).mono ?_)
    rintro e w17 ⟨rfl, k7⟩
    have S17 := S16.keep0 k7
    have y17 : Y3 w17 x a21 b o qt th.length ct qe el.length ce := ⟨S17.a, S17.cell Sp.s.yt Sp.lB, S17.cell Sp.s.ye Sp.lB⟩
    refine ⟨_, rfl, y17, fun _ => ?_⟩
    (try simp only [gA]); (try simp only [gB]); (try simp only [gC]); (try simp only [Act.put]); (try simp only [gD]); (repeat first | simp only [gE] | simp only [gF])
    refine wpAnyH_one 15 (by kernel_rfl) rfl rfl ?_
    refine wp_call1 55 _ rfl _ rfl (fun _ _ => rfl) ((under_any w17 (wtM (wtM a21 (mzSL th)) (mzSL el)) b17).mono ?_)
    rintro e w18 ⟨rfl, k8⟩
    rw [← HSZ.out]
    have S18 := S17.keep0 k8
    have y18 : Y3 w18 x a21 b o qt th.length ct qe el.length ce := ⟨S18.a, S18.cell Sp.s.yt Sp.lB, S18.cell Sp.s.ye Sp.lB⟩
    refine ⟨_, rfl, y18, fun _ => ?_⟩
    (try simp only [gA]); (try simp only [gB]); (try simp only [gC]); (try simp only [Act.put]); (try simp only [gD]); (repeat first | simp only [gE] | simp only [gF])
    obtain ⟨s1, hs1⟩ : ∃ s1, s1 = dI (mzS (.mk 1 wd ta tb th el)).1 := ⟨_, rfl⟩
    obtain ⟨s2, hs2⟩ : ∃ s2, s2 = (mzS (.mk 1 wd ta tb th el)).2 := ⟨_, rfl⟩
    simp only [vlW, ← hs1, ← hs2]
    have kX0 : Keeps (fun i => i = w.heap.size) w18 (w18.setCells w.heap.size 0 [.int .i64 s1, .int .i64 (s2 : Int)]) := (Keeps.refl (fun i => i = w.heap.size) w18).setsA _ _
    have hxx := S18.x
    have yX : Y3 (w18.setCells w.heap.size 0 [.int .i64 s1, .int .i64 (s2 : Int)]) x a21 b o qt th.length ct qe el.length ce := ⟨y18.a.keep (by show 0 < 2; decide) kX0 (fun e => by have e : x = w.heap.size := e; omega), kX0.cell y18.t (fun e => by have e : b = w.heap.size := e; have := V.low v (.inl rfl); have := Sp.lB; omega), kX0.cell y18.e (fun e => by have e : b = w.heap.size := e; have := V.low v (.inl rfl); have := Sp.lB; omega)⟩
    obtain ⟨X, hX⟩ : ∃ X, X = w18.setCells w.heap.size 0 [.int .i64 s1, .int .i64 (s2 : Int)] := ⟨_, rfl⟩
    have kX : Keeps (fun i => i = w.heap.size) w18 X := by rw [hX]; exact kX0
    have cX : CL X w.heap.size [.int .i64 s1, .int .i64 (s2 : Int)] := by rw [hX]; exact S18.r.sets (o := 0) (by show 0 + 2 ≤ 2; decide)
    refine wpAnyH_store 16 (by kernel_rfl) rfl rfl 74 _ _ rfl w.heap.size 0 2 #[.int .i64 s1, .int .i64 (s2 : Int)] rfl rfl rfl (S18.r.there (by show 0 + 2 ≤ 2; decide)) iSz one2 yX (fun _ => ?_)
    (try simp only [gA]); (try simp only [gB]); (try simp only [gC]); (try simp only [Act.put]); (try simp only [gD]); (repeat first | simp only [gE] | simp only [gF])
    refine wpAnyH_done (by kernel_rfl) ?_ _
    have hx10 : w18.setCells w.heap.size 0 (#[.int .i64 s1, .int .i64 (s2 : Int)] : Array Value).toList = X := hX.symm
    rw [hx10]
    have FIN := S18.fin kX
    have hrn := run_sz cX
    clear hx10 hX yX y18 y17 y16 y15 y14 kX0 S17 S16 S15 S14
    go_wp2_with fail
    refine bodyPost_ret (v := .agg #[.int .i64 s1, .int .i64 (s2 : Int)]) (by rw [results_cell1 rfl]; simp [asAddr, hrn]) rfl ?_
    rw [HWR.out, HNM.out]
    exact ⟨by rw [hs1, hs2], FIN⟩
  · refine wp_call2 54 _ _ rfl _ _ rfl rfl (fun _ _ => rfl) (hE.mono ?_)
    rintro e w4 ⟨rfl, q1⟩
    obtain ⟨p', c', S1⟩ := Sd.step q1
    refine ⟨_, rfl, trivial, fun _ => ?_⟩
    (try simp only [gA]); (try simp only [gB]); (try simp only [gC]); (try simp only [Act.put]); (try simp only [gD]); (repeat first | simp only [gE] | simp only [gF])
    refine wpAnyH_one 0 (by kernel_rfl) rfl rfl ?_
    refine wp_loadK 74 _ rfl ⟨x, 0, none⟩ rfl _ (run_sz S1.a) ?_
    refine ⟨trivial, fun _ => ?_⟩
    (try simp only [gA]); (try simp only [gB]); (try simp only [gC]); (try simp only [Act.put]); (try simp only [gD]); (repeat first | simp only [gE] | simp only [gF])
    refine wpAnyH_one 6 (by kernel_rfl) rfl rfl ?_
    refine wp_call2 51 _ _ rfl _ _ rfl rfl (fun _ _ => rfl) ((with_any w4 a0 (mzE ta) (by omega) (by have := mzE_le ta; omega)).mono ?_)
    rintro e w5 ⟨rfl, k2⟩
    rw [← ha21]
    have S2 := S1.keep0 k2
    refine ⟨_, rfl, trivial, fun _ => ?_⟩
    (try simp only [gA]); (try simp only [gB]); (try simp only [gC]); (try simp only [Act.put]); (try simp only [gD]); (repeat first | simp only [gE] | simp only [gF])
    obtain ⟨wq21, hX⟩ : ∃ X, X = w5.setCells x 0 [.int .i64 (a21.1 : Int), .int .i64 (a21.2 : Int)] := ⟨_, rfl⟩
    have kX : Keeps (fun i => i = x) w5 wq21 := by rw [hX]; exact (Keeps.refl (fun i => i = x) w5).setsA _ _
    have cX : CL wq21 x [.int .i64 (a21.1 : Int), .int .i64 (a21.2 : Int)] := by rw [hX]; exact S2.a.sets (o := 0) (by show 0 + 2 ≤ 2; decide)
    refine wpAnyH_store 7 (by kernel_rfl) rfl rfl 74 _ _ rfl x 0 2 #[.int .i64 (a21.1 : Int), .int .i64 (a21.2 : Int)] rfl rfl rfl (S2.a.there (by show 0 + 2 ≤ 2; decide)) iSz one2 trivial (fun _ => ?_)
    (try simp only [gA]); (try simp only [gB]); (try simp only [gC]); (try simp only [Act.put]); (try simp only [gD]); (repeat first | simp only [gE] | simp only [gF])
    refine wpAnyH_done (by kernel_rfl) ?_ _
    have hx10 : w5.setCells x 0 (#[.int .i64 (a21.1 : Int), .int .i64 (a21.2 : Int)] : Array Value).toList = wq21 := hX.symm
    rw [hx10]
    have S21 := S2.box kX cX
    clear hx10 hX cX kX S2 S1 k2 q1 hE
    have y0 := S21.cell Sp.s.y0 Sp.lB
    have y1 := S21.cell Sp.s.y1 Sp.lB
    have u0 := S21.cell (show w.cell? ⟨0, 5, none⟩ = some (.bool true) from V.g.us 5 _ rfl) (Nat.lt_of_lt_of_le (by decide) V.lo)
    have u1 := S21.cell (show w.cell? ⟨0, 6, none⟩ = some (.bool true) from V.g.us 6 _ rfl) (Nat.lt_of_lt_of_le (by decide) V.lo)
    have u2 := S21.cell (show w.cell? ⟨0, 7, none⟩ = some (.bool false) from V.g.us 7 _ rfl) (Nat.lt_of_lt_of_le (by decide) V.lo)
    go_wp2_with fail
    clear y0 y1 u0 u1 u2
    rw [← ha21] at HSZ
    have Sd := (S21).keep0 ((Keeps.refl (fun _ => False) _).drew)
    have yS : Y3 _ x a21 b o qt th.length ct qe el.length ce := ⟨Sd.a, Sd.cell Sp.s.yt Sp.lB, Sd.cell Sp.s.ye Sp.lB⟩
    have hT := css_of IH th (by omega) hN.2.2.2.1 hN.2.2.1 _ B v me ms _ _ _ _ qt ct xs Sd.V (Sp.ot.stay Sd.stay) (Sp.lt.stay Sd.stay)
    have lT := mzSL_le th
    have nT := hN.2.2.1
    have nE := hN.2.2.2.2.1
    have lE := mzSL_le el
    have bA : (a21).1 < 9223372036854775808 ∧ (a21).2 ≤ 4503599627370496 := by omega
    have bT : (mzSL th).1 < 9223372036854775808 ∧ (mzSL th).2 ≤ 4503599627370496 := by omega
    have bL : (mzSL el).1 < 9223372036854775808 ∧ (mzSL el).2 ≤ 4503599627370496 := by omega
    have b16 : (wtM (a21) (mzSL th)).1 < 9223372036854775808 ∧ (wtM (a21) (mzSL th)).2 ≤ 1125899906842624 := ⟨wtM_lt _ _, by unfold wtM; dsimp only; omega⟩
    have bB : (wtM (a21) (mzSL th)).1 < 9223372036854775808 ∧ (wtM (a21) (mzSL th)).2 ≤ 4503599627370496 := ⟨b16.1, Nat.le_trans b16.2 (by decide)⟩
    have b17 : (wtM (wtM (a21) (mzSL th)) (mzSL el)).1 < 9223372036854775808 ∧ (wtM (wtM (a21) (mzSL th)) (mzSL el)).2 ≤ 4503599627370496 := by
        generalize wtM (a21) (mzSL th) = q at *
        exact ⟨wtM_lt _ _, by unfold wtM; dsimp only; omega⟩
    clear b16 lT lE
    refine wp_region_held_drew (S := fun W => Y3 W x a21 b o qt th.length ct qe el.length ce) (by kernel_rfl) yS (fun hHeld => ?_)
    refine wpAnyH_take (i := 0) (v := (.agg #[.int .i64 (a21.1 : Int), .int .i64 (a21.2 : Int)])) rfl (by kernel_rfl) (by kernel_rfl) (by kernel_rfl) (fun _ _ _ h => h) (Or.inl ⟨by rfl, ?_⟩) (by assumption) ?_
    · intro wx hSw; have q0 := hSw.a.c 0 _ rfl; have q1 := hSw.a.c 1 _ rfl; clear hSw; go_simp
    (try simp only [gA]); (try simp only [gB]); (try simp only [gC]); (try simp only [Act.put]); (try simp only [gD]); (repeat first | simp only [gE] | simp only [gF])
    refine wpAnyH_take (i := 1) (v := ?_) rfl (by kernel_rfl) (by kernel_rfl) (by kernel_rfl) (fun _ _ _ h => h) (Or.inl ⟨by rfl, ?_⟩) (by assumption) ?_
    rotate_left
    · intro wx hSw; clear hSw; go_simp <;> with_reducible rfl
    (try simp only [gA]); (try simp only [gB]); (try simp only [gC]); (try simp only [Act.put]); (try simp only [gD]); (repeat first | simp only [gE] | simp only [gF])
    refine wpAnyH_take (i := 2) (v := ?_) rfl (by kernel_rfl) (by kernel_rfl) (by kernel_rfl) (fun _ _ _ h => h) (Or.inl ⟨by rfl, ?_⟩) (by assumption) ?_
    rotate_left
    · intro wx hSw; clear hSw; go_simp <;> with_reducible rfl
    (try simp only [gA]); (try simp only [gB]); (try simp only [gC]); (try simp only [Act.put]); (try simp only [gD]); (repeat first | simp only [gE] | simp only [gF])
    refine wpAnyH_take (i := 3) (v := ?_) rfl (by kernel_rfl) (by kernel_rfl) (by kernel_rfl) (fun _ _ _ h => h) (Or.inl ⟨by rfl, ?_⟩) (by assumption) ?_
    rotate_left
    · intro wx hSw; clear hSw; go_simp <;> with_reducible rfl
    (try simp only [gA]); (try simp only [gB]); (try simp only [gC]); (try simp only [Act.put]); (try simp only [gD]); (repeat first | simp only [gE] | simp only [gF])
    refine wpAnyH_take (i := 4) (v := ?_) rfl (by kernel_rfl) (by kernel_rfl) (by kernel_rfl) (fun _ _ _ h => h) (Or.inl ⟨by rfl, ?_⟩) (by assumption) ?_
    rotate_left
    · intro wx hSw; clear hSw; go_simp <;> with_reducible rfl
    (try simp only [gA]); (try simp only [gB]); (try simp only [gC]); (try simp only [Act.put]); (try simp only [gD]); (repeat first | simp only [gE] | simp only [gF])
    refine wpAnyH_take (i := 5) (v := ?_) rfl (by kernel_rfl) (by kernel_rfl) (by kernel_rfl) (fun _ _ _ h => h) (Or.inl ⟨by rfl, ?_⟩) (by assumption) ?_
    rotate_left
    · intro wx hSw; have q0 := hSw.t; clear hSw; go_simp <;> with_reducible rfl
    (try simp only [gA]); (try simp only [gB]); (try simp only [gC]); (try simp only [Act.put]); (try simp only [gD]); (repeat first | simp only [gE] | simp only [gF])
    refine wpAnyH_take (i := 8) (v := ?_) rfl (by kernel_rfl) (by kernel_rfl) (by kernel_rfl) (fun _ _ _ h => h) (Or.inl ⟨by rfl, ?_⟩) (by assumption) ?_
    rotate_left
    · intro wx hSw; clear hSw; go_simp <;> with_reducible rfl
    (try simp only [gA]); (try simp only [gB]); (try simp only [gC]); (try simp only [Act.put]); (try simp only [gD]); (repeat first | simp only [gE] | simp only [gF])
    refine wpAnyH_take (i := 9) (v := ?_) rfl (by kernel_rfl) (by kernel_rfl) (by kernel_rfl) (fun _ _ _ h => h) (Or.inl ⟨by rfl, ?_⟩) (by assumption) ?_
    rotate_left
    · intro wx hSw; clear hSw; go_simp <;> with_reducible rfl
    (try simp only [gA]); (try simp only [gB]); (try simp only [gC]); (try simp only [Act.put]); (try simp only [gD]); (repeat first | simp only [gE] | simp only [gF])
    refine wpAnyH_take (i := 10) (v := ?_) rfl (by kernel_rfl) (by kernel_rfl) (by kernel_rfl) (fun _ _ _ h => h) (Or.inl ⟨by rfl, ?_⟩) (by assumption) ?_
    rotate_left
    · intro wx hSw; clear hSw; go_simp <;> with_reducible rfl
    (try simp only [gA]); (try simp only [gB]); (try simp only [gC]); (try simp only [Act.put]); (try simp only [gD]); (repeat first | simp only [gE] | simp only [gF])
    refine wpAnyH_take (i := 11) (v := ?_) rfl (by kernel_rfl) (by kernel_rfl) (by kernel_rfl) (fun _ _ _ h => h) (Or.inl ⟨by rfl, ?_⟩) (by assumption) ?_
    rotate_left
    · intro wx hSw; clear hSw; go_simp <;> with_reducible rfl
    (try simp only [gA]); (try simp only [gB]); (try simp only [gC]); (try simp only [Act.put]); (try simp only [gD]); (repeat first | simp only [gE] | simp only [gF])
    refine wpAnyH_take (i := 12) (v := ?_) rfl (by kernel_rfl) (by kernel_rfl) (by kernel_rfl) (fun _ _ _ h => h) (Or.inl ⟨by rfl, ?_⟩) (by assumption) ?_
    rotate_left
    · intro wx hSw; have q0 := hSw.e; clear hSw; go_simp <;> with_reducible rfl
    (try simp only [gA]); (try simp only [gB]); (try simp only [gC]); (try simp only [Act.put]); (try simp only [gD]); (repeat first | simp only [gE] | simp only [gF])
    refine wpAnyH_one 6 (by kernel_rfl) rfl rfl ?_
    refine wp_call2 24 _ _ rfl _ _ rfl rfl (fun _ _ => rfl) (hT.mono ?_)
    rintro e w14 ⟨rfl, q4⟩
    obtain ⟨p14, c14, S14⟩ := Sd.step q4
    have y14 : Y3 w14 x a21 b o qt th.length ct qe el.length ce := ⟨S14.a, S14.cell Sp.s.yt Sp.lB, S14.cell Sp.s.ye Sp.lB⟩
    refine ⟨_, rfl, y14, fun _ => ?_⟩
    (try simp only [gA]); (try simp only [gB]); (try simp only [gC]); (try simp only [Act.put]); (try simp only [gD]); (repeat first | simp only [gE] | simp only [gF])
    refine wpAnyH_one 7 (by kernel_rfl) rfl rfl ?_
    refine wp_call2 51 _ _ rfl _ _ rfl rfl (fun _ _ => rfl) ((with_n w14 a21 (mzSL th) bA bT).mono ?_)
    rintro e w15 ⟨rfl, k5⟩
    have S15 := S14.keep0 k5
    have y15 : Y3 w15 x a21 b o qt th.length ct qe el.length ce := ⟨S15.a, S15.cell Sp.s.yt Sp.lB, S15.cell Sp.s.ye Sp.lB⟩
    refine ⟨_, rfl, y15, fun _ => ?_⟩
    (try simp only [gA]); (try simp only [gB]); (try simp only [gC]); (try simp only [Act.put]); (try simp only [gD]); (repeat first | simp only [gE] | simp only [gF])
    have hE2 := css_of IH el (by omega) hN.2.2.2.2.2 hN.2.2.2.2.1 _ B v me ms _ _ _ _ qe ce ys S15.V (Sp.oe.stay S15.stay) (Sp.le.stay S15.stay)
    refine wpAnyH_one 13 (by kernel_rfl) rfl rfl ?_
    refine wp_call2 24 _ _ rfl _ _ rfl rfl (fun _ _ => rfl) (hE2.mono ?_)
    rintro e w16 ⟨rfl, q6⟩
    obtain ⟨p16, c16, S16⟩ := S15.step q6
    have y16 : Y3 w16 x a21 b o qt th.length ct qe el.length ce := ⟨S16.a, S16.cell Sp.s.yt Sp.lB, S16.cell Sp.s.ye Sp.lB⟩
    refine ⟨_, rfl, y16, fun _ => ?_⟩
    (try simp only [gA]); (try simp only [gB]); (try simp only [gC]); (try simp only [Act.put]); (try simp only [gD]); (repeat first | simp only [gE] | simp only [gF])
    refine wpAnyH_one 14 (by kernel_rfl) rfl rfl ?_
    refine wp_call2 51 _ _ rfl _ _ rfl rfl (fun _ _ => rfl) ((with_n w16 (wtM a21 (mzSL th)) (mzSL el) bB bL).mono ?_)
    rintro e w17 ⟨rfl, k7⟩
    have S17 := S16.keep0 k7
    have y17 : Y3 w17 x a21 b o qt th.length ct qe el.length ce := ⟨S17.a, S17.cell Sp.s.yt Sp.lB, S17.cell Sp.s.ye Sp.lB⟩
    refine ⟨_, rfl, y17, fun _ => ?_⟩
    (try simp only [gA]); (try simp only [gB]); (try simp only [gC]); (try simp only [Act.put]); (try simp only [gD]); (repeat first | simp only [gE] | simp only [gF])
    refine wpAnyH_one 15 (by kernel_rfl) rfl rfl ?_
    refine wp_call1 55 _ rfl _ rfl (fun _ _ => rfl) ((under_any w17 (wtM (wtM a21 (mzSL th)) (mzSL el)) b17).mono ?_)
    rintro e w18 ⟨rfl, k8⟩
    rw [← HSZ.out]
    have S18 := S17.keep0 k8
    have y18 : Y3 w18 x a21 b o qt th.length ct qe el.length ce := ⟨S18.a, S18.cell Sp.s.yt Sp.lB, S18.cell Sp.s.ye Sp.lB⟩
    refine ⟨_, rfl, y18, fun _ => ?_⟩
    (try simp only [gA]); (try simp only [gB]); (try simp only [gC]); (try simp only [Act.put]); (try simp only [gD]); (repeat first | simp only [gE] | simp only [gF])
    obtain ⟨s1, hs1⟩ : ∃ s1, s1 = dI (mzS (.mk 1 wd ta tb th el)).1 := ⟨_, rfl⟩
    obtain ⟨s2, hs2⟩ : ∃ s2, s2 = (mzS (.mk 1 wd ta tb th el)).2 := ⟨_, rfl⟩
    simp only [vlW, ← hs1, ← hs2]
    have kX0 : Keeps (fun i => i = w.heap.size) w18 (w18.setCells w.heap.size 0 [.int .i64 s1, .int .i64 (s2 : Int)]) := (Keeps.refl (fun i => i = w.heap.size) w18).setsA _ _
    have hxx := S18.x
    have yX : Y3 (w18.setCells w.heap.size 0 [.int .i64 s1, .int .i64 (s2 : Int)]) x a21 b o qt th.length ct qe el.length ce := ⟨y18.a.keep (by show 0 < 2; decide) kX0 (fun e => by have e : x = w.heap.size := e; omega), kX0.cell y18.t (fun e => by have e : b = w.heap.size := e; have := V.low v (.inl rfl); have := Sp.lB; omega), kX0.cell y18.e (fun e => by have e : b = w.heap.size := e; have := V.low v (.inl rfl); have := Sp.lB; omega)⟩
    obtain ⟨X, hX⟩ : ∃ X, X = w18.setCells w.heap.size 0 [.int .i64 s1, .int .i64 (s2 : Int)] := ⟨_, rfl⟩
    have kX : Keeps (fun i => i = w.heap.size) w18 X := by rw [hX]; exact kX0
    have cX : CL X w.heap.size [.int .i64 s1, .int .i64 (s2 : Int)] := by rw [hX]; exact S18.r.sets (o := 0) (by show 0 + 2 ≤ 2; decide)
    refine wpAnyH_store 16 (by kernel_rfl) rfl rfl 74 _ _ rfl w.heap.size 0 2 #[.int .i64 s1, .int .i64 (s2 : Int)] rfl rfl rfl (S18.r.there (by show 0 + 2 ≤ 2; decide)) iSz one2 yX (fun _ => ?_)
    (try simp only [gA]); (try simp only [gB]); (try simp only [gC]); (try simp only [Act.put]); (try simp only [gD]); (repeat first | simp only [gE] | simp only [gF])
    refine wpAnyH_done (by kernel_rfl) ?_ _
    have hx10 : w18.setCells w.heap.size 0 (#[.int .i64 s1, .int .i64 (s2 : Int)] : Array Value).toList = X := hX.symm
    rw [hx10]
    have FIN := S18.fin kX
    have hrn := run_sz cX
    clear hx10 hX yX y18 y17 y16 y15 y14 kX0 S17 S16 S15 S14
    go_wp2_with fail
    refine bodyPost_ret (v := .agg #[.int .i64 s1, .int .i64 (s2 : Int)]) (by rw [results_cell1 rfl]; simp [asAddr, hrn]) rfl ?_
    rw [HWR.out, HNM.out]
    exact ⟨by rw [hs1, hs2], FIN⟩
set_option maxHeartbeats 4000000 in
set_option maxRecDepth 100000 in
theorem stm_2 {N : Nat} (IH : CXS N) {w : World} {B v me ms : Nat} {wr : Bool} {ns : List Bs} {p : Option Addr} {c : Nat} (V : SV w B v me ms wr ns p c) {b o : Nat} {wd : Bs} {ta tb : Tr} {th el : List St} (hN : FtE ta ∧ FtE tb ∧ th.length * 184 ≤ 140737488355327 ∧ FtSL th ∧ el.length * 184 ≤ 140737488355327 ∧ FtSL el) {ka na : Int} {wa : Bs} {pa : Option Addr} {ma ca : Nat} {kb nb : Int} {wb : Bs} {pb : Option Addr} {mb cb : Nat} {qt : Option Addr} {ct : Nat} {qe : Option Addr} {ce : Nat} {xs ys : List Value} (Sp : SP w B b o 2 wd ta tb th el ka na wa pa ma ca kb nb wb pb mb cb qt ct qe ce xs ys) (hbg : 1 + bgE ta + bgE tb + bgSL th + bgSL el ≤ N + 1) (hok : okS 2 wd ta tb th.length el.length = true) : Calls Tryd.prog 40 #[pR v, pA b o] w fun e w' => e = .returned (vlW (mzS (.mk 2 wd ta tb th el)).1 (mzS (.mk 2 wd ta tb th el)).2) ∧ SVT w B v me ms ns p c w' (wr || wrS (.mk 2 wd ta tb th el)) (nmS (.mk 2 wd ta tb th el) ns) := by
  have ka0 := (Keeps.refl (fun _ => False) w).alloc (.cells zZ.toArray 74)
  have m0 := CL.made w zZ 74
  have Va := V.keep0 ka0
  have hCB := cbs_any (Sp.s.keep ka0 (fun e => e)) Sp.hw Va.g
  rw [okC_okS Sp, hok] at hCB
  have hlw := V.low
  obtain ⟨a0, ha0⟩ : ∃ a : Nat × Nat, a = (0, 0) := ⟨_, rfl⟩
  have HSZ : Hid (mzS (.mk 2 wd ta tb th el) = undr (wtM (wtM (wtM (wtM a0 (mzE ta)) (mzE tb)) (mzSL th)) (mzSL el))) := by show _ = _; rw [ha0]; unfold mzS; rw [if_pos hok]; simp [usA, usB, wtM_zero, wtM_nrm]
  have HWR : Hid ((wr || wrS (.mk 2 wd ta tb th el)) = ((((wr || wrE ta) || wrE tb) || wrSL th) || wrSL el)) := by show _ = _; unfold wrS; rw [if_pos hok]; simp [usA, usB, Bool.or_assoc]
  have HNM : Hid (nmS (.mk 2 wd ta tb th el) ns = nmSL el (nmSL th (nmE tb (nmE ta (ns))))) := by show _ = _; unfold nmS; rw [if_pos hok]; simp [usA, usB, usW]
  have ba0 : a0.1 = 0 ∧ a0.2 = 0 := by rw [ha0]; exact ⟨rfl, rfl⟩
  clear hok
  go_enter Tryd.func40, Tryd.ntmps40
  refine wp_seq_k (fun K0 h0 => ?_)
  have H0 : Hid _ := h0
  clear h0
  go_wp2_with fail
  refine H0.out _ _ ?_
  clear H0 K0
  refine wp_seq_k (fun K0 h0 => ?_)
  have H0 : Hid _ := h0
  clear h0
  go_wp2_with (go_at_call 52; refine hCB.mono ?_; rintro e w1 ⟨rfl, k1⟩; clear hCB)
  refine H0.out _ _ ?_
  clear H0 K0
  refine wp_seq_k (fun K0 h0 => ?_)
  have H0 : Hid _ := h0
  clear h0
  go_wp2_with fail
  refine H0.out _ _ ?_
  clear H0 K0
  have S0 : SuT w B v me ms (Value.slice p ns.length c).ownBlock w1.heap.size (w1.alloc (.cells zZ.toArray 74)) a0 wr ns p c := by
    have kb := (Keeps.refl (fun _ => False) w1).alloc (.cells zZ.toArray 74)
    have z1 := k1.size
    have z0 : (w.alloc (.cells zZ.toArray 74)).heap.size = w.heap.size + 1 := by simp
    exact ⟨by rw [ha0]; exact CL.made w1 zZ _, (m0.keep (by show 0 < 2; decide) k1 (fun e => e)).keep (by show 0 < 2; decide) kb (fun e => e), (Va.keep0 k1).keep0 kb, ((ka0.trans k1).trans kb).mono (fun _ _ e => e.elim), fun i e => .inl e, hlw, by omega⟩
  obtain ⟨w2, hw2⟩ : ∃ w2, w2 = w1.alloc (.cells zZ.toArray 74) := ⟨_, rfl⟩
  have hw3 : w1.alloc (.cells #[.int .i64 0, .int .i64 0] 74) = w2 := hw2.symm
  rw [hw3]
  rw [← hw2] at S0
  clear hw3 hw2 ha0 k1 Va m0 ka0
  generalize w1.heap.size = x at *
  clear w1
  have y0 := S0.cell Sp.s.y0 Sp.lB
  have y1 := S0.cell Sp.s.y1 Sp.lB
  have u0 := S0.cell (show w.cell? ⟨0, 10, none⟩ = some (.bool false) from V.g.us 10 _ rfl) (Nat.lt_of_lt_of_le (by decide) V.lo)
  have u1 := S0.cell (show w.cell? ⟨0, 11, none⟩ = some (.bool true) from V.g.us 11 _ rfl) (Nat.lt_of_lt_of_le (by decide) V.lo)
  have u2 := S0.cell (show w.cell? ⟨0, 12, none⟩ = some (.bool true) from V.g.us 12 _ rfl) (Nat.lt_of_lt_of_le (by decide) V.lo)
  go_wp2_with fail
  clear y0 y1 u0 u1 u2
  have Sd := (S0).keep0 ((Keeps.refl (fun _ => False) _).drew)
  have hE := cx_all (bgE ta) ta (Nat.le_refl _) hN.1 _ B v me ms _ _ _ _ b (o + 2) Sd.V (Sp.fa.keep Sd.kp (fun i hi e => by have := Sd.lo i e; omega))
  obtain ⟨a21, ha21⟩ : ∃ q, q = wtM a0 (mzE ta) := ⟨_, rfl⟩
  have ba21 : a21.1 < 9223372036854775808 ∧ a21.2 ≤ 1000000 := by have := mzE_le ta; rw [ha21]; refine ⟨wtM_lt _ _, ?_⟩; unfold wtM; simp only; omega
  refine wp_region_held_drew (S := fun _ => True) (by kernel_rfl) trivial (fun hHeld => ?_)
  refine wpAnyH_take (i := 1) (v := ?_) rfl (by kernel_rfl) (by kernel_rfl) (by kernel_rfl) (fun _ _ _ h => h) (Or.inl ⟨by rfl, ?_⟩) (by assumption) ?_
  rotate_left
  · intro wx hSw; clear hSw; go_simp <;> with_reducible rfl
  (try simp only [gA]); (try simp only [gB]); (try simp only [gC]); (try simp only [Act.put]); (try simp only [gD]); (repeat first | simp only [gE] | simp only [gF])
  refine wpAnyH_take (i := 2) (v := ?_) rfl (by kernel_rfl) (by kernel_rfl) (by kernel_rfl) (fun _ _ _ h => h) (Or.inl ⟨by rfl, ?_⟩) (by assumption) ?_
  rotate_left
  · intro wx hSw; clear hSw; go_simp <;> with_reducible rfl
  (try simp only [gA]); (try simp only [gB]); (try simp only [gC]); (try simp only [Act.put]); (try simp only [gD]); (repeat first | simp only [gE] | simp only [gF])
  refine wpAnyH_take (i := 3) (v := ?_) rfl (by kernel_rfl) (by kernel_rfl) (by kernel_rfl) (fun _ _ _ h => h) (Or.inl ⟨by rfl, ?_⟩) (by assumption) ?_
  rotate_left
  · intro wx hSw; clear hSw; go_simp <;> with_reducible rfl
  (try simp only [gA]); (try simp only [gB]); (try simp only [gC]); (try simp only [Act.put]); (try simp only [gD]); (repeat first | simp only [gE] | simp only [gF])
  refine wpAnyH_take (i := 4) (v := ?_) rfl (by kernel_rfl) (by kernel_rfl) (by kernel_rfl) (fun _ _ _ h => h) (Or.inl ⟨by rfl, ?_⟩) (by assumption) ?_
  rotate_left
  · intro wx hSw; clear hSw; go_simp <;> with_reducible rfl
  (try simp only [gA]); (try simp only [gB]); (try simp only [gC]); (try simp only [Act.put]); (try simp only [gD]); (repeat first | simp only [gE] | simp only [gF])
  refine wpAnyH_two' 0 5 (by kernel_rfl) rfl rfl (by kernel_rfl) (by kernel_rfl) ?_ ?_
  · refine wp_loadK 74 _ rfl ⟨x, 0, none⟩ rfl _ (run_sz Sd.a) ?_
    refine ⟨trivial, fun _ => ?_⟩
    (try simp only [gA]); (try simp only [gB]); (try simp only [gC]); (try simp only [Act.put]); (try simp only [gD]); (repeat first | simp only [gE] | simp only [gF])
    refine wpAnyH_one 5 (by kernel_rfl) rfl rfl ?_
    refine wp_call2 54 _ _ rfl _ _ rfl rfl (fun _ _ => rfl) (hE.mono ?_)
    rintro e w4 ⟨rfl, q1⟩
    obtain ⟨p', c', S1⟩ := Sd.step q1
    refine ⟨_, rfl, trivial, fun _ => ?_⟩
    (try simp only [gA]); (try simp only [gB]); (try simp only [gC]); (try simp only [Act.put]); (try simp only [gD]); (repeat first | simp only [gE] | simp only [gF])
    refine wpAnyH_one 6 (by kernel_rfl) rfl rfl ?_
    refine wp_call2 51 _ _ rfl _ _ rfl rfl (fun _ _ => rfl) ((with_any w4 a0 (mzE ta) (by omega) (by have := mzE_le ta; omega)).mono ?_)
    rintro e w5 ⟨rfl, k2⟩
    rw [← ha21]
    have S2 := S1.keep0 k2
    refine ⟨_, rfl, trivial, fun _ => ?_⟩
    (try simp only [gA]); (try simp only [gB]); (try simp only [gC]); (try simp only [Act.put]); (try simp only [gD]); (repeat first | simp only [gE] | simp only [gF])
    obtain ⟨wq21, hX⟩ : ∃ X, X = w5.setCells x 0 [.int .i64 (a21.1 : Int), .int .i64 (a21.2 : Int)] := ⟨_, rfl⟩
    have kX : Keeps (fun i => i = x) w5 wq21 := by rw [hX]; exact (Keeps.refl (fun i => i = x) w5).setsA _ _
    have cX : CL wq21 x [.int .i64 (a21.1 : Int), .int .i64 (a21.2 : Int)] := by rw [hX]; exact S2.a.sets (o := 0) (by show 0 + 2 ≤ 2; decide)
    refine wpAnyH_store 7 (by kernel_rfl) rfl rfl 74 _ _ rfl x 0 2 #[.int .i64 (a21.1 : Int), .int .i64 (a21.2 : Int)] rfl rfl rfl (S2.a.there (by show 0 + 2 ≤ 2; decide)) iSz one2 trivial (fun _ => ?_)
    (try simp only [gA]); (try simp only [gB]); (try simp only [gC]); (try simp only [Act.put]); (try simp only [gD]); (repeat first | simp only [gE] | simp only [gF])
    refine wpAnyH_done (by kernel_rfl) ?_ _
    have hx10 : w5.setCells x 0 (#[.int .i64 (a21.1 : Int), .int .i64 (a21.2 : Int)] : Array Value).toList = wq21 := hX.symm
    rw [hx10]
    have S21 := S2.box kX cX
    clear hx10 hX cX kX S2 S1 k2 q1 hE
    have y0 := S21.cell Sp.s.y0 Sp.lB
    have y1 := S21.cell Sp.s.y1 Sp.lB
    have u0 := S21.cell (show w.cell? ⟨0, 10, none⟩ = some (.bool false) from V.g.us 10 _ rfl) (Nat.lt_of_lt_of_le (by decide) V.lo)
    have u1 := S21.cell (show w.cell? ⟨0, 11, none⟩ = some (.bool true) from V.g.us 11 _ rfl) (Nat.lt_of_lt_of_le (by decide) V.lo)
    have u2 := S21.cell (show w.cell? ⟨0, 12, none⟩ = some (.bool true) from V.g.us 12 _ rfl) (Nat.lt_of_lt_of_le (by decide) V.lo)
    go_wp2_with fail
    clear y0 y1 u0 u1 u2
    have Sd := (S21).keep0 ((Keeps.refl (fun _ => False) _).drew)
    have hE := cx_all (bgE tb) tb (Nat.le_refl _) hN.2.1 _ B v me ms _ _ _ _ b (o + 6) Sd.V (Sp.fb.keep Sd.kp (fun i hi e => by have := Sd.lo i e; omega))
    obtain ⟨a22, ha22⟩ : ∃ q, q = wtM a21 (mzE tb) := ⟨_, rfl⟩
    have ba22 : a22.1 < 9223372036854775808 ∧ a22.2 ≤ 2000000 := by have := mzE_le tb; rw [ha22]; refine ⟨wtM_lt _ _, ?_⟩; unfold wtM; simp only; omega
    refine wp_region_held_drew (S := fun _ => True) (by kernel_rfl) trivial (fun hHeld => ?_)
    refine wpAnyH_take (i := 1) (v := ?_) rfl (by kernel_rfl) (by kernel_rfl) (by kernel_rfl) (fun _ _ _ h => h) (Or.inl ⟨by rfl, ?_⟩) (by assumption) ?_
    rotate_left
    · intro wx hSw; clear hSw; go_simp <;> with_reducible rfl
    (try simp only [gA]); (try simp only [gB]); (try simp only [gC]); (try simp only [Act.put]); (try simp only [gD]); (repeat first | simp only [gE] | simp only [gF])
    refine wpAnyH_take (i := 2) (v := ?_) rfl (by kernel_rfl) (by kernel_rfl) (by kernel_rfl) (fun _ _ _ h => h) (Or.inl ⟨by rfl, ?_⟩) (by assumption) ?_
    rotate_left
    · intro wx hSw; clear hSw; go_simp <;> with_reducible rfl
    (try simp only [gA]); (try simp only [gB]); (try simp only [gC]); (try simp only [Act.put]); (try simp only [gD]); (repeat first | simp only [gE] | simp only [gF])
    refine wpAnyH_take (i := 3) (v := ?_) rfl (by kernel_rfl) (by kernel_rfl) (by kernel_rfl) (fun _ _ _ h => h) (Or.inl ⟨by rfl, ?_⟩) (by assumption) ?_
    rotate_left
    · intro wx hSw; clear hSw; go_simp <;> with_reducible rfl
    (try simp only [gA]); (try simp only [gB]); (try simp only [gC]); (try simp only [Act.put]); (try simp only [gD]); (repeat first | simp only [gE] | simp only [gF])
    refine wpAnyH_take (i := 4) (v := ?_) rfl (by kernel_rfl) (by kernel_rfl) (by kernel_rfl) (fun _ _ _ h => h) (Or.inl ⟨by rfl, ?_⟩) (by assumption) ?_
    rotate_left
    · intro wx hSw; clear hSw; go_simp <;> with_reducible rfl
    (try simp only [gA]); (try simp only [gB]); (try simp only [gC]); (try simp only [Act.put]); (try simp only [gD]); (repeat first | simp only [gE] | simp only [gF])
    refine wpAnyH_two' 0 5 (by kernel_rfl) rfl rfl (by kernel_rfl) (by kernel_rfl) ?_ ?_
    · refine wp_loadK 74 _ rfl ⟨x, 0, none⟩ rfl _ (run_sz Sd.a) ?_
      refine ⟨trivial, fun _ => ?_⟩
      (try simp only [gA]); (try simp only [gB]); (try simp only [gC]); (try simp only [Act.put]); (try simp only [gD]); (repeat first | simp only [gE] | simp only [gF])
      refine wpAnyH_one 5 (by kernel_rfl) rfl rfl ?_
      refine wp_call2 54 _ _ rfl _ _ rfl rfl (fun _ _ => rfl) (hE.mono ?_)
      rintro e w4 ⟨rfl, q1⟩
      obtain ⟨p', c', S1⟩ := Sd.step q1
      refine ⟨_, rfl, trivial, fun _ => ?_⟩
      (try simp only [gA]); (try simp only [gB]); (try simp only [gC]); (try simp only [Act.put]); (try simp only [gD]); (repeat first | simp only [gE] | simp only [gF])
      refine wpAnyH_one 6 (by kernel_rfl) rfl rfl ?_
      refine wp_call2 51 _ _ rfl _ _ rfl rfl (fun _ _ => rfl) ((with_any w4 a21 (mzE tb) (by omega) (by have := mzE_le tb; omega)).mono ?_)
      rintro e w5 ⟨rfl, k2⟩
      rw [← ha22]
      have S2 := S1.keep0 k2
      refine ⟨_, rfl, trivial, fun _ => ?_⟩
      (try simp only [gA]); (try simp only [gB]); (try simp only [gC]); (try simp only [Act.put]); (try simp only [gD]); (repeat first | simp only [gE] | simp only [gF])
      obtain ⟨wq22, hX⟩ : ∃ X, X = w5.setCells x 0 [.int .i64 (a22.1 : Int), .int .i64 (a22.2 : Int)] := ⟨_, rfl⟩
      have kX : Keeps (fun i => i = x) w5 wq22 := by rw [hX]; exact (Keeps.refl (fun i => i = x) w5).setsA _ _
      have cX : CL wq22 x [.int .i64 (a22.1 : Int), .int .i64 (a22.2 : Int)] := by rw [hX]; exact S2.a.sets (o := 0) (by show 0 + 2 ≤ 2; decide)
      refine wpAnyH_store 7 (by kernel_rfl) rfl rfl 74 _ _ rfl x 0 2 #[.int .i64 (a22.1 : Int), .int .i64 (a22.2 : Int)] rfl rfl rfl (S2.a.there (by show 0 + 2 ≤ 2; decide)) iSz one2 trivial (fun _ => ?_)
      (try simp only [gA]); (try simp only [gB]); (try simp only [gC]); (try simp only [Act.put]); (try simp only [gD]); (repeat first | simp only [gE] | simp only [gF])
      refine wpAnyH_done (by kernel_rfl) ?_ _
      have hx10 : w5.setCells x 0 (#[.int .i64 (a22.1 : Int), .int .i64 (a22.2 : Int)] : Array Value).toList = wq22 := hX.symm
      rw [hx10]
      have S22 := S2.box kX cX
      clear hx10 hX cX kX S2 S1 k2 q1 hE
      have y0 := S22.cell Sp.s.y0 Sp.lB
      have y1 := S22.cell Sp.s.y1 Sp.lB
      have u0 := S22.cell (show w.cell? ⟨0, 10, none⟩ = some (.bool false) from V.g.us 10 _ rfl) (Nat.lt_of_lt_of_le (by decide) V.lo)
      have u1 := S22.cell (show w.cell? ⟨0, 11, none⟩ = some (.bool true) from V.g.us 11 _ rfl) (Nat.lt_of_lt_of_le (by decide) V.lo)
      have u2 := S22.cell (show w.cell? ⟨0, 12, none⟩ = some (.bool true) from V.g.us 12 _ rfl) (Nat.lt_of_lt_of_le (by decide) V.lo)
      go_wp2_with fail
      clear y0 y1 u0 u1 u2
      rw [← ha21, ← ha22] at HSZ
      have Sd := (S22).keep0 ((Keeps.refl (fun _ => False) _).drew)
      have yS : Y3 _ x a22 b o qt th.length ct qe el.length ce := ⟨Sd.a, Sd.cell Sp.s.yt Sp.lB, Sd.cell Sp.s.ye Sp.lB⟩
      have hT := css_of IH th (by omega) hN.2.2.2.1 hN.2.2.1 _ B v me ms _ _ _ _ qt ct xs Sd.V (Sp.ot.stay Sd.stay) (Sp.lt.stay Sd.stay)
      have lT := mzSL_le th
      have nT := hN.2.2.1
      have nE := hN.2.2.2.2.1
      have lE := mzSL_le el
      have bA : (a22).1 < 9223372036854775808 ∧ (a22).2 ≤ 4503599627370496 := by omega
      have bT : (mzSL th).1 < 9223372036854775808 ∧ (mzSL th).2 ≤ 4503599627370496 := by omega
      have bL : (mzSL el).1 < 9223372036854775808 ∧ (mzSL el).2 ≤ 4503599627370496 := by omega
      have b16 : (wtM (a22) (mzSL th)).1 < 9223372036854775808 ∧ (wtM (a22) (mzSL th)).2 ≤ 1125899906842624 := ⟨wtM_lt _ _, by unfold wtM; dsimp only; omega⟩
      have bB : (wtM (a22) (mzSL th)).1 < 9223372036854775808 ∧ (wtM (a22) (mzSL th)).2 ≤ 4503599627370496 := ⟨b16.1, Nat.le_trans b16.2 (by decide)⟩
      have b17 : (wtM (wtM (a22) (mzSL th)) (mzSL el)).1 < 9223372036854775808 ∧ (wtM (wtM (a22) (mzSL th)) (mzSL el)).2 ≤ 4503599627370496 := by
        generalize wtM (a22) (mzSL th) = q at *
        exact ⟨wtM_lt _ _, by unfold wtM; dsimp only; omega⟩
      clear b16 lT lE
      refine wp_region_held_drew (S := fun W => Y3 W x a22 b o qt th.length ct qe el.length ce) (by kernel_rfl) yS (fun hHeld => ?_)
      refine wpAnyH_take (i := 0) (v := (.agg #[.int .i64 (a22.1 : Int), .int .i64 (a22.2 : Int)])) rfl (by kernel_rfl) (by kernel_rfl) (by kernel_rfl) (fun _ _ _ h => h) (Or.inl ⟨by rfl, ?_⟩) (by assumption) ?_
      · intro wx hSw; have q0 := hSw.a.c 0 _ rfl; have q1 := hSw.a.c 1 _ rfl; clear hSw; go_simp
      (try simp only [gA]); (try simp only [gB]); (try simp only [gC]); (try simp only [Act.put]); (try simp only [gD]); (repeat first | simp only [gE] | simp only [gF])
      refine wpAnyH_take (i := 1) (v := ?_) rfl (by kernel_rfl) (by kernel_rfl) (by kernel_rfl) (fun _ _ _ h => h) (Or.inl ⟨by rfl, ?_⟩) (by assumption) ?_
      rotate_left
      · intro wx hSw; clear hSw; go_simp <;> with_reducible rfl
      (try simp only [gA]); (try simp only [gB]); (try simp only [gC]); (try simp only [Act.put]); (try simp only [gD]); (repeat first | simp only [gE] | simp only [gF])
      refine wpAnyH_take (i := 2) (v := ?_) rfl (by kernel_rfl) (by kernel_rfl) (by kernel_rfl) (fun _ _ _ h => h) (Or.inl ⟨by rfl, ?_⟩) (by assumption) ?_
      rotate_left
      · intro wx hSw; clear hSw; go_simp <;> with_reducible rfl
      (try simp only [gA]); (try simp only [gB]); (try simp only [gC]); (try simp only [Act.put]); (try simp only [gD]); (repeat first | simp only [gE] | simp only [gF])
      refine wpAnyH_take (i := 3) (v := ?_) rfl (by kernel_rfl) (by kernel_rfl) (by kernel_rfl) (fun _ _ _ h => h) (Or.inl ⟨by rfl, ?_⟩) (by assumption) ?_
      rotate_left
      · intro wx hSw; clear hSw; go_simp <;> with_reducible rfl
      (try simp only [gA]); (try simp only [gB]); (try simp only [gC]); (try simp only [Act.put]); (try simp only [gD]); (repeat first | simp only [gE] | simp only [gF])
      refine wpAnyH_take (i := 4) (v := ?_) rfl (by kernel_rfl) (by kernel_rfl) (by kernel_rfl) (fun _ _ _ h => h) (Or.inl ⟨by rfl, ?_⟩) (by assumption) ?_
      rotate_left
      · intro wx hSw; clear hSw; go_simp <;> with_reducible rfl
      (try simp only [gA]); (try simp only [gB]); (try simp only [gC]); (try simp only [Act.put]); (try simp only [gD]); (repeat first | simp only [gE] | simp only [gF])
      refine wpAnyH_take (i := 5) (v := ?_) rfl (by kernel_rfl) (by kernel_rfl) (by kernel_rfl) (fun _ _ _ h => h) (Or.inl ⟨by rfl, ?_⟩) (by assumption) ?_
      rotate_left
      · intro wx hSw; have q0 := hSw.t; clear hSw; go_simp <;> with_reducible rfl
      (try simp only [gA]); (try simp only [gB]); (try simp only [gC]); (try simp only [Act.put]); (try simp only [gD]); (repeat first | simp only [gE] | simp only [gF])
      refine wpAnyH_take (i := 8) (v := ?_) rfl (by kernel_rfl) (by kernel_rfl) (by kernel_rfl) (fun _ _ _ h => h) (Or.inl ⟨by rfl, ?_⟩) (by assumption) ?_
      rotate_left
      · intro wx hSw; clear hSw; go_simp <;> with_reducible rfl
      (try simp only [gA]); (try simp only [gB]); (try simp only [gC]); (try simp only [Act.put]); (try simp only [gD]); (repeat first | simp only [gE] | simp only [gF])
      refine wpAnyH_take (i := 9) (v := ?_) rfl (by kernel_rfl) (by kernel_rfl) (by kernel_rfl) (fun _ _ _ h => h) (Or.inl ⟨by rfl, ?_⟩) (by assumption) ?_
      rotate_left
      · intro wx hSw; clear hSw; go_simp <;> with_reducible rfl
      (try simp only [gA]); (try simp only [gB]); (try simp only [gC]); (try simp only [Act.put]); (try simp only [gD]); (repeat first | simp only [gE] | simp only [gF])
      refine wpAnyH_take (i := 10) (v := ?_) rfl (by kernel_rfl) (by kernel_rfl) (by kernel_rfl) (fun _ _ _ h => h) (Or.inl ⟨by rfl, ?_⟩) (by assumption) ?_
      rotate_left
      · intro wx hSw; clear hSw; go_simp <;> with_reducible rfl
      (try simp only [gA]); (try simp only [gB]); (try simp only [gC]); (try simp only [Act.put]); (try simp only [gD]); (repeat first | simp only [gE] | simp only [gF])
      refine wpAnyH_take (i := 11) (v := ?_) rfl (by kernel_rfl) (by kernel_rfl) (by kernel_rfl) (fun _ _ _ h => h) (Or.inl ⟨by rfl, ?_⟩) (by assumption) ?_
      rotate_left
      · intro wx hSw; clear hSw; go_simp <;> with_reducible rfl
      (try simp only [gA]); (try simp only [gB]); (try simp only [gC]); (try simp only [Act.put]); (try simp only [gD]); (repeat first | simp only [gE] | simp only [gF])
      refine wpAnyH_take (i := 12) (v := ?_) rfl (by kernel_rfl) (by kernel_rfl) (by kernel_rfl) (fun _ _ _ h => h) (Or.inl ⟨by rfl, ?_⟩) (by assumption) ?_
      rotate_left
      · intro wx hSw; have q0 := hSw.e; clear hSw; go_simp <;> with_reducible rfl
      (try simp only [gA]); (try simp only [gB]); (try simp only [gC]); (try simp only [Act.put]); (try simp only [gD]); (repeat first | simp only [gE] | simp only [gF])
      refine wpAnyH_one 6 (by kernel_rfl) rfl rfl ?_
      refine wp_call2 24 _ _ rfl _ _ rfl rfl (fun _ _ => rfl) (hT.mono ?_)
      rintro e w14 ⟨rfl, q4⟩
      obtain ⟨p14, c14, S14⟩ := Sd.step q4
      have y14 : Y3 w14 x a22 b o qt th.length ct qe el.length ce := ⟨S14.a, S14.cell Sp.s.yt Sp.lB, S14.cell Sp.s.ye Sp.lB⟩
      refine ⟨_, rfl, y14, fun _ => ?_⟩
      (try simp only [gA]); (try simp only [gB]); (try simp only [gC]); (try simp only [Act.put]); (try simp only [gD]); (repeat first | simp only [gE] | simp only [gF])
      refine wpAnyH_one 7 (by kernel_rfl) rfl rfl ?_
      refine wp_call2 51 _ _ rfl _ _ rfl rfl (fun _ _ => rfl) ((with_n w14 a22 (mzSL th) bA bT).mono ?_)
      rintro e w15 ⟨rfl, k5⟩
      have S15 := S14.keep0 k5
      have y15 : Y3 w15 x a22 b o qt th.length ct qe el.length ce := ⟨S15.a, S15.cell Sp.s.yt Sp.lB, S15.cell Sp.s.ye Sp.lB⟩
      refine ⟨_, rfl, y15, fun _ => ?_⟩
      (try simp only [gA]); (try simp only [gB]); (try simp only [gC]); (try simp only [Act.put]); (try simp only [gD]); (repeat first | simp only [gE] | simp only [gF])
      have hE2 := css_of IH el (by omega) hN.2.2.2.2.2 hN.2.2.2.2.1 _ B v me ms _ _ _ _ qe ce ys S15.V (Sp.oe.stay S15.stay) (Sp.le.stay S15.stay)
      refine wpAnyH_one 13 (by kernel_rfl) rfl rfl ?_
      refine wp_call2 24 _ _ rfl _ _ rfl rfl (fun _ _ => rfl) (hE2.mono ?_)
      rintro e w16 ⟨rfl, q6⟩
      obtain ⟨p16, c16, S16⟩ := S15.step q6
      have y16 : Y3 w16 x a22 b o qt th.length ct qe el.length ce := ⟨S16.a, S16.cell Sp.s.yt Sp.lB, S16.cell Sp.s.ye Sp.lB⟩
      refine ⟨_, rfl, y16, fun _ => ?_⟩
      (try simp only [gA]); (try simp only [gB]); (try simp only [gC]); (try simp only [Act.put]); (try simp only [gD]); (repeat first | simp only [gE] | simp only [gF])
      refine wpAnyH_one 14 (by kernel_rfl) rfl rfl ?_
      refine wp_call2 51 _ _ rfl _ _ rfl rfl (fun _ _ => rfl) ((with_n w16 (wtM a22 (mzSL th)) (mzSL el) bB bL).mono ?_)
      rintro e w17 ⟨rfl, k7⟩
      have S17 := S16.keep0 k7
      have y17 : Y3 w17 x a22 b o qt th.length ct qe el.length ce := ⟨S17.a, S17.cell Sp.s.yt Sp.lB, S17.cell Sp.s.ye Sp.lB⟩
      refine ⟨_, rfl, y17, fun _ => ?_⟩
      (try simp only [gA]); (try simp only [gB]); (try simp only [gC]); (try simp only [Act.put]); (try simp only [gD]); (repeat first | simp only [gE] | simp only [gF])
      refine wpAnyH_one 15 (by kernel_rfl) rfl rfl ?_
      refine wp_call1 55 _ rfl _ rfl (fun _ _ => rfl) ((under_any w17 (wtM (wtM a22 (mzSL th)) (mzSL el)) b17).mono ?_)
      rintro e w18 ⟨rfl, k8⟩
      rw [← HSZ.out]
      have S18 := S17.keep0 k8
      have y18 : Y3 w18 x a22 b o qt th.length ct qe el.length ce := ⟨S18.a, S18.cell Sp.s.yt Sp.lB, S18.cell Sp.s.ye Sp.lB⟩
      refine ⟨_, rfl, y18, fun _ => ?_⟩
      (try simp only [gA]); (try simp only [gB]); (try simp only [gC]); (try simp only [Act.put]); (try simp only [gD]); (repeat first | simp only [gE] | simp only [gF])
      obtain ⟨s1, hs1⟩ : ∃ s1, s1 = dI (mzS (.mk 2 wd ta tb th el)).1 := ⟨_, rfl⟩
      obtain ⟨s2, hs2⟩ : ∃ s2, s2 = (mzS (.mk 2 wd ta tb th el)).2 := ⟨_, rfl⟩
      simp only [vlW, ← hs1, ← hs2]
      have kX0 : Keeps (fun i => i = w.heap.size) w18 (w18.setCells w.heap.size 0 [.int .i64 s1, .int .i64 (s2 : Int)]) := (Keeps.refl (fun i => i = w.heap.size) w18).setsA _ _
      have hxx := S18.x
      have yX : Y3 (w18.setCells w.heap.size 0 [.int .i64 s1, .int .i64 (s2 : Int)]) x a22 b o qt th.length ct qe el.length ce := ⟨y18.a.keep (by show 0 < 2; decide) kX0 (fun e => by have e : x = w.heap.size := e; omega), kX0.cell y18.t (fun e => by have e : b = w.heap.size := e; have := V.low v (.inl rfl); have := Sp.lB; omega), kX0.cell y18.e (fun e => by have e : b = w.heap.size := e; have := V.low v (.inl rfl); have := Sp.lB; omega)⟩
      obtain ⟨X, hX⟩ : ∃ X, X = w18.setCells w.heap.size 0 [.int .i64 s1, .int .i64 (s2 : Int)] := ⟨_, rfl⟩
      have kX : Keeps (fun i => i = w.heap.size) w18 X := by rw [hX]; exact kX0
      have cX : CL X w.heap.size [.int .i64 s1, .int .i64 (s2 : Int)] := by rw [hX]; exact S18.r.sets (o := 0) (by show 0 + 2 ≤ 2; decide)
      refine wpAnyH_store 16 (by kernel_rfl) rfl rfl 74 _ _ rfl w.heap.size 0 2 #[.int .i64 s1, .int .i64 (s2 : Int)] rfl rfl rfl (S18.r.there (by show 0 + 2 ≤ 2; decide)) iSz one2 yX (fun _ => ?_)
      (try simp only [gA]); (try simp only [gB]); (try simp only [gC]); (try simp only [Act.put]); (try simp only [gD]); (repeat first | simp only [gE] | simp only [gF])
      refine wpAnyH_done (by kernel_rfl) ?_ _
      have hx10 : w18.setCells w.heap.size 0 (#[.int .i64 s1, .int .i64 (s2 : Int)] : Array Value).toList = X := hX.symm
      rw [hx10]
      have FIN := S18.fin kX
      have hrn := run_sz cX
      clear hx10 hX yX y18 y17 y16 y15 y14 kX0 S17 S16 S15 S14
      go_wp2_with fail
      refine bodyPost_ret (v := .agg #[.int .i64 s1, .int .i64 (s2 : Int)]) (by rw [results_cell1 rfl]; simp [asAddr, hrn]) rfl ?_
      rw [HWR.out, HNM.out]
      exact ⟨by rw [hs1, hs2], FIN⟩
    · refine wp_call2 54 _ _ rfl _ _ rfl rfl (fun _ _ => rfl) (hE.mono ?_)
      rintro e w4 ⟨rfl, q1⟩
      obtain ⟨p', c', S1⟩ := Sd.step q1
      refine ⟨_, rfl, trivial, fun _ => ?_⟩
      (try simp only [gA]); (try simp only [gB]); (try simp only [gC]); (try simp only [Act.put]); (try simp only [gD]); (repeat first | simp only [gE] | simp only [gF])
      refine wpAnyH_one 0 (by kernel_rfl) rfl rfl ?_
      refine wp_loadK 74 _ rfl ⟨x, 0, none⟩ rfl _ (run_sz S1.a) ?_
      refine ⟨trivial, fun _ => ?_⟩
      (try simp only [gA]); (try simp only [gB]); (try simp only [gC]); (try simp only [Act.put]); (try simp only [gD]); (repeat first | simp only [gE] | simp only [gF])
      refine wpAnyH_one 6 (by kernel_rfl) rfl rfl ?_
      refine wp_call2 51 _ _ rfl _ _ rfl rfl (fun _ _ => rfl) ((with_any w4 a21 (mzE tb) (by omega) (by have := mzE_le tb; omega)).mono ?_)
      rintro e w5 ⟨rfl, k2⟩
      rw [← ha22]
      have S2 := S1.keep0 k2
      refine ⟨_, rfl, trivial, fun _ => ?_⟩
      (try simp only [gA]); (try simp only [gB]); (try simp only [gC]); (try simp only [Act.put]); (try simp only [gD]); (repeat first | simp only [gE] | simp only [gF])
      obtain ⟨wq22, hX⟩ : ∃ X, X = w5.setCells x 0 [.int .i64 (a22.1 : Int), .int .i64 (a22.2 : Int)] := ⟨_, rfl⟩
      have kX : Keeps (fun i => i = x) w5 wq22 := by rw [hX]; exact (Keeps.refl (fun i => i = x) w5).setsA _ _
      have cX : CL wq22 x [.int .i64 (a22.1 : Int), .int .i64 (a22.2 : Int)] := by rw [hX]; exact S2.a.sets (o := 0) (by show 0 + 2 ≤ 2; decide)
      refine wpAnyH_store 7 (by kernel_rfl) rfl rfl 74 _ _ rfl x 0 2 #[.int .i64 (a22.1 : Int), .int .i64 (a22.2 : Int)] rfl rfl rfl (S2.a.there (by show 0 + 2 ≤ 2; decide)) iSz one2 trivial (fun _ => ?_)
      (try simp only [gA]); (try simp only [gB]); (try simp only [gC]); (try simp only [Act.put]); (try simp only [gD]); (repeat first | simp only [gE] | simp only [gF])
      refine wpAnyH_done (by kernel_rfl) ?_ _
      have hx10 : w5.setCells x 0 (#[.int .i64 (a22.1 : Int), .int .i64 (a22.2 : Int)] : Array Value).toList = wq22 := hX.symm
      rw [hx10]
      have S22 := S2.box kX cX
      clear hx10 hX cX kX S2 S1 k2 q1 hE
      have y0 := S22.cell Sp.s.y0 Sp.lB
      have y1 := S22.cell Sp.s.y1 Sp.lB
      have u0 := S22.cell (show w.cell? ⟨0, 10, none⟩ = some (.bool false) from V.g.us 10 _ rfl) (Nat.lt_of_lt_of_le (by decide) V.lo)
      have u1 := S22.cell (show w.cell? ⟨0, 11, none⟩ = some (.bool true) from V.g.us 11 _ rfl) (Nat.lt_of_lt_of_le (by decide) V.lo)
      have u2 := S22.cell (show w.cell? ⟨0, 12, none⟩ = some (.bool true) from V.g.us 12 _ rfl) (Nat.lt_of_lt_of_le (by decide) V.lo)
      go_wp2_with fail
      clear y0 y1 u0 u1 u2
      rw [← ha21, ← ha22] at HSZ
      have Sd := (S22).keep0 ((Keeps.refl (fun _ => False) _).drew)
      have yS : Y3 _ x a22 b o qt th.length ct qe el.length ce := ⟨Sd.a, Sd.cell Sp.s.yt Sp.lB, Sd.cell Sp.s.ye Sp.lB⟩
      have hT := css_of IH th (by omega) hN.2.2.2.1 hN.2.2.1 _ B v me ms _ _ _ _ qt ct xs Sd.V (Sp.ot.stay Sd.stay) (Sp.lt.stay Sd.stay)
      have lT := mzSL_le th
      have nT := hN.2.2.1
      have nE := hN.2.2.2.2.1
      have lE := mzSL_le el
      have bA : (a22).1 < 9223372036854775808 ∧ (a22).2 ≤ 4503599627370496 := by omega
      have bT : (mzSL th).1 < 9223372036854775808 ∧ (mzSL th).2 ≤ 4503599627370496 := by omega
      have bL : (mzSL el).1 < 9223372036854775808 ∧ (mzSL el).2 ≤ 4503599627370496 := by omega
      have b16 : (wtM (a22) (mzSL th)).1 < 9223372036854775808 ∧ (wtM (a22) (mzSL th)).2 ≤ 1125899906842624 := ⟨wtM_lt _ _, by unfold wtM; dsimp only; omega⟩
      have bB : (wtM (a22) (mzSL th)).1 < 9223372036854775808 ∧ (wtM (a22) (mzSL th)).2 ≤ 4503599627370496 := ⟨b16.1, Nat.le_trans b16.2 (by decide)⟩
      have b17 : (wtM (wtM (a22) (mzSL th)) (mzSL el)).1 < 9223372036854775808 ∧ (wtM (wtM (a22) (mzSL th)) (mzSL el)).2 ≤ 4503599627370496 := by
        generalize wtM (a22) (mzSL th) = q at *
        exact ⟨wtM_lt _ _, by unfold wtM; dsimp only; omega⟩
      clear b16 lT lE
      refine wp_region_held_drew (S := fun W => Y3 W x a22 b o qt th.length ct qe el.length ce) (by kernel_rfl) yS (fun hHeld => ?_)
      refine wpAnyH_take (i := 0) (v := (.agg #[.int .i64 (a22.1 : Int), .int .i64 (a22.2 : Int)])) rfl (by kernel_rfl) (by kernel_rfl) (by kernel_rfl) (fun _ _ _ h => h) (Or.inl ⟨by rfl, ?_⟩) (by assumption) ?_
      · intro wx hSw; have q0 := hSw.a.c 0 _ rfl; have q1 := hSw.a.c 1 _ rfl; clear hSw; go_simp
      (try simp only [gA]); (try simp only [gB]); (try simp only [gC]); (try simp only [Act.put]); (try simp only [gD]); (repeat first | simp only [gE] | simp only [gF])
      refine wpAnyH_take (i := 1) (v := ?_) rfl (by kernel_rfl) (by kernel_rfl) (by kernel_rfl) (fun _ _ _ h => h) (Or.inl ⟨by rfl, ?_⟩) (by assumption) ?_
      rotate_left
      · intro wx hSw; clear hSw; go_simp <;> with_reducible rfl
      (try simp only [gA]); (try simp only [gB]); (try simp only [gC]); (try simp only [Act.put]); (try simp only [gD]); (repeat first | simp only [gE] | simp only [gF])
      refine wpAnyH_take (i := 2) (v := ?_) rfl (by kernel_rfl) (by kernel_rfl) (by kernel_rfl) (fun _ _ _ h => h) (Or.inl ⟨by rfl, ?_⟩) (by assumption) ?_
      rotate_left
      · intro wx hSw; clear hSw; go_simp <;> with_reducible rfl
      (try simp only [gA]); (try simp only [gB]); (try simp only [gC]); (try simp only [Act.put]); (try simp only [gD]); (repeat first | simp only [gE] | simp only [gF])
      refine wpAnyH_take (i := 3) (v := ?_) rfl (by kernel_rfl) (by kernel_rfl) (by kernel_rfl) (fun _ _ _ h => h) (Or.inl ⟨by rfl, ?_⟩) (by assumption) ?_
      rotate_left
      · intro wx hSw; clear hSw; go_simp <;> with_reducible rfl
      (try simp only [gA]); (try simp only [gB]); (try simp only [gC]); (try simp only [Act.put]); (try simp only [gD]); (repeat first | simp only [gE] | simp only [gF])
      refine wpAnyH_take (i := 4) (v := ?_) rfl (by kernel_rfl) (by kernel_rfl) (by kernel_rfl) (fun _ _ _ h => h) (Or.inl ⟨by rfl, ?_⟩) (by assumption) ?_
      rotate_left
      · intro wx hSw; clear hSw; go_simp <;> with_reducible rfl
      (try simp only [gA]); (try simp only [gB]); (try simp only [gC]); (try simp only [Act.put]); (try simp only [gD]); (repeat first | simp only [gE] | simp only [gF])
      refine wpAnyH_take (i := 5) (v := ?_) rfl (by kernel_rfl) (by kernel_rfl) (by kernel_rfl) (fun _ _ _ h => h) (Or.inl ⟨by rfl, ?_⟩) (by assumption) ?_
      rotate_left
      · intro wx hSw; have q0 := hSw.t; clear hSw; go_simp <;> with_reducible rfl
      (try simp only [gA]); (try simp only [gB]); (try simp only [gC]); (try simp only [Act.put]); (try simp only [gD]); (repeat first | simp only [gE] | simp only [gF])
      refine wpAnyH_take (i := 8) (v := ?_) rfl (by kernel_rfl) (by kernel_rfl) (by kernel_rfl) (fun _ _ _ h => h) (Or.inl ⟨by rfl, ?_⟩) (by assumption) ?_
      rotate_left
      · intro wx hSw; clear hSw; go_simp <;> with_reducible rfl
      (try simp only [gA]); (try simp only [gB]); (try simp only [gC]); (try simp only [Act.put]); (try simp only [gD]); (repeat first | simp only [gE] | simp only [gF])
      refine wpAnyH_take (i := 9) (v := ?_) rfl (by kernel_rfl) (by kernel_rfl) (by kernel_rfl) (fun _ _ _ h => h) (Or.inl ⟨by rfl, ?_⟩) (by assumption) ?_
      rotate_left
      · intro wx hSw; clear hSw; go_simp <;> with_reducible rfl
      (try simp only [gA]); (try simp only [gB]); (try simp only [gC]); (try simp only [Act.put]); (try simp only [gD]); (repeat first | simp only [gE] | simp only [gF])
      refine wpAnyH_take (i := 10) (v := ?_) rfl (by kernel_rfl) (by kernel_rfl) (by kernel_rfl) (fun _ _ _ h => h) (Or.inl ⟨by rfl, ?_⟩) (by assumption) ?_
      rotate_left
      · intro wx hSw; clear hSw; go_simp <;> with_reducible rfl
      (try simp only [gA]); (try simp only [gB]); (try simp only [gC]); (try simp only [Act.put]); (try simp only [gD]); (repeat first | simp only [gE] | simp only [gF])
      refine wpAnyH_take (i := 11) (v := ?_) rfl (by kernel_rfl) (by kernel_rfl) (by kernel_rfl) (fun _ _ _ h => h) (Or.inl ⟨by rfl, ?_⟩) (by assumption) ?_
      rotate_left
      · intro wx hSw; clear hSw; go_simp <;> with_reducible rfl
      (try simp only [gA]); (try simp only [gB]); (try simp only [gC]); (try simp only [Act.put]); (try simp only [gD]); (repeat first | simp only [gE] | simp only [gF])
      refine wpAnyH_take (i := 12) (v := ?_) rfl (by kernel_rfl) (by kernel_rfl) (by kernel_rfl) (fun _ _ _ h => h) (Or.inl ⟨by rfl, ?_⟩) (by assumption) ?_
      rotate_left
      · intro wx hSw; have q0 := hSw.e; clear hSw; go_simp <;> with_reducible rfl
      (try simp only [gA]); (try simp only [gB]); (try simp only [gC]); (try simp only [Act.put]); (try simp only [gD]); (repeat first | simp only [gE] | simp only [gF])
      refine wpAnyH_one 6 (by kernel_rfl) rfl rfl ?_
      refine wp_call2 24 _ _ rfl _ _ rfl rfl (fun _ _ => rfl) (hT.mono ?_)
      rintro e w14 ⟨rfl, q4⟩
      obtain ⟨p14, c14, S14⟩ := Sd.step q4
      have y14 : Y3 w14 x a22 b o qt th.length ct qe el.length ce := ⟨S14.a, S14.cell Sp.s.yt Sp.lB, S14.cell Sp.s.ye Sp.lB⟩
      refine ⟨_, rfl, y14, fun _ => ?_⟩
      (try simp only [gA]); (try simp only [gB]); (try simp only [gC]); (try simp only [Act.put]); (try simp only [gD]); (repeat first | simp only [gE] | simp only [gF])
      refine wpAnyH_one 7 (by kernel_rfl) rfl rfl ?_
      refine wp_call2 51 _ _ rfl _ _ rfl rfl (fun _ _ => rfl) ((with_n w14 a22 (mzSL th) bA bT).mono ?_)
      rintro e w15 ⟨rfl, k5⟩
      have S15 := S14.keep0 k5
      have y15 : Y3 w15 x a22 b o qt th.length ct qe el.length ce := ⟨S15.a, S15.cell Sp.s.yt Sp.lB, S15.cell Sp.s.ye Sp.lB⟩
      refine ⟨_, rfl, y15, fun _ => ?_⟩
      (try simp only [gA]); (try simp only [gB]); (try simp only [gC]); (try simp only [Act.put]); (try simp only [gD]); (repeat first | simp only [gE] | simp only [gF])
      have hE2 := css_of IH el (by omega) hN.2.2.2.2.2 hN.2.2.2.2.1 _ B v me ms _ _ _ _ qe ce ys S15.V (Sp.oe.stay S15.stay) (Sp.le.stay S15.stay)
      refine wpAnyH_one 13 (by kernel_rfl) rfl rfl ?_
      refine wp_call2 24 _ _ rfl _ _ rfl rfl (fun _ _ => rfl) (hE2.mono ?_)
      rintro e w16 ⟨rfl, q6⟩
      obtain ⟨p16, c16, S16⟩ := S15.step q6
      have y16 : Y3 w16 x a22 b o qt th.length ct qe el.length ce := ⟨S16.a, S16.cell Sp.s.yt Sp.lB, S16.cell Sp.s.ye Sp.lB⟩
      refine ⟨_, rfl, y16, fun _ => ?_⟩
      (try simp only [gA]); (try simp only [gB]); (try simp only [gC]); (try simp only [Act.put]); (try simp only [gD]); (repeat first | simp only [gE] | simp only [gF])
      refine wpAnyH_one 14 (by kernel_rfl) rfl rfl ?_
      refine wp_call2 51 _ _ rfl _ _ rfl rfl (fun _ _ => rfl) ((with_n w16 (wtM a22 (mzSL th)) (mzSL el) bB bL).mono ?_)
      rintro e w17 ⟨rfl, k7⟩
      have S17 := S16.keep0 k7
      have y17 : Y3 w17 x a22 b o qt th.length ct qe el.length ce := ⟨S17.a, S17.cell Sp.s.yt Sp.lB, S17.cell Sp.s.ye Sp.lB⟩
      refine ⟨_, rfl, y17, fun _ => ?_⟩
      (try simp only [gA]); (try simp only [gB]); (try simp only [gC]); (try simp only [Act.put]); (try simp only [gD]); (repeat first | simp only [gE] | simp only [gF])
      refine wpAnyH_one 15 (by kernel_rfl) rfl rfl ?_
      refine wp_call1 55 _ rfl _ rfl (fun _ _ => rfl) ((under_any w17 (wtM (wtM a22 (mzSL th)) (mzSL el)) b17).mono ?_)
      rintro e w18 ⟨rfl, k8⟩
      rw [← HSZ.out]
      have S18 := S17.keep0 k8
      have y18 : Y3 w18 x a22 b o qt th.length ct qe el.length ce := ⟨S18.a, S18.cell Sp.s.yt Sp.lB, S18.cell Sp.s.ye Sp.lB⟩
      refine ⟨_, rfl, y18, fun _ => ?_⟩
      (try simp only [gA]); (try simp only [gB]); (try simp only [gC]); (try simp only [Act.put]); (try simp only [gD]); (repeat first | simp only [gE] | simp only [gF])
      obtain ⟨s1, hs1⟩ : ∃ s1, s1 = dI (mzS (.mk 2 wd ta tb th el)).1 := ⟨_, rfl⟩
      obtain ⟨s2, hs2⟩ : ∃ s2, s2 = (mzS (.mk 2 wd ta tb th el)).2 := ⟨_, rfl⟩
      simp only [vlW, ← hs1, ← hs2]
      have kX0 : Keeps (fun i => i = w.heap.size) w18 (w18.setCells w.heap.size 0 [.int .i64 s1, .int .i64 (s2 : Int)]) := (Keeps.refl (fun i => i = w.heap.size) w18).setsA _ _
      have hxx := S18.x
      have yX : Y3 (w18.setCells w.heap.size 0 [.int .i64 s1, .int .i64 (s2 : Int)]) x a22 b o qt th.length ct qe el.length ce := ⟨y18.a.keep (by show 0 < 2; decide) kX0 (fun e => by have e : x = w.heap.size := e; omega), kX0.cell y18.t (fun e => by have e : b = w.heap.size := e; have := V.low v (.inl rfl); have := Sp.lB; omega), kX0.cell y18.e (fun e => by have e : b = w.heap.size := e; have := V.low v (.inl rfl); have := Sp.lB; omega)⟩
      obtain ⟨X, hX⟩ : ∃ X, X = w18.setCells w.heap.size 0 [.int .i64 s1, .int .i64 (s2 : Int)] := ⟨_, rfl⟩
      have kX : Keeps (fun i => i = w.heap.size) w18 X := by rw [hX]; exact kX0
      have cX : CL X w.heap.size [.int .i64 s1, .int .i64 (s2 : Int)] := by rw [hX]; exact S18.r.sets (o := 0) (by show 0 + 2 ≤ 2; decide)
      refine wpAnyH_store 16 (by kernel_rfl) rfl rfl 74 _ _ rfl w.heap.size 0 2 #[.int .i64 s1, .int .i64 (s2 : Int)] rfl rfl rfl (S18.r.there (by show 0 + 2 ≤ 2; decide)) iSz one2 yX (fun _ => ?_)
      (try simp only [gA]); (try simp only [gB]); (try simp only [gC]); (try simp only [Act.put]); (try simp only [gD]); (repeat first | simp only [gE] | simp only [gF])
      refine wpAnyH_done (by kernel_rfl) ?_ _
      have hx10 : w18.setCells w.heap.size 0 (#[.int .i64 s1, .int .i64 (s2 : Int)] : Array Value).toList = X := hX.symm
      rw [hx10]
      have FIN := S18.fin kX
      have hrn := run_sz cX
      clear hx10 hX yX y18 y17 y16 y15 y14 kX0 S17 S16 S15 S14
      go_wp2_with fail
      refine bodyPost_ret (v := .agg #[.int .i64 s1, .int .i64 (s2 : Int)]) (by rw [results_cell1 rfl]; simp [asAddr, hrn]) rfl ?_
      rw [HWR.out, HNM.out]
      exact ⟨by rw [hs1, hs2], FIN⟩
  · refine wp_call2 54 _ _ rfl _ _ rfl rfl (fun _ _ => rfl) (hE.mono ?_)
    rintro e w4 ⟨rfl, q1⟩
    obtain ⟨p', c', S1⟩ := Sd.step q1
    refine ⟨_, rfl, trivial, fun _ => ?_⟩
    (try simp only [gA]); (try simp only [gB]); (try simp only [gC]); (try simp only [Act.put]); (try simp only [gD]); (repeat first | simp only [gE] | simp only [gF])
    refine wpAnyH_one 0 (by kernel_rfl) rfl rfl ?_
    refine wp_loadK 74 _ rfl ⟨x, 0, none⟩ rfl _ (run_sz S1.a) ?_
    refine ⟨trivial, fun _ => ?_⟩
    (try simp only [gA]); (try simp only [gB]); (try simp only [gC]); (try simp only [Act.put]); (try simp only [gD]); (repeat first | simp only [gE] | simp only [gF])
    refine wpAnyH_one 6 (by kernel_rfl) rfl rfl ?_
    refine wp_call2 51 _ _ rfl _ _ rfl rfl (fun _ _ => rfl) ((with_any w4 a0 (mzE ta) (by omega) (by have := mzE_le ta; omega)).mono ?_)
    rintro e w5 ⟨rfl, k2⟩
    rw [← ha21]
    have S2 := S1.keep0 k2
    refine ⟨_, rfl, trivial, fun _ => ?_⟩
    (try simp only [gA]); (try simp only [gB]); (try simp only [gC]); (try simp only [Act.put]); (try simp only [gD]); (repeat first | simp only [gE] | simp only [gF])
    obtain ⟨wq21, hX⟩ : ∃ X, X = w5.setCells x 0 [.int .i64 (a21.1 : Int), .int .i64 (a21.2 : Int)] := ⟨_, rfl⟩
    have kX : Keeps (fun i => i = x) w5 wq21 := by rw [hX]; exact (Keeps.refl (fun i => i = x) w5).setsA _ _
    have cX : CL wq21 x [.int .i64 (a21.1 : Int), .int .i64 (a21.2 : Int)] := by rw [hX]; exact S2.a.sets (o := 0) (by show 0 + 2 ≤ 2; decide)
    refine wpAnyH_store 7 (by kernel_rfl) rfl rfl 74 _ _ rfl x 0 2 #[.int .i64 (a21.1 : Int), .int .i64 (a21.2 : Int)] rfl rfl rfl (S2.a.there (by show 0 + 2 ≤ 2; decide)) iSz one2 trivial (fun _ => ?_)
    (try simp only [gA]); (try simp only [gB]); (try simp only [gC]); (try simp only [Act.put]); (try simp only [gD]); (repeat first | simp only [gE] | simp only [gF])
    refine wpAnyH_done (by kernel_rfl) ?_ _
    have hx10 : w5.setCells x 0 (#[.int .i64 (a21.1 : Int), .int .i64 (a21.2 : Int)] : Array Value).toList = wq21 := hX.symm
    rw [hx10]
    have S21 := S2.box kX cX
    clear hx10 hX cX kX S2 S1 k2 q1 hE
    have y0 := S21.cell Sp.s.y0 Sp.lB
    have y1 := S21.cell Sp.s.y1 Sp.lB
    have u0 := S21.cell (show w.cell? ⟨0, 10, none⟩ = some (.bool false) from V.g.us 10 _ rfl) (Nat.lt_of_lt_of_le (by decide) V.lo)
    have u1 := S21.cell (show w.cell? ⟨0, 11, none⟩ = some (.bool true) from V.g.us 11 _ rfl) (Nat.lt_of_lt_of_le (by decide) V.lo)
    have u2 := S21.cell (show w.cell? ⟨0, 12, none⟩ = some (.bool true) from V.g.us 12 _ rfl) (Nat.lt_of_lt_of_le (by decide) V.lo)
    go_wp2_with fail
    clear y0 y1 u0 u1 u2
    have Sd := (S21).keep0 ((Keeps.refl (fun _ => False) _).drew)
    have hE := cx_all (bgE tb) tb (Nat.le_refl _) hN.2.1 _ B v me ms _ _ _ _ b (o + 6) Sd.V (Sp.fb.keep Sd.kp (fun i hi e => by have := Sd.lo i e; omega))
    obtain ⟨a22, ha22⟩ : ∃ q, q = wtM a21 (mzE tb) := ⟨_, rfl⟩
    have ba22 : a22.1 < 9223372036854775808 ∧ a22.2 ≤ 2000000 := by have := mzE_le tb; rw [ha22]; refine ⟨wtM_lt _ _, ?_⟩; unfold wtM; simp only; omega
    refine wp_region_held_drew (S := fun _ => True) (by kernel_rfl) trivial (fun hHeld => ?_)
    refine wpAnyH_take (i := 1) (v := ?_) rfl (by kernel_rfl) (by kernel_rfl) (by kernel_rfl) (fun _ _ _ h => h) (Or.inl ⟨by rfl, ?_⟩) (by assumption) ?_
    rotate_left
    · intro wx hSw; clear hSw; go_simp <;> with_reducible rfl
    (try simp only [gA]); (try simp only [gB]); (try simp only [gC]); (try simp only [Act.put]); (try simp only [gD]); (repeat first | simp only [gE] | simp only [gF])
    refine wpAnyH_take (i := 2) (v := ?_) rfl (by kernel_rfl) (by kernel_rfl) (by kernel_rfl) (fun _ _ _ h => h) (Or.inl ⟨by rfl, ?_⟩) (by assumption) ?_
    rotate_left
    · intro wx hSw; clear hSw; go_simp <;> with_reducible rfl
    (try simp only [gA]); (try simp only [gB]); (try simp only [gC]); (try simp only [Act.put]); (try simp only [gD]); (repeat first | simp only [gE] | simp only [gF])
    refine wpAnyH_take (i := 3) (v := ?_) rfl (by kernel_rfl) (by kernel_rfl) (by kernel_rfl) (fun _ _ _ h => h) (Or.inl ⟨by rfl, ?_⟩) (by assumption) ?_
    rotate_left
    · intro wx hSw; clear hSw; go_simp <;> with_reducible rfl
    (try simp only [gA]); (try simp only [gB]); (try simp only [gC]); (try simp only [Act.put]); (try simp only [gD]); (repeat first | simp only [gE] | simp only [gF])
    refine wpAnyH_take (i := 4) (v := ?_) rfl (by kernel_rfl) (by kernel_rfl) (by kernel_rfl) (fun _ _ _ h => h) (Or.inl ⟨by rfl, ?_⟩) (by assumption) ?_
    rotate_left
    · intro wx hSw; clear hSw; go_simp <;> with_reducible rfl
    (try simp only [gA]); (try simp only [gB]); (try simp only [gC]); (try simp only [Act.put]); (try simp only [gD]); (repeat first | simp only [gE] | simp only [gF])
    refine wpAnyH_two' 0 5 (by kernel_rfl) rfl rfl (by kernel_rfl) (by kernel_rfl) ?_ ?_
    · refine wp_loadK 74 _ rfl ⟨x, 0, none⟩ rfl _ (run_sz Sd.a) ?_
      refine ⟨trivial, fun _ => ?_⟩
      (try simp only [gA]); (try simp only [gB]); (try simp only [gC]); (try simp only [Act.put]); (try simp only [gD]); (repeat first | simp only [gE] | simp only [gF])
      refine wpAnyH_one 5 (by kernel_rfl) rfl rfl ?_
      refine wp_call2 54 _ _ rfl _ _ rfl rfl (fun _ _ => rfl) (hE.mono ?_)
      rintro e w4 ⟨rfl, q1⟩
      obtain ⟨p', c', S1⟩ := Sd.step q1
      refine ⟨_, rfl, trivial, fun _ => ?_⟩
      (try simp only [gA]); (try simp only [gB]); (try simp only [gC]); (try simp only [Act.put]); (try simp only [gD]); (repeat first | simp only [gE] | simp only [gF])
      refine wpAnyH_one 6 (by kernel_rfl) rfl rfl ?_
      refine wp_call2 51 _ _ rfl _ _ rfl rfl (fun _ _ => rfl) ((with_any w4 a21 (mzE tb) (by omega) (by have := mzE_le tb; omega)).mono ?_)
      rintro e w5 ⟨rfl, k2⟩
      rw [← ha22]
      have S2 := S1.keep0 k2
      refine ⟨_, rfl, trivial, fun _ => ?_⟩
      (try simp only [gA]); (try simp only [gB]); (try simp only [gC]); (try simp only [Act.put]); (try simp only [gD]); (repeat first | simp only [gE] | simp only [gF])
      obtain ⟨wq22, hX⟩ : ∃ X, X = w5.setCells x 0 [.int .i64 (a22.1 : Int), .int .i64 (a22.2 : Int)] := ⟨_, rfl⟩
      have kX : Keeps (fun i => i = x) w5 wq22 := by rw [hX]; exact (Keeps.refl (fun i => i = x) w5).setsA _ _
      have cX : CL wq22 x [.int .i64 (a22.1 : Int), .int .i64 (a22.2 : Int)] := by rw [hX]; exact S2.a.sets (o := 0) (by show 0 + 2 ≤ 2; decide)
      refine wpAnyH_store 7 (by kernel_rfl) rfl rfl 74 _ _ rfl x 0 2 #[.int .i64 (a22.1 : Int), .int .i64 (a22.2 : Int)] rfl rfl rfl (S2.a.there (by show 0 + 2 ≤ 2; decide)) iSz one2 trivial (fun _ => ?_)
      (try simp only [gA]); (try simp only [gB]); (try simp only [gC]); (try simp only [Act.put]); (try simp only [gD]); (repeat first | simp only [gE] | simp only [gF])
      refine wpAnyH_done (by kernel_rfl) ?_ _
      have hx10 : w5.setCells x 0 (#[.int .i64 (a22.1 : Int), .int .i64 (a22.2 : Int)] : Array Value).toList = wq22 := hX.symm
      rw [hx10]
      have S22 := S2.box kX cX
      clear hx10 hX cX kX S2 S1 k2 q1 hE
      have y0 := S22.cell Sp.s.y0 Sp.lB
      have y1 := S22.cell Sp.s.y1 Sp.lB
      have u0 := S22.cell (show w.cell? ⟨0, 10, none⟩ = some (.bool false) from V.g.us 10 _ rfl) (Nat.lt_of_lt_of_le (by decide) V.lo)
      have u1 := S22.cell (show w.cell? ⟨0, 11, none⟩ = some (.bool true) from V.g.us 11 _ rfl) (Nat.lt_of_lt_of_le (by decide) V.lo)
      have u2 := S22.cell (show w.cell? ⟨0, 12, none⟩ = some (.bool true) from V.g.us 12 _ rfl) (Nat.lt_of_lt_of_le (by decide) V.lo)
      go_wp2_with fail
      clear y0 y1 u0 u1 u2
      rw [← ha21, ← ha22] at HSZ
      have Sd := (S22).keep0 ((Keeps.refl (fun _ => False) _).drew)
      have yS : Y3 _ x a22 b o qt th.length ct qe el.length ce := ⟨Sd.a, Sd.cell Sp.s.yt Sp.lB, Sd.cell Sp.s.ye Sp.lB⟩
      have hT := css_of IH th (by omega) hN.2.2.2.1 hN.2.2.1 _ B v me ms _ _ _ _ qt ct xs Sd.V (Sp.ot.stay Sd.stay) (Sp.lt.stay Sd.stay)
      have lT := mzSL_le th
      have nT := hN.2.2.1
      have nE := hN.2.2.2.2.1
      have lE := mzSL_le el
      have bA : (a22).1 < 9223372036854775808 ∧ (a22).2 ≤ 4503599627370496 := by omega
      have bT : (mzSL th).1 < 9223372036854775808 ∧ (mzSL th).2 ≤ 4503599627370496 := by omega
      have bL : (mzSL el).1 < 9223372036854775808 ∧ (mzSL el).2 ≤ 4503599627370496 := by omega
      have b16 : (wtM (a22) (mzSL th)).1 < 9223372036854775808 ∧ (wtM (a22) (mzSL th)).2 ≤ 1125899906842624 := ⟨wtM_lt _ _, by unfold wtM; dsimp only; omega⟩
      have bB : (wtM (a22) (mzSL th)).1 < 9223372036854775808 ∧ (wtM (a22) (mzSL th)).2 ≤ 4503599627370496 := ⟨b16.1, Nat.le_trans b16.2 (by decide)⟩
      have b17 : (wtM (wtM (a22) (mzSL th)) (mzSL el)).1 < 9223372036854775808 ∧ (wtM (wtM (a22) (mzSL th)) (mzSL el)).2 ≤ 4503599627370496 := by
        generalize wtM (a22) (mzSL th) = q at *
        exact ⟨wtM_lt _ _, by unfold wtM; dsimp only; omega⟩
      clear b16 lT lE
      refine wp_region_held_drew (S := fun W => Y3 W x a22 b o qt th.length ct qe el.length ce) (by kernel_rfl) yS (fun hHeld => ?_)
      refine wpAnyH_take (i := 0) (v := (.agg #[.int .i64 (a22.1 : Int), .int .i64 (a22.2 : Int)])) rfl (by kernel_rfl) (by kernel_rfl) (by kernel_rfl) (fun _ _ _ h => h) (Or.inl ⟨by rfl, ?_⟩) (by assumption) ?_
      · intro wx hSw; have q0 := hSw.a.c 0 _ rfl; have q1 := hSw.a.c 1 _ rfl; clear hSw; go_simp
      (try simp only [gA]); (try simp only [gB]); (try simp only [gC]); (try simp only [Act.put]); (try simp only [gD]); (repeat first | simp only [gE] | simp only [gF])
      refine wpAnyH_take (i := 1) (v := ?_) rfl (by kernel_rfl) (by kernel_rfl) (by kernel_rfl) (fun _ _ _ h => h) (Or.inl ⟨by rfl, ?_⟩) (by assumption) ?_
      rotate_left
      · intro wx hSw; clear hSw; go_simp <;> with_reducible rfl
      (try simp only [gA]); (try simp only [gB]); (try simp only [gC]); (try simp only [Act.put]); (try simp only [gD]); (repeat first | simp only [gE] | simp only [gF])
      refine wpAnyH_take (i := 2) (v := ?_) rfl (by kernel_rfl) (by kernel_rfl) (by kernel_rfl) (fun _ _ _ h => h) (Or.inl ⟨by rfl, ?_⟩) (by assumption) ?_
      rotate_left
      · intro wx hSw; clear hSw; go_simp <;> with_reducible rfl
      (try simp only [gA]); (try simp only [gB]); (try simp only [gC]); (try simp only [Act.put]); (try simp only [gD]); (repeat first | simp only [gE] | simp only [gF])
      refine wpAnyH_take (i := 3) (v := ?_) rfl (by kernel_rfl) (by kernel_rfl) (by kernel_rfl) (fun _ _ _ h => h) (Or.inl ⟨by rfl, ?_⟩) (by assumption) ?_
      rotate_left
      · intro wx hSw; clear hSw; go_simp <;> with_reducible rfl
      (try simp only [gA]); (try simp only [gB]); (try simp only [gC]); (try simp only [Act.put]); (try simp only [gD]); (repeat first | simp only [gE] | simp only [gF])
      refine wpAnyH_take (i := 4) (v := ?_) rfl (by kernel_rfl) (by kernel_rfl) (by kernel_rfl) (fun _ _ _ h => h) (Or.inl ⟨by rfl, ?_⟩) (by assumption) ?_
      rotate_left
      · intro wx hSw; clear hSw; go_simp <;> with_reducible rfl
      (try simp only [gA]); (try simp only [gB]); (try simp only [gC]); (try simp only [Act.put]); (try simp only [gD]); (repeat first | simp only [gE] | simp only [gF])
      refine wpAnyH_take (i := 5) (v := ?_) rfl (by kernel_rfl) (by kernel_rfl) (by kernel_rfl) (fun _ _ _ h => h) (Or.inl ⟨by rfl, ?_⟩) (by assumption) ?_
      rotate_left
      · intro wx hSw; have q0 := hSw.t; clear hSw; go_simp <;> with_reducible rfl
      (try simp only [gA]); (try simp only [gB]); (try simp only [gC]); (try simp only [Act.put]); (try simp only [gD]); (repeat first | simp only [gE] | simp only [gF])
      refine wpAnyH_take (i := 8) (v := ?_) rfl (by kernel_rfl) (by kernel_rfl) (by kernel_rfl) (fun _ _ _ h => h) (Or.inl ⟨by rfl, ?_⟩) (by assumption) ?_
      rotate_left
      · intro wx hSw; clear hSw; go_simp <;> with_reducible rfl
      (try simp only [gA]); (try simp only [gB]); (try simp only [gC]); (try simp only [Act.put]); (try simp only [gD]); (repeat first | simp only [gE] | simp only [gF])
      refine wpAnyH_take (i := 9) (v := ?_) rfl (by kernel_rfl) (by kernel_rfl) (by kernel_rfl) (fun _ _ _ h => h) (Or.inl ⟨by rfl, ?_⟩) (by assumption) ?_
      rotate_left
      · intro wx hSw; clear hSw; go_simp <;> with_reducible rfl
      (try simp only [gA]); (try simp only [gB]); (try simp only [gC]); (try simp only [Act.put]); (try simp only [gD]); (repeat first | simp only [gE] | simp only [gF])
      refine wpAnyH_take (i := 10) (v := ?_) rfl (by kernel_rfl) (by kernel_rfl) (by kernel_rfl) (fun _ _ _ h => h) (Or.inl ⟨by rfl, ?_⟩) (by assumption) ?_
      rotate_left
      · intro wx hSw; clear hSw; go_simp <;> with_reducible rfl
      (try simp only [gA]); (try simp only [gB]); (try simp only [gC]); (try simp only [Act.put]); (try simp only [gD]); (repeat first | simp only [gE] | simp only [gF])
      refine wpAnyH_take (i := 11) (v := ?_) rfl (by kernel_rfl) (by kernel_rfl) (by kernel_rfl) (fun _ _ _ h => h) (Or.inl ⟨by rfl, ?_⟩) (by assumption) ?_
      rotate_left
      · intro wx hSw; clear hSw; go_simp <;> with_reducible rfl
      (try simp only [gA]); (try simp only [gB]); (try simp only [gC]); (try simp only [Act.put]); (try simp only [gD]); (repeat first | simp only [gE] | simp only [gF])
      refine wpAnyH_take (i := 12) (v := ?_) rfl (by kernel_rfl) (by kernel_rfl) (by kernel_rfl) (fun _ _ _ h => h) (Or.inl ⟨by rfl, ?_⟩) (by assumption) ?_
      rotate_left
      · intro wx hSw; have q0 := hSw.e; clear hSw; go_simp <;> with_reducible rfl
      (try simp only [gA]); (try simp only [gB]); (try simp only [gC]); (try simp only [Act.put]); (try simp only [gD]); (repeat first | simp only [gE] | simp only [gF])
      refine wpAnyH_one 6 (by kernel_rfl) rfl rfl ?_
      refine wp_call2 24 _ _ rfl _ _ rfl rfl (fun _ _ => rfl) (hT.mono ?_)
      rintro e w14 ⟨rfl, q4⟩
      obtain ⟨p14, c14, S14⟩ := Sd.step q4
      have y14 : Y3 w14 x a22 b o qt th.length ct qe el.length ce := ⟨S14.a, S14.cell Sp.s.yt Sp.lB, S14.cell Sp.s.ye Sp.lB⟩
      refine ⟨_, rfl, y14, fun _ => ?_⟩
      (try simp only [gA]); (try simp only [gB]); (try simp only [gC]); (try simp only [Act.put]); (try simp only [gD]); (repeat first | simp only [gE] | simp only [gF])
      refine wpAnyH_one 7 (by kernel_rfl) rfl rfl ?_
      refine wp_call2 51 _ _ rfl _ _ rfl rfl (fun _ _ => rfl) ((with_n w14 a22 (mzSL th) bA bT).mono ?_)
      rintro e w15 ⟨rfl, k5⟩
      have S15 := S14.keep0 k5
      have y15 : Y3 w15 x a22 b o qt th.length ct qe el.length ce := ⟨S15.a, S15.cell Sp.s.yt Sp.lB, S15.cell Sp.s.ye Sp.lB⟩
      refine ⟨_, rfl, y15, fun _ => ?_⟩
      (try simp only [gA]); (try simp only [gB]); (try simp only [gC]); (try simp only [Act.put]); (try simp only [gD]); (repeat first | simp only [gE] | simp only [gF])
      have hE2 := css_of IH el (by omega) hN.2.2.2.2.2 hN.2.2.2.2.1 _ B v me ms _ _ _ _ qe ce ys S15.V (Sp.oe.stay S15.stay) (Sp.le.stay S15.stay)
      refine wpAnyH_one 13 (by kernel_rfl) rfl rfl ?_
      refine wp_call2 24 _ _ rfl _ _ rfl rfl (fun _ _ => rfl) (hE2.mono ?_)
      rintro e w16 ⟨rfl, q6⟩
      obtain ⟨p16, c16, S16⟩ := S15.step q6
      have y16 : Y3 w16 x a22 b o qt th.length ct qe el.length ce := ⟨S16.a, S16.cell Sp.s.yt Sp.lB, S16.cell Sp.s.ye Sp.lB⟩
      refine ⟨_, rfl, y16, fun _ => ?_⟩
      (try simp only [gA]); (try simp only [gB]); (try simp only [gC]); (try simp only [Act.put]); (try simp only [gD]); (repeat first | simp only [gE] | simp only [gF])
      refine wpAnyH_one 14 (by kernel_rfl) rfl rfl ?_
      refine wp_call2 51 _ _ rfl _ _ rfl rfl (fun _ _ => rfl) ((with_n w16 (wtM a22 (mzSL th)) (mzSL el) bB bL).mono ?_)
      rintro e w17 ⟨rfl, k7⟩
      have S17 := S16.keep0 k7
      have y17 : Y3 w17 x a22 b o qt th.length ct qe el.length ce := ⟨S17.a, S17.cell Sp.s.yt Sp.lB, S17.cell Sp.s.ye Sp.lB⟩
      refine ⟨_, rfl, y17, fun _ => ?_⟩
      (try simp only [gA]); (try simp only [gB]); (try simp only [gC]); (try simp only [Act.put]); (try simp only [gD]); (repeat first | simp only [gE] | simp only [gF])
      refine wpAnyH_one 15 (by kernel_rfl) rfl rfl ?_
      refine wp_call1 55 _ rfl _ rfl (fun _ _ => rfl) ((under_any w17 (wtM (wtM a22 (mzSL th)) (mzSL el)) b17).mono ?_)
      rintro e w18 ⟨rfl, k8⟩
      rw [← HSZ.out]
      have S18 := S17.keep0 k8
      have y18 : Y3 w18 x a22 b o qt th.length ct qe el.length ce := ⟨S18.a, S18.cell Sp.s.yt Sp.lB, S18.cell Sp.s.ye Sp.lB⟩
      refine ⟨_, rfl, y18, fun _ => ?_⟩
      (try simp only [gA]); (try simp only [gB]); (try simp only [gC]); (try simp only [Act.put]); (try simp only [gD]); (repeat first | simp only [gE] | simp only [gF])
      obtain ⟨s1, hs1⟩ : ∃ s1, s1 = dI (mzS (.mk 2 wd ta tb th el)).1 := ⟨_, rfl⟩
      obtain ⟨s2, hs2⟩ : ∃ s2, s2 = (mzS (.mk 2 wd ta tb th el)).2 := ⟨_, rfl⟩
      simp only [vlW, ← hs1, ← hs2]
      have kX0 : Keeps (fun i => i = w.heap.size) w18 (w18.setCells w.heap.size 0 [.int .i64 s1, .int .i64 (s2 : Int)]) := (Keeps.refl (fun i => i = w.heap.size) w18).setsA _ _
      have hxx := S18.x
      have yX : Y3 (w18.setCells w.heap.size 0 [.int .i64 s1, .int .i64 (s2 : Int)]) x a22 b o qt th.length ct qe el.length ce := ⟨y18.a.keep (by show 0 < 2; decide) kX0 (fun e => by have e : x = w.heap.size := e; omega), kX0.cell y18.t (fun e => by have e : b = w.heap.size := e; have := V.low v (.inl rfl); have := Sp.lB; omega), kX0.cell y18.e (fun e => by have e : b = w.heap.size := e; have := V.low v (.inl rfl); have := Sp.lB; omega)⟩
      obtain ⟨X, hX⟩ : ∃ X, X = w18.setCells w.heap.size 0 [.int .i64 s1, .int .i64 (s2 : Int)] := ⟨_, rfl⟩
      have kX : Keeps (fun i => i = w.heap.size) w18 X := by rw [hX]; exact kX0
      have cX : CL X w.heap.size [.int .i64 s1, .int .i64 (s2 : Int)] := by rw [hX]; exact S18.r.sets (o := 0) (by show 0 + 2 ≤ 2; decide)
      refine wpAnyH_store 16 (by kernel_rfl) rfl rfl 74 _ _ rfl w.heap.size 0 2 #[.int .i64 s1, .int .i64 (s2 : Int)] rfl rfl rfl (S18.r.there (by show 0 + 2 ≤ 2; decide)) iSz one2 yX (fun _ => ?_)
      (try simp only [gA]); (try simp only [gB]); (try simp only [gC]); (try simp only [Act.put]); (try simp only [gD]); (repeat first | simp only [gE] | simp only [gF])
      refine wpAnyH_done (by kernel_rfl) ?_ _
      have hx10 : w18.setCells w.heap.size 0 (#[.int .i64 s1, .int .i64 (s2 : Int)] : Array Value).toList = X := hX.symm
      rw [hx10]
      have FIN := S18.fin kX
      have hrn := run_sz cX
      clear hx10 hX yX y18 y17 y16 y15 y14 kX0 S17 S16 S15 S14
      go_wp2_with fail
      refine bodyPost_ret (v := .agg #[.int .i64 s1, .int .i64 (s2 : Int)]) (by rw [results_cell1 rfl]; simp [asAddr, hrn]) rfl ?_
      rw [HWR.out, HNM.out]
      exact ⟨by rw [hs1, hs2], FIN⟩
    · refine wp_call2 54 _ _ rfl _ _ rfl rfl (fun _ _ => rfl) (hE.mono ?_)
      rintro e w4 ⟨rfl, q1⟩
      obtain ⟨p', c', S1⟩ := Sd.step q1
      refine ⟨_, rfl, trivial, fun _ => ?_⟩
      (try simp only [gA]); (try simp only [gB]); (try simp only [gC]); (try simp only [Act.put]); (try simp only [gD]); (repeat first | simp only [gE] | simp only [gF])
      refine wpAnyH_one 0 (by kernel_rfl) rfl rfl ?_
      refine wp_loadK 74 _ rfl ⟨x, 0, none⟩ rfl _ (run_sz S1.a) ?_
      refine ⟨trivial, fun _ => ?_⟩
      (try simp only [gA]); (try simp only [gB]); (try simp only [gC]); (try simp only [Act.put]); (try simp only [gD]); (repeat first | simp only [gE] | simp only [gF])
      refine wpAnyH_one 6 (by kernel_rfl) rfl rfl ?_
      refine wp_call2 51 _ _ rfl _ _ rfl rfl (fun _ _ => rfl) ((with_any w4 a21 (mzE tb) (by omega) (by have := mzE_le tb; omega)).mono ?_)
      rintro e w5 ⟨rfl, k2⟩
      rw [← ha22]
      have S2 := S1.keep0 k2
      refine ⟨_, rfl, trivial, fun _ => ?_⟩
      (try simp only [gA]); (try simp only [gB]); (try simp only [gC]); (try simp only [Act.put]); (try simp only [gD]); (repeat first | simp only [gE] | simp only [gF])
      obtain ⟨wq22, hX⟩ : ∃ X, X = w5.setCells x 0 [.int .i64 (a22.1 : Int), .int .i64 (a22.2 : Int)] := ⟨_, rfl⟩
      have kX : Keeps (fun i => i = x) w5 wq22 := by rw [hX]; exact (Keeps.refl (fun i => i = x) w5).setsA _ _
      have cX : CL wq22 x [.int .i64 (a22.1 : Int), .int .i64 (a22.2 : Int)] := by rw [hX]; exact S2.a.sets (o := 0) (by show 0 + 2 ≤ 2; decide)
      refine wpAnyH_store 7 (by kernel_rfl) rfl rfl 74 _ _ rfl x 0 2 #[.int .i64 (a22.1 : Int), .int .i64 (a22.2 : Int)] rfl rfl rfl (S2.a.there (by show 0 + 2 ≤ 2; decide)) iSz one2 trivial (fun _ => ?_)
      (try simp only [gA]); (try simp only [gB]); (try simp only [gC]); (try simp only [Act.put]); (try simp only [gD]); (repeat first | simp only [gE] | simp only [gF])
      refine wpAnyH_done (by kernel_rfl) ?_ _
      have hx10 : w5.setCells x 0 (#[.int .i64 (a22.1 : Int), .int .i64 (a22.2 : Int)] : Array Value).toList = wq22 := hX.symm
      rw [hx10]
      have S22 := S2.box kX cX
      clear hx10 hX cX kX S2 S1 k2 q1 hE
      have y0 := S22.cell Sp.s.y0 Sp.lB
      have y1 := S22.cell Sp.s.y1 Sp.lB
      have u0 := S22.cell (show w.cell? ⟨0, 10, none⟩ = some (.bool false) from V.g.us 10 _ rfl) (Nat.lt_of_lt_of_le (by decide) V.lo)
      have u1 := S22.cell (show w.cell? ⟨0, 11, none⟩ = some (.bool true) from V.g.us 11 _ rfl) (Nat.lt_of_lt_of_le (by decide) V.lo)
      have u2 := S22.cell (show w.cell? ⟨0, 12, none⟩ = some (.bool true) from V.g.us 12 _ rfl) (Nat.lt_of_lt_of_le (by decide) V.lo)
      go_wp2_with fail
      clear y0 y1 u0 u1 u2
      rw [← ha21, ← ha22] at HSZ
      have Sd := (S22).keep0 ((Keeps.refl (fun _ => False) _).drew)
      have yS : Y3 _ x a22 b o qt th.length ct qe el.length ce := ⟨Sd.a, Sd.cell Sp.s.yt Sp.lB, Sd.cell Sp.s.ye Sp.lB⟩
      have hT := css_of IH th (by omega) hN.2.2.2.1 hN.2.2.1 _ B v me ms _ _ _ _ qt ct xs Sd.V (Sp.ot.stay Sd.stay) (Sp.lt.stay Sd.stay)
      have lT := mzSL_le th
      have nT := hN.2.2.1
      have nE := hN.2.2.2.2.1
      have lE := mzSL_le el
      have bA : (a22).1 < 9223372036854775808 ∧ (a22).2 ≤ 4503599627370496 := by omega
      have bT : (mzSL th).1 < 9223372036854775808 ∧ (mzSL th).2 ≤ 4503599627370496 := by omega
      have bL : (mzSL el).1 < 9223372036854775808 ∧ (mzSL el).2 ≤ 4503599627370496 := by omega
      have b16 : (wtM (a22) (mzSL th)).1 < 9223372036854775808 ∧ (wtM (a22) (mzSL th)).2 ≤ 1125899906842624 := ⟨wtM_lt _ _, by unfold wtM; dsimp only; omega⟩
      have bB : (wtM (a22) (mzSL th)).1 < 9223372036854775808 ∧ (wtM (a22) (mzSL th)).2 ≤ 4503599627370496 := ⟨b16.1, Nat.le_trans b16.2 (by decide)⟩
      have b17 : (wtM (wtM (a22) (mzSL th)) (mzSL el)).1 < 9223372036854775808 ∧ (wtM (wtM (a22) (mzSL th)) (mzSL el)).2 ≤ 4503599627370496 := by
        generalize wtM (a22) (mzSL th) = q at *
        exact ⟨wtM_lt _ _, by unfold wtM; dsimp only; omega⟩
      clear b16 lT lE
      refine wp_region_held_drew (S := fun W => Y3 W x a22 b o qt th.length ct qe el.length ce) (by kernel_rfl) yS (fun hHeld => ?_)
      refine wpAnyH_take (i := 0) (v := (.agg #[.int .i64 (a22.1 : Int), .int .i64 (a22.2 : Int)])) rfl (by kernel_rfl) (by kernel_rfl) (by kernel_rfl) (fun _ _ _ h => h) (Or.inl ⟨by rfl, ?_⟩) (by assumption) ?_
      · intro wx hSw; have q0 := hSw.a.c 0 _ rfl; have q1 := hSw.a.c 1 _ rfl; clear hSw; go_simp
      (try simp only [gA]); (try simp only [gB]); (try simp only [gC]); (try simp only [Act.put]); (try simp only [gD]); (repeat first | simp only [gE] | simp only [gF])
      refine wpAnyH_take (i := 1) (v := ?_) rfl (by kernel_rfl) (by kernel_rfl) (by kernel_rfl) (fun _ _ _ h => h) (Or.inl ⟨by rfl, ?_⟩) (by assumption) ?_
      rotate_left
      · intro wx hSw; clear hSw; go_simp <;> with_reducible rfl
      (try simp only [gA]); (try simp only [gB]); (try simp only [gC]); (try simp only [Act.put]); (try simp only [gD]); (repeat first | simp only [gE] | simp only [gF])
      refine wpAnyH_take (i := 2) (v := ?_) rfl (by kernel_rfl) (by kernel_rfl) (by kernel_rfl) (fun _ _ _ h => h) (Or.inl ⟨by rfl, ?_⟩) (by assumption) ?_
      rotate_left
      · intro wx hSw; clear hSw; go_simp <;> with_reducible rfl
      (try simp only [gA]); (try simp only [gB]); (try simp only [gC]); (try simp only [Act.put]); (try simp only [gD]); (repeat first | simp only [gE] | simp only [gF])
      refine wpAnyH_take (i := 3) (v := ?_) rfl (by kernel_rfl) (by kernel_rfl) (by kernel_rfl) (fun _ _ _ h => h) (Or.inl ⟨by rfl, ?_⟩) (by assumption) ?_
      rotate_left
      · intro wx hSw; clear hSw; go_simp <;> with_reducible rfl
      (try simp only [gA]); (try simp only [gB]); (try simp only [gC]); (try simp only [Act.put]); (try simp only [gD]); (repeat first | simp only [gE] | simp only [gF])
      refine wpAnyH_take (i := 4) (v := ?_) rfl (by kernel_rfl) (by kernel_rfl) (by kernel_rfl) (fun _ _ _ h => h) (Or.inl ⟨by rfl, ?_⟩) (by assumption) ?_
      rotate_left
      · intro wx hSw; clear hSw; go_simp <;> with_reducible rfl
      (try simp only [gA]); (try simp only [gB]); (try simp only [gC]); (try simp only [Act.put]); (try simp only [gD]); (repeat first | simp only [gE] | simp only [gF])
      refine wpAnyH_take (i := 5) (v := ?_) rfl (by kernel_rfl) (by kernel_rfl) (by kernel_rfl) (fun _ _ _ h => h) (Or.inl ⟨by rfl, ?_⟩) (by assumption) ?_
      rotate_left
      · intro wx hSw; have q0 := hSw.t; clear hSw; go_simp <;> with_reducible rfl
      (try simp only [gA]); (try simp only [gB]); (try simp only [gC]); (try simp only [Act.put]); (try simp only [gD]); (repeat first | simp only [gE] | simp only [gF])
      refine wpAnyH_take (i := 8) (v := ?_) rfl (by kernel_rfl) (by kernel_rfl) (by kernel_rfl) (fun _ _ _ h => h) (Or.inl ⟨by rfl, ?_⟩) (by assumption) ?_
      rotate_left
      · intro wx hSw; clear hSw; go_simp <;> with_reducible rfl
      (try simp only [gA]); (try simp only [gB]); (try simp only [gC]); (try simp only [Act.put]); (try simp only [gD]); (repeat first | simp only [gE] | simp only [gF])
      refine wpAnyH_take (i := 9) (v := ?_) rfl (by kernel_rfl) (by kernel_rfl) (by kernel_rfl) (fun _ _ _ h => h) (Or.inl ⟨by rfl, ?_⟩) (by assumption) ?_
      rotate_left
      · intro wx hSw; clear hSw; go_simp <;> with_reducible rfl
      (try simp only [gA]); (try simp only [gB]); (try simp only [gC]); (try simp only [Act.put]); (try simp only [gD]); (repeat first | simp only [gE] | simp only [gF])
      refine wpAnyH_take (i := 10) (v := ?_) rfl (by kernel_rfl) (by kernel_rfl) (by kernel_rfl) (fun _ _ _ h => h) (Or.inl ⟨by rfl, ?_⟩) (by assumption) ?_
      rotate_left
      · intro wx hSw; clear hSw; go_simp <;> with_reducible rfl
      (try simp only [gA]); (try simp only [gB]); (try simp only [gC]); (try simp only [Act.put]); (try simp only [gD]); (repeat first | simp only [gE] | simp only [gF])
      refine wpAnyH_take (i := 11) (v := ?_) rfl (by kernel_rfl) (by kernel_rfl) (by kernel_rfl) (fun _ _ _ h => h) (Or.inl ⟨by rfl, ?_⟩) (by assumption) ?_
      rotate_left
      · intro wx hSw; clear hSw; go_simp <;> with_reducible rfl
      (try simp only [gA]); (try simp only [gB]); (try simp only [gC]); (try simp only [Act.put]); (try simp only [gD]); (repeat first | simp only [gE] | simp only [gF])
      refine wpAnyH_take (i := 12) (v := ?_) rfl (by kernel_rfl) (by kernel_rfl) (by kernel_rfl) (fun _ _ _ h => h) (Or.inl ⟨by rfl, ?_⟩) (by assumption) ?_
      rotate_left
      · intro wx hSw; have q0 := hSw.e; clear hSw; go_simp <;> with_reducible rfl
      (try simp only [gA]); (try simp only [gB]); (try simp only [gC]); (try simp only [Act.put]); (try simp only [gD]); (repeat first | simp only [gE] | simp only [gF])
      refine wpAnyH_one 6 (by kernel_rfl) rfl rfl ?_
      refine wp_call2 24 _ _ rfl _ _ rfl rfl (fun _ _ => rfl) (hT.mono ?_)
      rintro e w14 ⟨rfl, q4⟩
      obtain ⟨p14, c14, S14⟩ := Sd.step q4
      have y14 : Y3 w14 x a22 b o qt th.length ct qe el.length ce := ⟨S14.a, S14.cell Sp.s.yt Sp.lB, S14.cell Sp.s.ye Sp.lB⟩
      refine ⟨_, rfl, y14, fun _ => ?_⟩
      (try simp only [gA]); (try simp only [gB]); (try simp only [gC]); (try simp only [Act.put]); (try simp only [gD]); (repeat first | simp only [gE] | simp only [gF])
      refine wpAnyH_one 7 (by kernel_rfl) rfl rfl ?_
      refine wp_call2 51 _ _ rfl _ _ rfl rfl (fun _ _ => rfl) ((with_n w14 a22 (mzSL th) bA bT).mono ?_)
      rintro e w15 ⟨rfl, k5⟩
      have S15 := S14.keep0 k5
      have y15 : Y3 w15 x a22 b o qt th.length ct qe el.length ce := ⟨S15.a, S15.cell Sp.s.yt Sp.lB, S15.cell Sp.s.ye Sp.lB⟩
      refine ⟨_, rfl, y15, fun _ => ?_⟩
      (try simp only [gA]); (try simp only [gB]); (try simp only [gC]); (try simp only [Act.put]); (try simp only [gD]); (repeat first | simp only [gE] | simp only [gF])
      have hE2 := css_of IH el (by omega) hN.2.2.2.2.2 hN.2.2.2.2.1 _ B v me ms _ _ _ _ qe ce ys S15.V (Sp.oe.stay S15.stay) (Sp.le.stay S15.stay)
      refine wpAnyH_one 13 (by kernel_rfl) rfl rfl ?_
      refine wp_call2 24 _ _ rfl _ _ rfl rfl (fun _ _ => rfl) (hE2.mono ?_)
      rintro e w16 ⟨rfl, q6⟩
      obtain ⟨p16, c16, S16⟩ := S15.step q6
      have y16 : Y3 w16 x a22 b o qt th.length ct qe el.length ce := ⟨S16.a, S16.cell Sp.s.yt Sp.lB, S16.cell Sp.s.ye Sp.lB⟩
      refine ⟨_, rfl, y16, fun _ => ?_⟩
      (try simp only [gA]); (try simp only [gB]); (try simp only [gC]); (try simp only [Act.put]); (try simp only [gD]); (repeat first | simp only [gE] | simp only [gF])
      refine wpAnyH_one 14 (by kernel_rfl) rfl rfl ?_
      refine wp_call2 51 _ _ rfl _ _ rfl rfl (fun _ _ => rfl) ((with_n w16 (wtM a22 (mzSL th)) (mzSL el) bB bL).mono ?_)
      rintro e w17 ⟨rfl, k7⟩
      have S17 := S16.keep0 k7
      have y17 : Y3 w17 x a22 b o qt th.length ct qe el.length ce := ⟨S17.a, S17.cell Sp.s.yt Sp.lB, S17.cell Sp.s.ye Sp.lB⟩
      refine ⟨_, rfl, y17, fun _ => ?_⟩
      (try simp only [gA]); (try simp only [gB]); (try simp only [gC]); (try simp only [Act.put]); (try simp only [gD]); (repeat first | simp only [gE] | simp only [gF])
      refine wpAnyH_one 15 (by kernel_rfl) rfl rfl ?_
      refine wp_call1 55 _ rfl _ rfl (fun _ _ => rfl) ((under_any w17 (wtM (wtM a22 (mzSL th)) (mzSL el)) b17).mono ?_)
      rintro e w18 ⟨rfl, k8⟩
      rw [← HSZ.out]
      have S18 := S17.keep0 k8
      have y18 : Y3 w18 x a22 b o qt th.length ct qe el.length ce := ⟨S18.a, S18.cell Sp.s.yt Sp.lB, S18.cell Sp.s.ye Sp.lB⟩
      refine ⟨_, rfl, y18, fun _ => ?_⟩
      (try simp only [gA]); (try simp only [gB]); (try simp only [gC]); (try simp only [Act.put]); (try simp only [gD]); (repeat first | simp only [gE] | simp only [gF])
      obtain ⟨s1, hs1⟩ : ∃ s1, s1 = dI (mzS (.mk 2 wd ta tb th el)).1 := ⟨_, rfl⟩
      obtain ⟨s2, hs2⟩ : ∃ s2, s2 = (mzS (.mk 2 wd ta tb th el)).2 := ⟨_, rfl⟩
      simp only [vlW, ← hs1, ← hs2]
      have kX0 : Keeps (fun i => i = w.heap.size) w18 (w18.setCells w.heap.size 0 [.int .i64 s1, .int .i64 (s2 : Int)]) := (Keeps.refl (fun i => i = w.heap.size) w18).setsA _ _
      have hxx := S18.x
      have yX : Y3 (w18.setCells w.heap.size 0 [.int .i64 s1, .int .i64 (s2 : Int)]) x a22 b o qt th.length ct qe el.length ce := ⟨y18.a.keep (by show 0 < 2; decide) kX0 (fun e => by have e : x = w.heap.size := e; omega), kX0.cell y18.t (fun e => by have e : b = w.heap.size := e; have := V.low v (.inl rfl); have := Sp.lB; omega), kX0.cell y18.e (fun e => by have e : b = w.heap.size := e; have := V.low v (.inl rfl); have := Sp.lB; omega)⟩
      obtain ⟨X, hX⟩ : ∃ X, X = w18.setCells w.heap.size 0 [.int .i64 s1, .int .i64 (s2 : Int)] := ⟨_, rfl⟩
      have kX : Keeps (fun i => i = w.heap.size) w18 X := by rw [hX]; exact kX0
      have cX : CL X w.heap.size [.int .i64 s1, .int .i64 (s2 : Int)] := by rw [hX]; exact S18.r.sets (o := 0) (by show 0 + 2 ≤ 2; decide)
      refine wpAnyH_store 16 (by kernel_rfl) rfl rfl 74 _ _ rfl w.heap.size 0 2 #[.int .i64 s1, .int .i64 (s2 : Int)] rfl rfl rfl (S18.r.there (by show 0 + 2 ≤ 2; decide)) iSz one2 yX (fun _ => ?_)
      (try simp only [gA]); (try simp only [gB]); (try simp only [gC]); (try simp only [Act.put]); (try simp only [gD]); (repeat first | simp only [gE] | simp only [gF])
      refine wpAnyH_done (by kernel_rfl) ?_ _
      have hx10 : w18.setCells w.heap.size 0 (#[.int .i64 s1, .int .i64 (s2 : Int)] : Array Value).toList = X := hX.symm
      rw [hx10]
      have FIN := S18.fin kX
      have hrn := run_sz cX
      clear hx10 hX yX y18 y17 y16 y15 y14 kX0 S17 S16 S15 S14
      go_wp2_with fail
      refine bodyPost_ret (v := .agg #[.int .i64 s1, .int .i64 (s2 : Int)]) (by rw [results_cell1 rfl]; simp [asAddr, hrn]) rfl ?_
      rw [HWR.out, HNM.out]
      exact ⟨by rw [hs1, hs2], FIN⟩
end Go.Proofs.YtehblpbefkopbaaDoor
