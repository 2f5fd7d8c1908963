import Derived.Test.YtehblpbefkopbaaDoorXbB
namespace Go.Proofs.YtehblpbefkopbaaDoor
open Go.RowKit Go.ChangeShapes Go.WideShapes Go.ChangeAt Go.Deep
attribute [local go_sem] Oper.semAt_some run_store_nf run_store_f
/-- A statement's cells, somewhere below B. -/
def PtS (W : World) (B b o : Nat) (t : St) : Prop := b < B ∧ ∃ l, SC W (fun g => g < B) 32 34 t l ∧ ∀ j x, l[j]? = some x → W.cell? ⟨b, o + j, none⟩ = some x
theorem PtS.keep {S : Nat → Prop} {W W' : World} {B b o : Nat} {t : St} (h : PtS W B b o t) (k : Keeps S W W') (hB : ∀ i, i < B → ¬ S i) : PtS W' B b o t := by
  obtain ⟨h1, l, h2, h3⟩ := h
  exact ⟨h1, l, h2.stay (k.stay (fun i hi _ => hB i hi)), fun j x e => k.cell (h3 j x e) (hB b h1)⟩
/-- The contract of the survey's statement, of trees of so much at most. -/
def CXS (N : Nat) : Prop := ∀ (t : St), bgS t ≤ N → FtS t → ∀ (W : World) (B v me ms : Nat) (wr : Bool) (ns : List Bs) (p : Option Addr) (c b o : Nat), SV W B v me ms wr ns p c → PtS W B b o t →
  Calls Tryd.prog 40 #[pR v, pA b o] W fun e w' => e = .returned (vlW (mzS t).1 (mzS t).2) ∧ SVT W B v me ms ns p c w' (wr || wrS t) (nmS t ns)
theorem iPlS : (Tryd.prog.info? 100).map (·.size) = some 2 := by kernel_rfl
theorem run_plS {W : World} {b : Nat} {x y : Value} (h : CL W b [x, y]) : (loadVar 100 ⟨b, 0, none⟩).run Tryd.prog W = .ok (.agg #[x, y]) W :=
  run_loadVar_mid W b 0 100 [x, y] _ (fun j v e => by have := h.c j v e; rwa [Nat.zero_add]) Tryd.underlying100 rfl (by rw [iPlS]; rfl)
theorem bgS_at : ∀ (l : List St) (i : Nat) (t : St), l[i]? = some t → bgS t ≤ bgSL l
  | [], i, t, h => by cases h
  | a :: r, 0, t, h => by
    injection h with h; subst h
    unfold bgSL; omega
  | a :: r, i + 1, t, h => by
    have := bgS_at r i t h
    unfold bgSL; omega
mutual
theorem SC.uniq {w : World} {P P' : Nat → Prop} {e s : TypeId} : ∀ {t t' : St} {l : List Value}, SC w P e s t l → SC w P' e s t' l → t = t'
  | .mk k wd a b th el, .mk k' wd' a' b' th' el', l, h, h' => by
    unfold SC at h h'
    obtain ⟨_, _, la, lb, tv, ev, xs, ys, h4, ha, hb, h5, h6, h7, h8⟩ := h
    obtain ⟨_, _, la', lb', tv', ev', xs', ys', h4', ha', hb', h5', h6', h7', h8'⟩ := h'
    rw [h4] at h4'
    simp only [List.cons.injEq, Value.int.injEq, Value.string.injEq, true_and] at h4'
    obtain ⟨rfl, hw, h4'⟩ := h4'
    have hw := bs_inj hw
    subst hw
    obtain ⟨g1, g2⟩ := List.append_inj h4' (by rw [ha.len, ha'.len])
    obtain ⟨g3, g4⟩ := List.append_inj g2 (by rw [hb.len, hb'.len])
    simp only [List.cons.injEq, and_true] at g4
    obtain ⟨g5, g6⟩ := g4
    subst g1 g3 g5 g6
    obtain ⟨_, rfl⟩ := own_same h5.1 h5'.1
    obtain ⟨_, rfl⟩ := own_same h7.1 h7'.1
    rw [SL.uniq h6 h6', SL.uniq h8 h8', TC.uniq ha ha', TC.uniq hb hb']
theorem SL.uniq {w : World} {P P' : Nat → Prop} {e s : TypeId} : ∀ {ps ps' : List St} {l : List Value}, SL w P e s ps l → SL w P' e s ps' l → ps = ps'
  | [], [], _, _, _ => rfl
  | [], t :: r, l, h, h' => by
    unfold SL at h h'
    obtain ⟨ys, zs, h1, h2, _⟩ := h'
    have := h2.len
    rw [h] at h1
    have := congrArg List.length h1
    simp at this; omega
  | t :: r, [], l, h, h' => by
    unfold SL at h h'
    obtain ⟨ys, zs, h1, h2, _⟩ := h
    have := h2.len
    rw [h'] at h1
    have := congrArg List.length h1
    simp at this; omega
  | t :: r, t' :: r', l, h, h' => by
    unfold SL at h h'
    obtain ⟨ys, zs, h1, h2, h3⟩ := h
    obtain ⟨ys', zs', h1', h2', h3'⟩ := h'
    rw [h1] at h1'
    obtain ⟨rfl, rfl⟩ := List.append_inj h1' (by rw [h2.len, h2'.len])
    rw [SC.uniq h2 h2', SL.uniq h3 h3']
end
theorem MMap.mapS {W W' : World} {B mb : Nat} {wr : Bool} {ns : List Bs} (h : MMap W' mb (GoS W (fun g => g < B) wr ns)) (k : Keeps (fun i => i = mb) W W') (hB : B ≤ mb) : MMap W' mb (GoS W' (fun g => g < B) wr ns) := by
  obtain ⟨es, cl, h1, h2⟩ := h.h
  refine ⟨es, cl, h1, fun e he => ?_⟩
  obtain ⟨b, n, d, m, q1, q2, q3, q4⟩ := h2 e he
  exact ⟨b, n, d, m, q1, q2, q3, q4.go (k.stay (fun i hi _ e => by omega)) (fun q => q) (Ext.refl _)⟩
theorem SuE.putS {w : World} {B v me ms : Nat} {own : Option Nat} {g n : Nat} {Wr W' : World} {acc : Nat × Nat} {wr : Bool} {ns : List Bs} {p : Option Addr} {c : Nat} (h : SuE w B v me ms own g n Wr acc wr ns p c) (k : Keeps (fun i => i = ms) Wr W') (hm : MMap W' ms (GoS Wr (fun g => g < B) wr ns)) : SuE w B v me ms own g n W' acc wr ns p c := by
  have hlo := h.lo ms (.inr (.inr (.inl rfl)))
  have nb : ∀ i, w.heap.size ≤ i → ¬ i = ms := fun i hi e => by omega
  refine ⟨h.a.keep (by show 0 < 2; decide) k (nb _ (by omega)), h.k.keep (by show 0 < 2; decide) k (nb _ (by omega)), h.r.keep (by show 0 < 2; decide) k (nb _ (by omega)), ⟨h.V.cl.keep (by show 0 < 4; decide) k (fun e => h.V.nvs e), ⟨k.owns h.V.nm.1 (fun i hi e => (h.V.nd i hi).2.2 e), h.V.nm.2⟩, h.V.ee.goE k (fun e => h.V.ne e) (fun i hi e => by have := h.V.bm; omega) (fun q => q) (Ext.refl _), hm.mapS k h.V.bm, h.V.g.keep k (fun i hi e => by have := h.V.bm; have := h.V.lo; omega), h.V.bv, h.V.be, h.V.bm, h.V.ne, h.V.nd, h.V.l, h.V.lo⟩, h.kp.trans' k (fun _ _ e => e) (fun i hi e => .inr (.inr (.inl e))), h.no, h.lo⟩
set_option maxHeartbeats 2000000 in
set_option maxRecDepth 100000 in
theorem sumS {N : Nat} (IH : CXS N) {w : World} {B v me ms : Nat} {wq : Bool} {ns : List Bs} {p : Option Addr} {c : Nat} (V : SV w B v me ms wq ns p c) {q : Option Addr} {cq : Nat} {ps : List St} {xs : List Value} (ho : OwnP w (fun g => g < B) 34 12 (.slice q ps.length cq) ps.length xs) (ht : SL w (fun g => g < B) 32 34 ps xs) (hb : bgSL ps ≤ N) (hbig : FtSL ps ∧ ps.length * 184 ≤ 140737488355327) :
    Calls Tryd.prog 39 #[.map (some ms), .slice q ps.length cq, .func (.func 40) #[pR v] #[]] w fun e w' => e = .returned (vlV (mzSL ps).1 (mzSL ps).2) ∧ SVT w B v me ms ns p c w' (wq || wrSL ps) (nmSL ps ns) := by
  have m0 := CL.made w zZ 74
  have hlow := V.low
  by_cases hps : ps = []
  · subst hps
    rw [show mzSL [] = (0, 0) from by unfold mzSL; rfl, show wrSL [] = false from by unfold wrSL; rfl, show nmSL [] ns = ns from by unfold nmSL; rfl, Bool.or_false]
    show Calls _ _ #[_, .slice q 0 cq, _] _ _
    go_enter Tryd.func39, Tryd.ntmps39
    go_wp2_with (refine wpList_store_cl rfl 74 _ _ rfl w.heap.size 0 2 _ rfl rfl rfl m0 (by show 2 ≤ 2; decide) iSz one2 ?_; intro w9 hc9 k9 zz9; clear zz9)
    have hc6 : CL w9 w.heap.size [.int .i64 0, .int .i64 0] := hc9
    have hrn := run_sz hc6
    have kk : Keeps (fun _ => False) w w9 := ((Keeps.refl _ w).alloc _).trans' k9 (fun _ _ e => e) (fun i hi e => by omega)
    refine bodyPost_ret (v := .agg #[.int .i64 0, .int .i64 0]) (by rw [results_cell1 rfl]; simp [asAddr, hrn]) rfl ?_
    exact ⟨rfl, p, c, V.keep0 kk, fun _ e => .inl e, kk.mono (fun _ _ e => e.elim)⟩
  have hn0 : 0 < ps.length := List.length_pos_iff.2 hps
  have hlen : ps.length * 184 ≤ 140737488355327 := hbig.2
  obtain ⟨g, rfl⟩ : ∃ g, q = some ⟨g, 0, none⟩ := by
    obtain ⟨a, cap, e, hc, -, -⟩ := own_slice ho.1
    injection e with e1 e2 e3
    subst e1
    have hl := ht.len
    obtain ⟨g, hg, -⟩ := hc 0 (xs[0]'(by omega)) (List.getElem?_eq_getElem _)
    exact ⟨g, hg⟩
  obtain ⟨hAl, hgB⟩ := own_alive ho
  have hcl := own_clL ho.1
  obtain ⟨n, hn⟩ : ∃ n, n = ps.length := ⟨_, rfl⟩
  rw [← hn] at ho hn0 hlen ⊢
  have HN : Hid (n = ps.length) := hn
  clear hn
  have e0 : ((n : Int) == 0) = false := beq_eq_false_iff_ne.2 (by omega)
  have e1 : decide ((n : Int) = 0) = false := decide_eq_false (by omega)
  have e2 : (n == 0) = false := beq_eq_false_iff_ne.2 (by omega)
  have e3 : decide (n = 0) = false := decide_eq_false (by omega)
  have e4 : (0 : Int) < (n : Int) := by omega
  have m7 : CL ((w.alloc (.cells zZ.toArray 74)).alloc (.cells zP.toArray 100)) (w.heap.size + 1) zP := by
    have := CL.made (w.alloc (.cells zZ.toArray 74)) zP 100
    simpa using this
  go_enter Tryd.func39, Tryd.ntmps39
  refine wp_seq_k (fun K0 h0 => ?_)
  have H0 : Hid _ := h0
  clear h0
  go_wp2_with fail
  refine H0.out _ _ ?_
  clear H0 K0
  refine wp_seq_k (fun K0 h0 => ?_)
  have H0 : Hid _ := h0
  clear h0
  go_wp2_with fail
  refine H0.out _ _ ?_
  clear H0 K0
  refine wp_seq_k (fun K0 h0 => ?_)
  have H0 : Hid _ := h0
  clear h0
  go_wp2_with (refine wpList_store_cl rfl 100 _ _ rfl (w.heap.size + 1) 0 2 _ rfl rfl rfl m7 (by show 2 ≤ 2; decide) iPlS onePl ?_; intro w7 hc7 k7 zz7)
  refine H0.out _ _ ?_
  clear H0 K0
  have hc7 : CL w7 (w.heap.size + 1) [.pointer (some ⟨g, 0, none⟩), .int .i64 (n : Int)] := hc7
  have K7 : Keeps (fun _ => False) w w7 := (((Keeps.refl _ w).alloc _).alloc _).trans' k7 (fun _ _ e => e) (fun i hi e => by omega)
  have M7 := (m0.alloc (by show 0 < 2; decide) (.cells zP.toArray 100)).keep (by show 0 < 2; decide) k7 (fun e => by omega)
  have V7 := V.keep0 K7
  have z7 : w7.heap.size = w.heap.size + 1 + 1 := by rw [zz7]; simp
  clear zz7 m7 k7
  obtain ⟨d, m, ok, hlk, hG⟩ := V7.ss.look memoS (n := n) (alive_keep K7 hAl (fun e => e))
  have HG : Hid (ok = true → GoS w7 (fun g => g < B) wq ns g n d m) := hG
  have Z7 : Hid (w7.heap.size = w.heap.size + 1 + 1) := z7
  clear hG z7
  refine wp_seq_k (fun K1 h1 => ?_)
  have H1 : Hid _ := h1
  clear h1
  refine wp_seq_k (fun K0 h0 => ?_)
  have H0 : Hid _ := h0
  clear h0
  go_wp2_with (first | (refine wpList_load_runL rfl 100 _ rfl ⟨w.heap.size + 1, 0, none⟩ rfl _ (run_plS hc7) ?_) | (refine wpList_store_cl rfl 74 _ _ rfl w7.heap.size 0 2 _ rfl rfl rfl (CL.made w7 zZ 74) (by show 2 ≤ 2; decide) iSz one2 ?_; intro w8 hc8 k8 zz8))
  refine H0.out _ _ ?_
  clear H0 K0
  have hc8 : CL w8 w7.heap.size [.int .i64 (d : Int), .int .i64 (m : Int)] := hc8
  have z7 := Z7.out
  have K8 : Keeps (fun _ => False) w7 w8 := ((Keeps.refl _ w7).alloc _).trans' k8 (fun _ _ e => e) (fun i hi e => by omega)
  have M8 := M7.keep (by show 0 < 2; decide) K8 (fun e => e)
  have C8 := hc7.keep (by show 0 < 2; decide) K8 (fun e => e)
  have V8 := V7.keep0 K8
  have z8 : w8.heap.size = w.heap.size + 1 + 1 + 1 := by rw [zz8]; simp; omega
  clear zz8 k8 hlk
  cases ok with
  | true =>
    obtain ⟨ps', c', xs', g1, g2, g3, g4, g5, g6⟩ := HG.out rfl
    have hx : xs = xs' := by
      rcases (ho.stay (K7.stay (fun _ _ _ e => e))).1.2 with ⟨q1, _⟩ | ⟨ga, ca, cu, q1, _, hg1, _, _, _, ht1⟩
      · cases q1
      rcases g1.1.2 with ⟨q2, _⟩ | ⟨gb, cb, cv, q2, _, hg2, _, _, _, ht2⟩
      · cases q2
      injection q1 with q1 _ _
      injection q1 with q1
      injection q1 with q1 _ _
      injection q2 with q2 _ _
      injection q2 with q2
      injection q2 with q2 _ _
      subst q1 q2
      rw [hg1] at hg2
      injection hg2 with hg2
      injection hg2 with hg2 _ _
      rw [← ht1, ← ht2, hg2]
    subst hx
    have hpp : ps = ps' := SL.uniq (ht.stay (K7.stay (fun _ _ _ e => e))) g3
    subst hpp
    have FIN : Hid (vlV d m = vlV (mzSL ps).1 (mzSL ps).2 ∧ ∀ W', Keeps (fun i => i = w.heap.size) w8 W' → SVT w B v me ms ns p c W' (wq || wrSL ps) (nmSL ps ns)) := by
      refine ⟨by rw [g4], fun W' k' => ?_⟩
      have hw : (wq || wrSL ps) = wq := by
        cases hq : wrSL ps
        · exact Bool.or_false _
        · rw [g5 hq]; rfl
      rw [hw, g6 ns (Ext.refl _)]
      have kk : Keeps (fun _ => False) w W' := (K7.trans K8).trans' k' (fun _ _ e => e) (fun i hi e => by omega)
      exact ⟨p, c, V.keep0 kk, fun _ e => .inl e, kk.mono (fun _ _ e => e.elim)⟩
    clear HG g1 g2 g3 g4 g5 g6 z7 z8
    go_wp2_with (first | (refine wpList_load_runL rfl 74 _ rfl ⟨w7.heap.size, 0, none⟩ rfl _ (run_sz hc8) ?_) | (refine wpList_store_cl rfl 74 _ _ rfl w.heap.size 0 2 _ rfl rfl rfl M8 (by show 2 ≤ 2; decide) iSz one2 ?_; intro w9 hc9 k9 zz9; clear zz9))
    have hc6 : CL w9 w.heap.size [.int .i64 (d : Int), .int .i64 (m : Int)] := hc9
    have hrn := run_sz hc6
    refine bodyPost_ret (v := vlV d m) (by rw [results_cell1 rfl]; simp [asAddr, hrn]) rfl ?_
    exact ⟨congrArg Ending.returned FIN.out.1, FIN.out.2 _ k9⟩
  | false =>
    clear HG
    go_wp2_with fail
    refine H1.out _ _ ?_
    clear H1 K1
    have Z8 : Hid (w8.heap.size = w.heap.size + 1 + 1 + 1) := z8
    have S0 : Hid (SuE w B v me ms (Value.slice p ns.length c).ownBlock g n (w8.alloc (.cells zZ.toArray 74)) (0, 0) wq ns p c) := by
      have ka := (Keeps.refl (fun _ => False) w8).alloc (.cells zZ.toArray 74)
      exact ⟨by rw [← z8]; exact CL.made w8 zZ _, C8.keep (by show 0 < 2; decide) ka (fun e => e), M8.keep (by show 0 < 2; decide) ka (fun e => e), V8.keep0 ka, (((K7.trans K8).trans ka).mono (fun _ _ e => e.elim)), fun i e => .inl e, hlow⟩
    clear z7 Z7 z8 K8 M8 C8 V8 hc8 hc7 K7 M7 V7 m0
    go_wp2_with fail
    go_loopw [31] (fun iv Wr => ∃ (i : Nat) (acc : Nat × Nat) (wri : Bool) (nsi : List Bs) (p' : Option Addr) (c' : Nat), iv = .int .i64 (i : Int) ∧ i ≤ n ∧ (wtM acc (mzSL (ps.drop i)) = mzSL ps ∧ acc.1 < 9223372036854775808) ∧ (wri || wrSL (ps.drop i)) = (wq || wrSL ps) ∧ nmSL (ps.drop i) nsi = nmSL ps ns ∧ SuE w B v me ms (Value.slice p ns.length c).ownBlock g n Wr acc wri nsi p' c') (fun iv _ => n + 1 - (intOf iv).toNat)
    case atStart => exact ⟨0, (0, 0), wq, ns, p, c, rfl, by omega, ⟨(wtM_zero _).trans (nrm_id (mzSL_lt ps)), by decide⟩, rfl, rfl, S0.out⟩
    case round =>
      clear S0
      obtain ⟨i, acc, wri, nsi, pi, ci, rfl, hi, ⟨hq1, hq0⟩, hq2, hq3, hS⟩ := hrel
      have hle := mzSL_le ps
      have hb2 := hbig.2
      have hacc : acc.1 < 9223372036854775808 ∧ acc.2 ≤ 4503599627370496 := by
        have h2 := congrArg Prod.snd hq1
        unfold wtM at h2
        simp only at h2
        exact ⟨hq0, by omega⟩
      by_cases hin : i < n
      · have hin2 : i < ps.length := by rw [← HN.out]; exact hin
        obtain ⟨t, htt⟩ : ∃ t, t = ps[i] := ⟨_, rfl⟩
        have hdr : ps.drop i = t :: ps.drop (i + 1) := by rw [htt]; exact List.drop_eq_getElem_cons hin2
        have hgt : ps[i]? = some t := by rw [htt]; exact List.getElem?_eq_getElem hin2
        have hbt : bgS t ≤ bgSL ps := bgS_at ps i t hgt
        have hsz : (mzS t).1 ≤ 9223372036854775808 ∧ (mzS t).2 ≤ 4503599627370496 := by have := mzS_le t; omega
        rw [hdr] at hq1 hq2 hq3
        have HQ : Hid (wtM (wtM acc (mzS t)) (mzSL (ps.drop (i + 1))) = mzSL ps ∧ ((wri || wrS t) || wrSL (ps.drop (i + 1))) = (wq || wrSL ps) ∧ nmSL (ps.drop (i + 1)) (nmS t nsi) = nmSL ps ns) := by
          refine ⟨?_, ?_, ?_⟩
          · rw [wtM_assoc, ← hq1, mzSL]
          · rw [Bool.or_assoc, ← hq2, wrSL]
          · rw [← hq3, nmSL]
        clear hq1 hq2 hq3 hdr htt
        obtain ⟨ys, hty, hyc⟩ := ht.at i t hgt
        have hPt : PtS w B g (i * 12) t := ⟨hgB, ys, hty, fun j x e => hcl.c (i * 12 + j) x (hyc j x e)⟩
        have hkp := hS.kp
        have hPr := hPt.keep hkp (fun k hk e => by have := hS.lo k e; omega)
        have kd := (Keeps.refl (fun _ => False) wr).drew
        have Sd := hS.keep0 kd
        have hE := IH t (by omega) (hbig.1.at hgt) wr.drew B v me ms wri nsi pi ci g (i * 12) Sd.V (hPr.keep kd (fun _ _ e => e))
        clear hPr hPt hkp kd hty hyc hgt
        have d1 : decide ((i : Int) < (n : Int)) = true := decide_eq_true (by omega)
        have d2 : decide (i < n) = true := decide_eq_true hin
        have i0 : (0 : Int) ≤ (i : Int) := by omega
        have i1 : (i : Int) < (n : Int) := by omega
        have i2 : (i : Int) + 1 ≤ 9223372036854775807 := by omega
        have HB : Hid (bgS t ≤ bgSL ps) := hbt
        clear hbt
        go_wp2_with fail
        refine wp_region_held_drew (S := fun _ => True) (by kernel_rfl) trivial (fun hHeld => ?_)
        refine wpAnyH_take (i := 1) (v := ?_) rfl (by kernel_rfl) (by kernel_rfl) (by kernel_rfl) (fun _ _ _ h => h) (Or.inl ⟨by rfl, ?_⟩) (by assumption) ?_
        rotate_left
        · intro wx hSw; clear hSw; go_simp <;> with_reducible rfl
        (try simp only [List.getElem_toArray]); (try simp only [List.getElem_cons_succ]); (try simp only [List.getElem_cons_zero]); (try simp only [Act.put]); (try simp only [List.setIfInBounds_toArray]); (repeat first | simp only [List.set_cons_succ] | simp only [List.set_cons_zero])
        refine wpAnyH_take (i := 2) (v := ?_) rfl (by kernel_rfl) (by kernel_rfl) (by kernel_rfl) (fun _ _ _ h => h) (Or.inl ⟨by rfl, ?_⟩) (by assumption) ?_
        rotate_left
        · intro wx hSw; clear hSw; go_simp <;> with_reducible rfl
        (try simp only [List.getElem_toArray]); (try simp only [List.getElem_cons_succ]); (try simp only [List.getElem_cons_zero]); (try simp only [Act.put]); (try simp only [List.setIfInBounds_toArray]); (repeat first | simp only [List.set_cons_succ] | simp only [List.set_cons_zero])
        refine wpAnyH_take (i := 3) (v := ?_) rfl (by kernel_rfl) (by kernel_rfl) (by kernel_rfl) (fun _ _ _ h => h) (Or.inl ⟨by rfl, ?_⟩) (by assumption) ?_
        rotate_left
        · intro wx hSw; clear hSw; go_simp <;> with_reducible rfl
        (try simp only [List.getElem_toArray]); (try simp only [List.getElem_cons_succ]); (try simp only [List.getElem_cons_zero]); (try simp only [Act.put]); (try simp only [List.setIfInBounds_toArray]); (repeat first | simp only [List.set_cons_succ] | simp only [List.set_cons_zero])
        refine wpAnyH_take (i := 4) (v := ?_) rfl (by kernel_rfl) (by kernel_rfl) (by kernel_rfl) (fun _ _ _ h => h) (Or.inl ⟨by rfl, ?_⟩) (by assumption) ?_
        rotate_left
        · intro wx hSw; clear hSw; go_simp <;> with_reducible rfl
        (try simp only [List.getElem_toArray]); (try simp only [List.getElem_cons_succ]); (try simp only [List.getElem_cons_zero]); (try simp only [Act.put]); (try simp only [List.setIfInBounds_toArray]); (repeat first | simp only [List.set_cons_succ] | simp only [List.set_cons_zero])
        refine wpAnyH_two' 0 5 (by kernel_rfl) rfl rfl (by kernel_rfl) (by kernel_rfl) ?_ ?_
        · refine wp_loadK 74 _ rfl ⟨w8.heap.size, 0, none⟩ rfl _ (run_sz (by rw [Z8.out]; exact Sd.a)) ?_
          refine ⟨trivial, fun _ => ?_⟩
          (try simp only [List.getElem_toArray]); (try simp only [List.getElem_cons_succ]); (try simp only [List.getElem_cons_zero]); (try simp only [Act.put]); (try simp only [List.setIfInBounds_toArray]); (repeat first | simp only [List.set_cons_succ] | simp only [List.set_cons_zero])
          refine wpAnyH_one 5 (by kernel_rfl) rfl rfl ?_
          refine wp_callF 40 _ _ rfl _ _ rfl rfl (fun _ _ => rfl) (hE.mono ?_)
          rintro e w1 ⟨rfl, q1⟩
          obtain ⟨p', c', S1⟩ := Sd.step q1
          refine ⟨_, rfl, trivial, fun _ => ?_⟩
          (try simp only [List.getElem_toArray]); (try simp only [List.getElem_cons_succ]); (try simp only [List.getElem_cons_zero]); (try simp only [Act.put]); (try simp only [List.setIfInBounds_toArray]); (repeat first | simp only [List.set_cons_succ] | simp only [List.set_cons_zero])
          refine wpAnyH_one 6 (by kernel_rfl) rfl rfl ?_
          refine wp_call2 51 _ _ rfl _ _ rfl rfl (fun _ _ => rfl) ((with_any w1 acc (mzS t) hacc hsz).mono ?_)
          rintro e w2 ⟨rfl, k2⟩
          have S2 := S1.keep0 k2
          refine ⟨_, rfl, trivial, fun _ => ?_⟩
          (try simp only [List.getElem_toArray]); (try simp only [List.getElem_cons_succ]); (try simp only [List.getElem_cons_zero]); (try simp only [Act.put]); (try simp only [List.setIfInBounds_toArray]); (repeat first | simp only [List.set_cons_succ] | simp only [List.set_cons_zero])
          have A2 : CL w2 w8.heap.size [.int .i64 (acc.1 : Int), .int .i64 (acc.2 : Int)] := by rw [Z8.out]; exact S2.a
          obtain ⟨X, hX⟩ : ∃ X, X = w2.setCells w8.heap.size 0 [.int .i64 ((wtM acc (mzS t)).1 : Int), .int .i64 ((wtM acc (mzS t)).2 : Int)] := ⟨_, rfl⟩
          have kX : Keeps (fun i => i = w.heap.size + 1 + 1 + 1) w2 X := by rw [hX]; exact ((Keeps.refl (fun i => i = w8.heap.size) w2).setsA _ _).mono (fun i _ e => by rw [← Z8.out]; exact e)
          have cX : CL X w8.heap.size [.int .i64 ((wtM acc (mzS t)).1 : Int), .int .i64 ((wtM acc (mzS t)).2 : Int)] := by rw [hX]; exact A2.sets (o := 0) (by show 0 + 2 ≤ 2; decide)
          refine wpAnyH_store 7 (by kernel_rfl) rfl rfl 74 _ _ rfl w8.heap.size 0 2 #[.int .i64 ((wtM acc (mzS t)).1 : Int), .int .i64 ((wtM acc (mzS t)).2 : Int)] rfl rfl rfl (A2.there (by show 0 + 2 ≤ 2; decide)) iSz one2 trivial (fun _ => ?_)
          (try simp only [List.getElem_toArray]); (try simp only [List.getElem_cons_succ]); (try simp only [List.getElem_cons_zero]); (try simp only [Act.put]); (try simp only [List.setIfInBounds_toArray]); (repeat first | simp only [List.set_cons_succ] | simp only [List.set_cons_zero])
          refine wpAnyH_done (by kernel_rfl) ?_ _
          have hx10 : w2.setCells w8.heap.size 0 (#[.int .i64 ((wtM acc (mzS t)).1 : Int), .int .i64 ((wtM acc (mzS t)).2 : Int)] : Array Value).toList = X := hX.symm
          have SX : Hid (SuE w B v me ms (Value.slice p ns.length c).ownBlock g n X (wtM acc (mzS t)) (wri || wrS t) (nmS t nsi) p' c') := S2.box kX (by rw [← Z8.out]; exact cX)
          rw [hx10]
          clear hx10 hX cX kX A2 S2 S1 Sd q1 hE
          go_wp2_with fail
          go_roundw
          case rel => exact ⟨i + 1, wtM acc (mzS t), wri || wrS t, nmS t nsi, p', c', by go_num, by omega, ⟨HQ.out.1, wtM_lt _ _⟩, HQ.out.2.1, HQ.out.2.2, SX.out⟩
          case measure => simp [intOf]; omega
        · refine wp_callF 40 _ _ rfl _ _ rfl rfl (fun _ _ => rfl) (hE.mono ?_)
          rintro e w1 ⟨rfl, q1⟩
          obtain ⟨p', c', S1⟩ := Sd.step q1
          refine ⟨_, rfl, trivial, fun _ => ?_⟩
          (try simp only [List.getElem_toArray]); (try simp only [List.getElem_cons_succ]); (try simp only [List.getElem_cons_zero]); (try simp only [Act.put]); (try simp only [List.setIfInBounds_toArray]); (repeat first | simp only [List.set_cons_succ] | simp only [List.set_cons_zero])
          refine wpAnyH_one 0 (by kernel_rfl) rfl rfl ?_
          refine wp_loadK 74 _ rfl ⟨w8.heap.size, 0, none⟩ rfl _ (run_sz (by rw [Z8.out]; exact S1.a)) ?_
          refine ⟨trivial, fun _ => ?_⟩
          (try simp only [List.getElem_toArray]); (try simp only [List.getElem_cons_succ]); (try simp only [List.getElem_cons_zero]); (try simp only [Act.put]); (try simp only [List.setIfInBounds_toArray]); (repeat first | simp only [List.set_cons_succ] | simp only [List.set_cons_zero])
          refine wpAnyH_one 6 (by kernel_rfl) rfl rfl ?_
          refine wp_call2 51 _ _ rfl _ _ rfl rfl (fun _ _ => rfl) ((with_any w1 acc (mzS t) hacc hsz).mono ?_)
          rintro e w2 ⟨rfl, k2⟩
          have S2 := S1.keep0 k2
          refine ⟨_, rfl, trivial, fun _ => ?_⟩
          (try simp only [List.getElem_toArray]); (try simp only [List.getElem_cons_succ]); (try simp only [List.getElem_cons_zero]); (try simp only [Act.put]); (try simp only [List.setIfInBounds_toArray]); (repeat first | simp only [List.set_cons_succ] | simp only [List.set_cons_zero])
          have A2 : CL w2 w8.heap.size [.int .i64 (acc.1 : Int), .int .i64 (acc.2 : Int)] := by rw [Z8.out]; exact S2.a
          obtain ⟨X, hX⟩ : ∃ X, X = w2.setCells w8.heap.size 0 [.int .i64 ((wtM acc (mzS t)).1 : Int), .int .i64 ((wtM acc (mzS t)).2 : Int)] := ⟨_, rfl⟩
          have kX : Keeps (fun i => i = w.heap.size + 1 + 1 + 1) w2 X := by rw [hX]; exact ((Keeps.refl (fun i => i = w8.heap.size) w2).setsA _ _).mono (fun i _ e => by rw [← Z8.out]; exact e)
          have cX : CL X w8.heap.size [.int .i64 ((wtM acc (mzS t)).1 : Int), .int .i64 ((wtM acc (mzS t)).2 : Int)] := by rw [hX]; exact A2.sets (o := 0) (by show 0 + 2 ≤ 2; decide)
          refine wpAnyH_store 7 (by kernel_rfl) rfl rfl 74 _ _ rfl w8.heap.size 0 2 #[.int .i64 ((wtM acc (mzS t)).1 : Int), .int .i64 ((wtM acc (mzS t)).2 : Int)] rfl rfl rfl (A2.there (by show 0 + 2 ≤ 2; decide)) iSz one2 trivial (fun _ => ?_)
          (try simp only [List.getElem_toArray]); (try simp only [List.getElem_cons_succ]); (try simp only [List.getElem_cons_zero]); (try simp only [Act.put]); (try simp only [List.setIfInBounds_toArray]); (repeat first | simp only [List.set_cons_succ] | simp only [List.set_cons_zero])
          refine wpAnyH_done (by kernel_rfl) ?_ _
          have hx10 : w2.setCells w8.heap.size 0 (#[.int .i64 ((wtM acc (mzS t)).1 : Int), .int .i64 ((wtM acc (mzS t)).2 : Int)] : Array Value).toList = X := hX.symm
          have SX : Hid (SuE w B v me ms (Value.slice p ns.length c).ownBlock g n X (wtM acc (mzS t)) (wri || wrS t) (nmS t nsi) p' c') := S2.box kX (by rw [← Z8.out]; exact cX)
          rw [hx10]
          clear hx10 hX cX kX A2 S2 S1 Sd q1 hE
          go_wp2_with fail
          go_roundw
          case rel => exact ⟨i + 1, wtM acc (mzS t), wri || wrS t, nmS t nsi, p', c', by go_num, by omega, ⟨HQ.out.1, wtM_lt _ _⟩, HQ.out.2.1, HQ.out.2.2, SX.out⟩
          case measure => simp [intOf]; omega
      · obtain rfl : i = n := by omega
        have d1 : decide ((i : Int) < (i : Int)) = false := decide_eq_false (by omega)
        have d2 : decide (i < i) = false := decide_eq_false (by omega)
        have hdn : ps.drop i = [] := by rw [HN.out]; exact List.drop_length
        rw [hdn] at hq1 hq2 hq3
        have a1 : acc = mzSL ps := by rw [← hq1, mzSL, wtM_zero', nrm_id hq0]
        have a2 : wri = (wq || wrSL ps) := by rw [← hq2, wrSL, Bool.or_false]
        have a3 : nsi = nmSL ps ns := by rw [← hq3, nmSL]
        clear hq1 hq2 hq3 hdn
        have stw : Stay (fun g => g < B) w wr := hS.kp.stay (fun k hk _ e => by have := hS.lo k e; omega)
        have hGo : GoS wr (fun g => g < B) wri nsi g i acc.1 acc.2 := ⟨ps, cq, xs, ho.stay stw, HN.out.symm, ht.stay stw, by rw [← a1], fun q => by rw [a2, q]; simp, fun ns2 q => nmSL_again ps ns ns2 (by rw [← a3]; exact q)⟩
        have hAlr : Alive wr g := (own_alive (ho.stay stw)).1
        obtain ⟨W1, hput, hm1, kput, -⟩ := hS.V.ss.put memoS hAlr hGo
        have S1 := hS.putS kput hm1
        have ka := hS.k
        have kb : CL wr w8.heap.size [.int .i64 (acc.1 : Int), .int .i64 (acc.2 : Int)] := by rw [Z8.out]; exact hS.a
        have kc : CL W1 w8.heap.size [.int .i64 (acc.1 : Int), .int .i64 (acc.2 : Int)] := by rw [Z8.out]; exact S1.a
        have FIN : Hid (vlV acc.1 acc.2 = vlV (mzSL ps).1 (mzSL ps).2 ∧ ∀ W', Keeps (fun i => i = w.heap.size) W1 W' → SVT w B v me ms ns p c W' (wq || wrSL ps) (nmSL ps ns)) := ⟨by rw [a1], fun W' k' => by rw [← a2, ← a3]; exact S1.fin k'⟩
        have Mr := S1.r
        clear hGo stw hm1 a1 a2 a3 hacc hle hAlr
        go_wp2_with (first | (refine wpList_load_runL rfl 100 _ rfl ⟨w.heap.size + 1, 0, none⟩ rfl _ (run_plS ka) ?_; clear ka) | (refine wpList_load_runL rfl 74 _ rfl ⟨w8.heap.size, 0, none⟩ rfl _ (run_sz kb) ?_) | (refine wpList_load_runL rfl 74 _ rfl ⟨w8.heap.size, 0, none⟩ rfl _ (run_sz kc) ?_) | (refine wpList_store_cl rfl 74 _ _ rfl w.heap.size 0 2 _ rfl rfl rfl Mr (by show 2 ≤ 2; decide) iSz one2 ?_; intro w9 hc9 k9 zz9; clear zz9))
        have hc6 : CL w9 w.heap.size [.int .i64 (acc.1 : Int), .int .i64 (acc.2 : Int)] := hc9
        have hrn := run_sz hc6
        refine bodyPost_ret (v := vlV acc.1 acc.2) (by rw [results_cell1 rfl]; simp [asAddr, hrn]) rfl ?_
        exact ⟨congrArg Ending.returned FIN.out.1, FIN.out.2 _ k9⟩
theorem gA {α : Type} {xs : List α} {i : Nat} (h : i < xs.toArray.size) : xs.toArray[i] = xs[i]'(by simpa using h) := rfl
theorem gB {α : Type} (a : α) (r : List α) (i : Nat) (h : i + 1 < (a :: r).length) : (a :: r)[i + 1] = r[i]'(Nat.lt_of_succ_lt_succ h) := rfl
theorem gC {α : Type} (a : α) (r : List α) (h : 0 < (a :: r).length) : (a :: r)[0] = a := rfl
theorem gD {α : Type} (xs : List α) (i : Nat) (a : α) : xs.toArray.setIfInBounds i a = (xs.set i a).toArray := List.setIfInBounds_toArray xs i a
theorem gE {α : Type} (x : α) (xs : List α) (n : Nat) (a : α) : (x :: xs).set (n + 1) a = x :: xs.set n a := rfl
theorem gF {α : Type} (x : α) (xs : List α) (a : α) : (x :: xs).set 0 a = a :: xs := rfl
/-- The contract of the survey's statements. -/
def CSS (N : Nat) : Prop := ∀ (ps : List St), bgSL ps ≤ N → FtSL ps → ps.length * 184 ≤ 140737488355327 → ∀ (W : World) (B v me ms : Nat) (wr : Bool) (ns : List Bs) (p : Option Addr) (c : Nat) (q : Option Addr) (cq : Nat) (xs : List Value), SV W B v me ms wr ns p c → OwnP W (fun g => g < B) 34 12 (.slice q ps.length cq) ps.length xs → SL W (fun g => g < B) 32 34 ps xs →
  Calls Tryd.prog 24 #[pR v, .slice q ps.length cq] W fun e w' => e = .returned (vlV (mzSL ps).1 (mzSL ps).2) ∧ SVT W B v me ms ns p c w' (wr || wrSL ps) (nmSL ps ns)
set_option maxHeartbeats 1000000 in
set_option maxRecDepth 100000 in
theorem css_of {N : Nat} (IH : CXS N) : CSS N := by
  intro ps hb hF hF2 w B v me ms wr ns p c q cq xs V ho hl
  have ka := (Keeps.refl (fun _ => False) w).alloc (.cells zZ.toArray 74)
  have m0 := CL.made w zZ 74
  have Va := V.keep0 ka
  have hlw := V.low
  have sta : Stay (fun g => g < B) w (w.alloc (.cells zZ.toArray 74)) := ka.stay (fun _ _ _ e => e)
  have hSum := sumS IH Va (ho.stay sta) (hl.stay sta) hb ⟨hF, hF2⟩
  obtain ⟨wa, hwa⟩ : ∃ wa, wa = w.alloc (.cells zZ.toArray 74) := ⟨_, rfl⟩
  have y3 := Va.cl.c 3 _ rfl
  have low3 : ∀ i, svS v me ms (Value.slice p ns.length c).ownBlock i → i ≠ w.heap.size := fun i hi e => by have := (hlw i hi).2; omega
  clear hwa sta ho hl
  generalize hs1 : (mzSL ps).1 = s1 at *
  generalize hs2 : (mzSL ps).2 = s2 at *
  clear hs1 hs2
  go_enter Tryd.func24, Tryd.ntmps24
  go_wp2_with (first | (go_at_call 39; refine hSum.mono ?_; rintro e w4 ⟨rfl, T4⟩; have M4 := T4.cl (by show 0 < 2; decide) m0 low3; clear hSum) | (refine wpList_store_cl rfl 74 _ _ rfl w.heap.size 0 2 _ rfl rfl rfl M4 (by show 2 ≤ 2; decide) iSz one2 ?_; intro w9 hc9 k9 zz9; clear zz9))
  have hc6 : CL w9 w.heap.size [.int .i64 (s1 : Int), .int .i64 (s2 : Int)] := hc9
  have hrn := run_sz hc6
  refine bodyPost_ret (v := vlV s1 s2) (by rw [results_cell1 rfl]; simp [asAddr, hrn]) rfl ?_
  exact ⟨rfl, SVT.fin V T4 k9⟩
/-- A statement's survey on its way: the box x holds the sum. -/
structure SuT (w : World) (B v me ms : Nat) (own : Option Nat) (x : Nat) (Wr : World) (acc : Nat × Nat) (wr : Bool) (ns : List Bs) (p : Option Addr) (c : Nat) : Prop where
  a : CL Wr x [.int .i64 (acc.1 : Int), .int .i64 (acc.2 : Int)]
  r : CL Wr w.heap.size zZ
  V : SV Wr B v me ms wr ns p c
  kp : Keeps (svS v me ms own) w Wr
  no : ∀ i, (Value.slice p ns.length c).ownBlock = some i → own = some i ∨ x < i
  lo : ∀ i, svS v me ms own i → B ≤ i ∧ i < w.heap.size
  x : w.heap.size < x
section
variable {w : World} {B v me ms : Nat} {own : Option Nat} {x : Nat} {Wr W' : World} {acc acc' : Nat × Nat} {wr wr' : Bool} {ns ns' : List Bs} {p : Option Addr} {c : Nat}
theorem SuT.step (h : SuT w B v me ms own x Wr acc wr ns p c) (q : SVT Wr B v me ms ns p c W' wr' ns') : ∃ p' c', SuT w B v me ms own x W' acc wr' ns' p' c' := by
  obtain ⟨p', c', V', no', k'⟩ := q
  have hz := h.a.lt (by show 0 < 2; decide)
  have hx := h.x
  have nb : ∀ i, w.heap.size ≤ i → i ≤ x → ¬ svS v me ms (Value.slice p ns.length c).ownBlock i := by
    intro i h1 h2 e
    rcases e with e | e | e | e
    · have := (h.lo v (.inl rfl)).2; omega
    · have := (h.lo me (.inr (.inl rfl))).2; omega
    · have := (h.lo ms (.inr (.inr (.inl rfl)))).2; omega
    · rcases h.no i e with e | e
      · have := (h.lo i (.inr (.inr (.inr e)))).2; omega
      · omega
  refine ⟨p', c', h.a.keep (by show 0 < 2; decide) k' (nb _ (by omega) (by omega)), h.r.keep (by show 0 < 2; decide) k' (nb _ (by omega) (by omega)), V', h.kp.trans' k' (fun _ _ e => e) (fun i hi e => ?_), fun i e => ?_, h.lo, h.x⟩
  · rcases e with e | e | e | e
    · exact .inl e
    · exact .inr (.inl e)
    · exact .inr (.inr (.inl e))
    · rcases h.no i e with e | e
      · exact .inr (.inr (.inr e))
      · omega
  · rcases no' i e with e | e
    · exact h.no i e
    · exact .inr (by omega)
theorem SuT.keep0 (h : SuT w B v me ms own x Wr acc wr ns p c) (k : Keeps (fun _ => False) Wr W') : SuT w B v me ms own x W' acc wr ns p c :=
  ⟨h.a.keep (by show 0 < 2; decide) k (fun e => e), h.r.keep (by show 0 < 2; decide) k (fun e => e), h.V.keep0 k, h.kp.trans (k.mono (fun _ _ e => e.elim)), h.no, h.lo, h.x⟩
/-- A box of the call's own is written. -/
theorem SuT.box (h : SuT w B v me ms own x Wr acc wr ns p c) (k : Keeps (fun i => i = x) Wr W') (ca : CL W' x [.int .i64 (acc'.1 : Int), .int .i64 (acc'.2 : Int)]) : SuT w B v me ms own x W' acc' wr ns p c := by
  have hx := h.x
  refine ⟨ca, h.r.keep (by show 0 < 2; decide) k (fun e => by omega), h.V.keep k (fun i hi e => ?_) (fun i hi e => ?_), h.kp.trans' k (fun _ _ e => e) (fun i hi e => by omega), h.no, h.lo, h.x⟩
  · rcases hi with q | q | q | q
    · have := (h.lo v (.inl rfl)).2; omega
    · have := (h.lo me (.inr (.inl rfl))).2; omega
    · have := (h.lo ms (.inr (.inr (.inl rfl)))).2; omega
    · rcases h.no i q with q | q
      · have := (h.lo i (.inr (.inr (.inr q)))).2; omega
      · omega
  · have := h.lo v (.inl rfl); omega
theorem SuT.cell (h : SuT w B v me ms own x Wr acc wr ns p c) {b o : Nat} {u : Value} (e : w.cell? ⟨b, o, none⟩ = some u) (hb : b < B) : Wr.cell? ⟨b, o, none⟩ = some u := h.kp.cell e (fun q => by have := h.lo b q; omega)
theorem SuT.stay (h : SuT w B v me ms own x Wr acc wr ns p c) : Stay (fun g => g < B) w Wr := h.kp.stay (fun i hi _ e => by have := h.lo i e; omega)
end
theorem SuT.fin {w : World} {B v me ms : Nat} {x : Nat} {Wr W' : World} {acc : Nat × Nat} {wr : Bool} {ns ns0 : List Bs} {p p0 : Option Addr} {c c0 : Nat} (h : SuT w B v me ms (Value.slice p0 ns0.length c0).ownBlock x Wr acc wr ns p c) (k : Keeps (fun i => i = w.heap.size) Wr W') : SVT w B v me ms ns0 p0 c0 W' wr ns := by
  have hx := h.x
  refine ⟨p, c, h.V.keep k (fun i hi e => ?_) (fun i hi e => ?_), fun i e => (h.no i e).imp (fun q => q) (fun q => by omega), h.kp.trans' k (fun _ _ e => e) (fun i hi e => by omega)⟩
  · rcases hi with q | q | q | q
    · have := (h.lo v (.inl rfl)).2; omega
    · have := (h.lo me (.inr (.inl rfl))).2; omega
    · have := (h.lo ms (.inr (.inr (.inl rfl)))).2; omega
    · rcases h.no i q with q | q
      · have := (h.lo i (.inr (.inr (.inr q)))).2; omega
      · omega
  · have := h.lo v (.inl rfl); omega
/-- What the last region of a statement reads. -/
structure Y3 (W : World) (x : Nat) (acc : Nat × Nat) (b o : Nat) (qt : Option Addr) (mt ct : Nat) (qe : Option Addr) (me ce : Nat) : Prop where
  a : CL W x [.int .i64 (acc.1 : Int), .int .i64 (acc.2 : Int)]
  t : W.cell? ⟨b, o + 10, none⟩ = some (.slice qt mt ct)
  e : W.cell? ⟨b, o + 11, none⟩ = some (.slice qe me ce)
theorem isZr_zrC {k n : Int} {w : Bs} {ps : List Tr} : isZr (.mk k n w ps) = zrC k n w ps.length := by
  unfold isZr zrC
  cases ps <;> simp
/-- A statement in memory, in its parts. -/
structure SP (w : World) (B b o : Nat) (k : Int) (wd : Bs) (ta tb : Tr) (th el : List St) (ka na : Int) (wa : Bs) (pa : Option Addr) (ma ca : Nat) (kb nb : Int) (wb : Bs) (pb : Option Addr) (mb cb : Nat) (qt : Option Addr) (ct : Nat) (qe : Option Addr) (ce : Nat) (xs ys : List Value) : Prop where
  s : S12 w b o k wd ka na wa pa ma ca kb nb wb pb mb cb qt th.length ct qe el.length ce
  hw : wd.length ≤ 140737488355328
  fa : PtE w B b (o + 2) ta
  fb : PtE w B b (o + 6) tb
  za : isZr ta = zrC ka na wa ma
  zb : isZr tb = zrC kb nb wb mb
  ot : OwnP w (fun g => g < B) 34 12 (.slice qt th.length ct) th.length xs
  lt : SL w (fun g => g < B) 32 34 th xs
  oe : OwnP w (fun g => g < B) 34 12 (.slice qe el.length ce) el.length ys
  le : SL w (fun g => g < B) 32 34 el ys
  lB : b < B
theorem PtS.parts {w : World} {B b o : Nat} {k : Int} {wd : Bs} {ta tb : Tr} {th el : List St} (h : PtS w B b o (.mk k wd ta tb th el)) : ∃ ka na wa pa ma ca kb nb wb pb mb cb qt ct qe ce xs ys, SP w B b o k wd ta tb th el ka na wa pa ma ca kb nb wb pb mb cb qt ct qe ce xs ys := by
  obtain ⟨hb, l, hT, hC⟩ := h
  unfold SC at hT
  obtain ⟨_, hwd, la, lb, tv, ev, xs, ys, rfl, hA, hB, h5, h6, h7, h8⟩ := hT
  obtain ⟨qt, ct, rfl, -⟩ := own_slice h5.1
  obtain ⟨qe, ce, rfl, -⟩ := own_slice h7.1
  obtain ⟨ka, na, wa, psa⟩ := ta
  obtain ⟨kb, nb, wb, psb⟩ := tb
  have hA0 := hA
  have hB0 := hB
  unfold TC at hA hB
  obtain ⟨_, _, _, va, xa, rfl, oa, _⟩ := hA
  obtain ⟨_, _, _, vb, xb, rfl, ob, _⟩ := hB
  obtain ⟨pa, ca, rfl, -⟩ := own_slice oa.1
  obtain ⟨pb, cb, rfl, -⟩ := own_slice ob.1
  have hC := fun (j : Nat) (x : Value) (e : (.int .i64 k :: .string (bs wd) :: ([.int .i64 ka, .int .i64 na, .string (bs wa), .slice pa psa.length ca] ++ ([.int .i64 kb, .int .i64 nb, .string (bs wb), .slice pb psb.length cb] ++ [.slice qt th.length ct, .slice qe el.length ce])) : List Value)[j]? = some x) => hC j x e
  refine ⟨ka, na, wa, pa, psa.length, ca, kb, nb, wb, pb, psb.length, cb, qt, ct, qe, ce, xs, ys, ⟨⟨hC 0 _ rfl, hC 1 _ rfl, ⟨hC 2 _ rfl, hC 3 _ rfl, hC 4 _ rfl, hC 5 _ rfl⟩, ⟨hC 6 _ rfl, hC 7 _ rfl, hC 8 _ rfl, hC 9 _ rfl⟩, hC 10 _ rfl, hC 11 _ rfl⟩, hwd, ⟨hb, _, hA0, fun j x e => ?_⟩, ⟨hb, _, hB0, fun j x e => ?_⟩, isZr_zrC, isZr_zrC, h5, h6, h7, h8, hb⟩⟩
  · match j, e with
    | 0, e => exact hC 2 x e
    | 1, e => exact hC 3 x e
    | 2, e => exact hC 4 x e
    | 3, e => exact hC 5 x e
    | j + 4, e => simp at e
  · match j, e with
    | 0, e => exact hC 6 x e
    | 1, e => exact hC 7 x e
    | 2, e => exact hC 8 x e
    | 3, e => exact hC 9 x e
    | j + 4, e => simp at e
end Go.Proofs.YtehblpbefkopbaaDoor
