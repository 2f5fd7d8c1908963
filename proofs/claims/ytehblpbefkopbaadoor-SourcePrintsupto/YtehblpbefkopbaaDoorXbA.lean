import Derived.Test.YtehblpbefkopbaaDoorXaZ
namespace Go.Proofs.YtehblpbefkopbaaDoor
open Go.RowKit Go.ChangeShapes Go.WideShapes Go.ChangeAt Go.Deep
attribute [local go_sem] Oper.semAt_some run_store_nf run_store_f
theorem bg_at : ∀ (l : List Tr) (i : Nat) (t : Tr), l[i]? = some t → bgE t ≤ bgL l
  | [], i, t, h => by cases h
  | a :: r, 0, t, h => by
    injection h with h; subst h
    unfold bgL; omega
  | a :: r, i + 1, t, h => by
    have := bg_at r i t h
    unfold bgL; omega
theorem own_same {w : World} {b b' s n n' : Nat} {e : TypeId} {a : Value} {xs xs' : List Value} (h : w.ownsRow b e s a n xs) (h' : w.ownsRow b' e s a n' xs') : n = n' ∧ xs = xs' := by
  have l1 := h.1
  have l2 := h'.1
  rcases h.2 with ⟨rfl, h0⟩ | ⟨g, cap, cur, rfl, _, hg, _, _, _, ht⟩
  · rcases h'.2 with ⟨_, h0'⟩ | ⟨g', cap', cur', q, _⟩
    · subst h0 h0'
      rw [Nat.zero_mul] at l1 l2
      exact ⟨rfl, by rw [List.eq_nil_of_length_eq_zero l1, List.eq_nil_of_length_eq_zero l2]⟩
    · cases q
  · rcases h'.2 with ⟨q, _⟩ | ⟨g', cap', cur', q, _, hg', _, _, _, ht'⟩
    · cases q
    · injection q with q1 q2 q3
      injection q1 with q1
      injection q1 with q1 _ _
      subst q1 q2 q3
      rw [hg] at hg'
      injection hg' with hg'
      injection hg' with hg' _ _
      subst hg'
      exact ⟨rfl, ht.symm.trans ht'⟩
mutual
theorem TC.uniq {w : World} {P P' : Nat → Prop} {e : TypeId} : ∀ {t t' : Tr} {l : List Value}, TC w P e t l → TC w P' e t' l → t = t'
  | .mk k n wd ps, .mk k' n' wd' ps', l, h, h' => by
    unfold TC at h h'
    obtain ⟨_, _, _, a, xs, h4, h5, h6⟩ := h
    obtain ⟨_, _, _, a', xs', h4', h5', h6'⟩ := h'
    rw [h4] at h4'
    simp only [List.cons.injEq, Value.int.injEq, Value.string.injEq, true_and, and_true] at h4'
    obtain ⟨rfl, rfl, hw, rfl⟩ := h4'
    have hw := bs_inj hw
    subst hw
    obtain ⟨_, rfl⟩ := own_same h5.1 h5'.1
    rw [TL.uniq h6 h6']
theorem TL.uniq {w : World} {P P' : Nat → Prop} {e : TypeId} : ∀ {ps ps' : List Tr} {l : List Value}, TL w P e ps l → TL w P' e ps' l → ps = ps'
  | [], [], _, _, _ => rfl
  | [], t :: r, l, h, h' => by
    unfold TL at h h'
    obtain ⟨ys, zs, h1, h2, _⟩ := h'
    have := h2.len
    rw [h] at h1
    have := congrArg List.length h1
    simp at this; omega
  | t :: r, [], l, h, h' => by
    unfold TL at h h'
    obtain ⟨ys, zs, h1, h2, _⟩ := h
    have := h2.len
    rw [h'] at h1
    have := congrArg List.length h1
    simp at this; omega
  | t :: r, t' :: r', l, h, h' => by
    unfold TL at h h'
    obtain ⟨ys, zs, h1, h2, h3⟩ := h
    obtain ⟨ys', zs', h1', h2', h3'⟩ := h'
    rw [h1] at h1'
    obtain ⟨rfl, rfl⟩ := List.append_inj h1' (by rw [h2.len, h2'.len])
    rw [TC.uniq h2 h2', TL.uniq h3 h3']
end
theorem MMap.mapE {W W' : World} {B mb : Nat} {wr : Bool} {ns : List Bs} (h : MMap W' mb (GoE W (fun g => g < B) wr ns)) (k : Keeps (fun i => i = mb) W W') (hB : B ≤ mb) : MMap W' mb (GoE W' (fun g => g < B) wr ns) := by
  obtain ⟨es, cl, h1, h2⟩ := h.h
  refine ⟨es, cl, h1, fun e he => ?_⟩
  obtain ⟨b, n, d, m, q1, q2, q3, q4⟩ := h2 e he
  exact ⟨b, n, d, m, q1, q2, q3, q4.go (k.stay (fun i hi _ e => by omega)) (fun q => q) (Ext.refl _)⟩
theorem SuE.put {w : World} {B v me ms : Nat} {own : Option Nat} {g n : Nat} {Wr W' : World} {acc : Nat × Nat} {wr : Bool} {ns : List Bs} {p : Option Addr} {c : Nat} (h : SuE w B v me ms own g n Wr acc wr ns p c) (k : Keeps (fun i => i = me) Wr W') (hm : MMap W' me (GoE Wr (fun g => g < B) wr ns)) : SuE w B v me ms own g n W' acc wr ns p c := by
  have hlo := h.lo me (.inr (.inl rfl))
  have nb : ∀ i, w.heap.size ≤ i → ¬ i = me := fun i hi e => by omega
  refine ⟨h.a.keep (by show 0 < 2; decide) k (nb _ (by omega)), h.k.keep (by show 0 < 2; decide) k (nb _ (by omega)), h.r.keep (by show 0 < 2; decide) k (nb _ (by omega)), ⟨h.V.cl.keep (by show 0 < 4; decide) k (fun e => h.V.nvm e), ⟨k.owns h.V.nm.1 (fun i hi e => (h.V.nd i hi).2.1 e), h.V.nm.2⟩, hm.mapE k h.V.be, h.V.ss.goS k (fun e => h.V.ne e.symm) (fun i hi e => by have := h.V.be; omega) (fun q => q) (Ext.refl _), h.V.g.keep k (fun i hi e => by have := h.V.be; have := h.V.lo; omega), h.V.bv, h.V.be, h.V.bm, h.V.ne, h.V.nd, h.V.l, h.V.lo⟩, h.kp.trans' k (fun _ _ e => e) (fun i hi e => .inr (.inl e)), h.no, h.lo⟩
theorem SuE.fin {w : World} {B v me ms : Nat} {g n : Nat} {Wr W' : World} {acc : Nat × Nat} {wr : Bool} {ns ns0 : List Bs} {p p0 : Option Addr} {c c0 : Nat} (h : SuE w B v me ms (Value.slice p0 ns0.length c0).ownBlock g n Wr acc wr ns p c) (k : Keeps (fun i => i = w.heap.size) Wr W') : SVT w B v me ms ns0 p0 c0 W' wr ns := by
  refine ⟨p, c, h.V.keep k (fun i hi e => ?_) (fun i hi e => ?_), fun i e => (h.no i e).imp (fun q => q) (fun q => by omega), h.kp.trans' k (fun _ _ e => e) (fun i hi e => by omega)⟩
  · rcases hi with q | q | q | q
    · have := (h.lo v (.inl rfl)).2; omega
    · have := (h.lo me (.inr (.inl rfl))).2; omega
    · have := (h.lo ms (.inr (.inr (.inl rfl)))).2; omega
    · rcases h.no i q with q | q
      · have := (h.lo i (.inr (.inr (.inr q)))).2; omega
      · omega
  · have := h.lo v (.inl rfl); omega
abbrev zP : List Value := [.pointer none, .int .i64 0]
set_option maxHeartbeats 2000000 in
set_option maxRecDepth 100000 in
theorem sumE {N : Nat} (IH : CX N) {w : World} {B v me ms : Nat} {wq : Bool} {ns : List Bs} {p : Option Addr} {c : Nat} (V : SV w B v me ms wq ns p c) {q : Option Addr} {cq : Nat} {ps : List Tr} {xs : List Value} (ho : OwnP w (fun g => g < B) 32 4 (.slice q ps.length cq) ps.length xs) (ht : TL w (fun g => g < B) 32 ps xs) (hb : bgL ps ≤ N) (hbig : FtL ps ∧ ps.length * 56 ≤ 140737488355327) :
    Calls Tryd.prog 64 #[.map (some me), .slice q ps.length cq, .func (.func 54) #[pR v] #[]] w fun e w' => e = .returned (vlV (mzL ps).1 (mzL ps).2) ∧ SVT w B v me ms ns p c w' (wq || wrL ps) (nmL ps ns) := by
  have m0 := CL.made w zZ 74
  have hlow := V.low
  by_cases hps : ps = []
  · subst hps
    rw [show mzL [] = (0, 0) from by unfold mzL; rfl, show wrL [] = false from by unfold wrL; rfl, show nmL [] ns = ns from by unfold nmL; rfl, Bool.or_false]
    show Calls _ _ #[_, .slice q 0 cq, _] _ _
    go_enter Tryd.func64, Tryd.ntmps64
    go_wp2_with (refine wpList_store_cl rfl 74 _ _ rfl w.heap.size 0 2 _ rfl rfl rfl m0 (by show 2 ≤ 2; decide) iSz one2 ?_; intro w9 hc9 k9 zz9; clear zz9)
    have hc6 : CL w9 w.heap.size [.int .i64 0, .int .i64 0] := hc9
    have hrn := run_sz hc6
    have kk : Keeps (fun _ => False) w w9 := ((Keeps.refl _ w).alloc _).trans' k9 (fun _ _ e => e) (fun i hi e => by omega)
    refine bodyPost_ret (v := .agg #[.int .i64 0, .int .i64 0]) (by rw [results_cell1 rfl]; simp [asAddr, hrn]) rfl ?_
    exact ⟨rfl, p, c, V.keep0 kk, fun _ e => .inl e, kk.mono (fun _ _ e => e.elim)⟩
  have hn0 : 0 < ps.length := List.length_pos_iff.2 hps
  have hlen : ps.length * 56 ≤ 140737488355327 := hbig.2
  obtain ⟨g, rfl⟩ : ∃ g, q = some ⟨g, 0, none⟩ := by
    obtain ⟨a, cap, e, hc, -, -⟩ := own_slice ho.1
    injection e with e1 e2 e3
    subst e1
    have hl := ht.len
    obtain ⟨g, hg, -⟩ := hc 0 (xs[0]'(by omega)) (List.getElem?_eq_getElem _)
    exact ⟨g, hg⟩
  obtain ⟨hAl, hgB⟩ := own_alive ho
  have hcl := own_clL ho.1
  obtain ⟨n, hn⟩ : ∃ n, n = ps.length := ⟨_, rfl⟩
  rw [← hn] at ho hn0 hlen ⊢
  have HN : Hid (n = ps.length) := hn
  clear hn
  have e0 : ((n : Int) == 0) = false := beq_eq_false_iff_ne.2 (by omega)
  have e1 : decide ((n : Int) = 0) = false := decide_eq_false (by omega)
  have e2 : (n == 0) = false := beq_eq_false_iff_ne.2 (by omega)
  have e3 : decide (n = 0) = false := decide_eq_false (by omega)
  have e4 : (0 : Int) < (n : Int) := by omega
  have m7 : CL ((w.alloc (.cells zZ.toArray 74)).alloc (.cells zP.toArray 120)) (w.heap.size + 1) zP := by
    have := CL.made (w.alloc (.cells zZ.toArray 74)) zP 120
    simpa using this
  go_enter Tryd.func64, Tryd.ntmps64
  refine wp_seq_k (fun K0 h0 => ?_)
  have H0 : Hid _ := h0
  clear h0
  go_wp2_with fail
  refine H0.out _ _ ?_
  clear H0 K0
  refine wp_seq_k (fun K0 h0 => ?_)
  have H0 : Hid _ := h0
  clear h0
  go_wp2_with fail
  refine H0.out _ _ ?_
  clear H0 K0
  refine wp_seq_k (fun K0 h0 => ?_)
  have H0 : Hid _ := h0
  clear h0
  go_wp2_with (refine wpList_store_cl rfl 120 _ _ rfl (w.heap.size + 1) 0 2 _ rfl rfl rfl m7 (by show 2 ≤ 2; decide) iPl onePl ?_; intro w7 hc7 k7 zz7)
  refine H0.out _ _ ?_
  clear H0 K0
  have hc7 : CL w7 (w.heap.size + 1) [.pointer (some ⟨g, 0, none⟩), .int .i64 (n : Int)] := hc7
  have K7 : Keeps (fun _ => False) w w7 := (((Keeps.refl _ w).alloc _).alloc _).trans' k7 (fun _ _ e => e) (fun i hi e => by omega)
  have M7 := (m0.alloc (by show 0 < 2; decide) (.cells zP.toArray 120)).keep (by show 0 < 2; decide) k7 (fun e => by omega)
  have V7 := V.keep0 K7
  have z7 : w7.heap.size = w.heap.size + 1 + 1 := by rw [zz7]; simp
  clear zz7 m7 k7
  obtain ⟨d, m, ok, hlk, hG⟩ := V7.ee.look memoE (n := n) (alive_keep K7 hAl (fun e => e))
  have HG : Hid (ok = true → GoE w7 (fun g => g < B) wq ns g n d m) := hG
  have Z7 : Hid (w7.heap.size = w.heap.size + 1 + 1) := z7
  clear hG z7
  refine wp_seq_k (fun K1 h1 => ?_)
  have H1 : Hid _ := h1
  clear h1
  refine wp_seq_k (fun K0 h0 => ?_)
  have H0 : Hid _ := h0
  clear h0
  go_wp2_with (first | (refine wpList_load_runL rfl 120 _ rfl ⟨w.heap.size + 1, 0, none⟩ rfl _ (run_pl hc7) ?_) | (refine wpList_store_cl rfl 74 _ _ rfl w7.heap.size 0 2 _ rfl rfl rfl (CL.made w7 zZ 74) (by show 2 ≤ 2; decide) iSz one2 ?_; intro w8 hc8 k8 zz8))
  refine H0.out _ _ ?_
  clear H0 K0
  have hc8 : CL w8 w7.heap.size [.int .i64 (d : Int), .int .i64 (m : Int)] := hc8
  have z7 := Z7.out
  have K8 : Keeps (fun _ => False) w7 w8 := ((Keeps.refl _ w7).alloc _).trans' k8 (fun _ _ e => e) (fun i hi e => by omega)
  have M8 := M7.keep (by show 0 < 2; decide) K8 (fun e => e)
  have C8 := hc7.keep (by show 0 < 2; decide) K8 (fun e => e)
  have V8 := V7.keep0 K8
  have z8 : w8.heap.size = w.heap.size + 1 + 1 + 1 := by rw [zz8]; simp; omega
  clear zz8 k8 hlk
  cases ok with
  | true =>
    obtain ⟨ps', c', xs', g1, g2, g3, g4, g5, g6⟩ := HG.out rfl
    have hx : xs = xs' := by
      rcases (ho.stay (K7.stay (fun _ _ _ e => e))).1.2 with ⟨q1, _⟩ | ⟨ga, ca, cu, q1, _, hg1, _, _, _, ht1⟩
      · cases q1
      rcases g1.1.2 with ⟨q2, _⟩ | ⟨gb, cb, cv, q2, _, hg2, _, _, _, ht2⟩
      · cases q2
      injection q1 with q1 _ _
      injection q1 with q1
      injection q1 with q1 _ _
      injection q2 with q2 _ _
      injection q2 with q2
      injection q2 with q2 _ _
      subst q1 q2
      rw [hg1] at hg2
      injection hg2 with hg2
      injection hg2 with hg2 _ _
      rw [← ht1, ← ht2, hg2]
    subst hx
    have hpp : ps = ps' := TL.uniq (ht.stay (K7.stay (fun _ _ _ e => e))) g3
    subst hpp
    have FIN : Hid (vlV d m = vlV (mzL ps).1 (mzL ps).2 ∧ ∀ W', Keeps (fun i => i = w.heap.size) w8 W' → SVT w B v me ms ns p c W' (wq || wrL ps) (nmL ps ns)) := by
      refine ⟨by rw [g4], fun W' k' => ?_⟩
      have hw : (wq || wrL ps) = wq := by
        cases hq : wrL ps
        · exact Bool.or_false _
        · rw [g5 hq]; rfl
      rw [hw, g6 ns (Ext.refl _)]
      have kk : Keeps (fun _ => False) w W' := (K7.trans K8).trans' k' (fun _ _ e => e) (fun i hi e => by omega)
      exact ⟨p, c, V.keep0 kk, fun _ e => .inl e, kk.mono (fun _ _ e => e.elim)⟩
    clear HG g1 g2 g3 g4 g5 g6 z7 z8
    go_wp2_with (first | (refine wpList_load_runL rfl 74 _ rfl ⟨w7.heap.size, 0, none⟩ rfl _ (run_sz hc8) ?_) | (refine wpList_store_cl rfl 74 _ _ rfl w.heap.size 0 2 _ rfl rfl rfl M8 (by show 2 ≤ 2; decide) iSz one2 ?_; intro w9 hc9 k9 zz9; clear zz9))
    have hc6 : CL w9 w.heap.size [.int .i64 (d : Int), .int .i64 (m : Int)] := hc9
    have hrn := run_sz hc6
    refine bodyPost_ret (v := vlV d m) (by rw [results_cell1 rfl]; simp [asAddr, hrn]) rfl ?_
    exact ⟨congrArg Ending.returned FIN.out.1, FIN.out.2 _ k9⟩
  | false =>
    clear HG
    go_wp2_with fail
    refine H1.out _ _ ?_
    clear H1 K1
    have Z8 : Hid (w8.heap.size = w.heap.size + 1 + 1 + 1) := z8
    have S0 : Hid (SuE w B v me ms (Value.slice p ns.length c).ownBlock g n (w8.alloc (.cells zZ.toArray 74)) (0, 0) wq ns p c) := by
      have ka := (Keeps.refl (fun _ => False) w8).alloc (.cells zZ.toArray 74)
      exact ⟨by rw [← z8]; exact CL.made w8 zZ _, C8.keep (by show 0 < 2; decide) ka (fun e => e), M8.keep (by show 0 < 2; decide) ka (fun e => e), V8.keep0 ka, (((K7.trans K8).trans ka).mono (fun _ _ e => e.elim)), fun i e => .inl e, hlow⟩
    clear z7 Z7 z8 K8 M8 C8 V8 hc8 hc7 K7 M7 V7 m0
    go_wp2_with fail
    go_loopw [31] (fun iv Wr => ∃ (i : Nat) (acc : Nat × Nat) (wri : Bool) (nsi : List Bs) (p' : Option Addr) (c' : Nat), iv = .int .i64 (i : Int) ∧ i ≤ n ∧ (wtM acc (mzL (ps.drop i)) = mzL ps ∧ acc.1 < 9223372036854775808) ∧ (wri || wrL (ps.drop i)) = (wq || wrL ps) ∧ nmL (ps.drop i) nsi = nmL ps ns ∧ SuE w B v me ms (Value.slice p ns.length c).ownBlock g n Wr acc wri nsi p' c') (fun iv _ => n + 1 - (intOf iv).toNat)
    case atStart => exact ⟨0, (0, 0), wq, ns, p, c, rfl, by omega, ⟨(wtM_zero _).trans (nrm_id (mzL_lt ps)), by decide⟩, rfl, rfl, S0.out⟩
    case round =>
      clear S0
      obtain ⟨i, acc, wri, nsi, pi, ci, rfl, hi, ⟨hq1, hq0⟩, hq2, hq3, hS⟩ := hrel
      have hle := mzL_le ps
      have hb2 := hbig.2
      have hacc : acc.1 < 9223372036854775808 ∧ acc.2 ≤ 4503599627370496 := by
        have h2 := congrArg Prod.snd hq1
        unfold wtM at h2
        simp only at h2
        exact ⟨hq0, by omega⟩
      by_cases hin : i < n
      · have hin2 : i < ps.length := by rw [← HN.out]; exact hin
        obtain ⟨t, htt⟩ : ∃ t, t = ps[i] := ⟨_, rfl⟩
        have hdr : ps.drop i = t :: ps.drop (i + 1) := by rw [htt]; exact List.drop_eq_getElem_cons hin2
        have hgt : ps[i]? = some t := by rw [htt]; exact List.getElem?_eq_getElem hin2
        have hbt : bgE t ≤ bgL ps := bg_at ps i t hgt
        have hsz : (mzE t).1 ≤ 9223372036854775808 ∧ (mzE t).2 ≤ 4503599627370496 := by have := mzE_le t; omega
        rw [hdr] at hq1 hq2 hq3
        have HQ : Hid (wtM (wtM acc (mzE t)) (mzL (ps.drop (i + 1))) = mzL ps ∧ ((wri || wrE t) || wrL (ps.drop (i + 1))) = (wq || wrL ps) ∧ nmL (ps.drop (i + 1)) (nmE t nsi) = nmL ps ns) := by
          refine ⟨?_, ?_, ?_⟩
          · rw [wtM_assoc, ← hq1, mzL]
          · rw [Bool.or_assoc, ← hq2, wrL]
          · rw [← hq3, nmL]
        clear hq1 hq2 hq3 hdr htt
        obtain ⟨ys, hty, hyc⟩ := ht.at i t hgt
        have hPt : PtE w B g (i * 4) t := ⟨hgB, ys, hty, fun j x e => hcl.c (i * 4 + j) x (hyc j x e)⟩
        have hkp := hS.kp
        have hPr := hPt.keep hkp (fun k hk e => by have := hS.lo k e; omega)
        have kd := (Keeps.refl (fun _ => False) wr).drew
        have Sd := hS.keep0 kd
        have hE := IH t (by omega) (hbig.1.at hgt) wr.drew B v me ms wri nsi pi ci g (i * 4) Sd.V (hPr.keep kd (fun _ _ e => e))
        clear hPr hPt hkp kd hty hyc hgt
        have d1 : decide ((i : Int) < (n : Int)) = true := decide_eq_true (by omega)
        have d2 : decide (i < n) = true := decide_eq_true hin
        have i0 : (0 : Int) ≤ (i : Int) := by omega
        have i1 : (i : Int) < (n : Int) := by omega
        have i2 : (i : Int) + 1 ≤ 9223372036854775807 := by omega
        have HB : Hid (bgE t ≤ bgL ps) := hbt
        clear hbt
        go_wp2_with fail
        refine wp_region_held_drew (S := fun _ => True) (by kernel_rfl) trivial (fun hHeld => ?_)
        refine wpAnyH_take (i := 1) (v := ?_) rfl (by kernel_rfl) (by kernel_rfl) (by kernel_rfl) (fun _ _ _ h => h) (Or.inl ⟨by rfl, ?_⟩) (by assumption) ?_
        rotate_left
        · intro wx hSw; clear hSw; go_simp <;> with_reducible rfl
        (try simp only [List.getElem_toArray]); (try simp only [List.getElem_cons_succ]); (try simp only [List.getElem_cons_zero]); (try simp only [Act.put]); (try simp only [List.setIfInBounds_toArray]); (repeat first | simp only [List.set_cons_succ] | simp only [List.set_cons_zero])
        refine wpAnyH_take (i := 2) (v := ?_) rfl (by kernel_rfl) (by kernel_rfl) (by kernel_rfl) (fun _ _ _ h => h) (Or.inl ⟨by rfl, ?_⟩) (by assumption) ?_
        rotate_left
        · intro wx hSw; clear hSw; go_simp <;> with_reducible rfl
        (try simp only [List.getElem_toArray]); (try simp only [List.getElem_cons_succ]); (try simp only [List.getElem_cons_zero]); (try simp only [Act.put]); (try simp only [List.setIfInBounds_toArray]); (repeat first | simp only [List.set_cons_succ] | simp only [List.set_cons_zero])
        refine wpAnyH_take (i := 3) (v := ?_) rfl (by kernel_rfl) (by kernel_rfl) (by kernel_rfl) (fun _ _ _ h => h) (Or.inl ⟨by rfl, ?_⟩) (by assumption) ?_
        rotate_left
        · intro wx hSw; clear hSw; go_simp <;> with_reducible rfl
        (try simp only [List.getElem_toArray]); (try simp only [List.getElem_cons_succ]); (try simp only [List.getElem_cons_zero]); (try simp only [Act.put]); (try simp only [List.setIfInBounds_toArray]); (repeat first | simp only [List.set_cons_succ] | simp only [List.set_cons_zero])
        refine wpAnyH_take (i := 4) (v := ?_) rfl (by kernel_rfl) (by kernel_rfl) (by kernel_rfl) (fun _ _ _ h => h) (Or.inl ⟨by rfl, ?_⟩) (by assumption) ?_
        rotate_left
        · intro wx hSw; clear hSw; go_simp <;> with_reducible rfl
        (try simp only [List.getElem_toArray]); (try simp only [List.getElem_cons_succ]); (try simp only [List.getElem_cons_zero]); (try simp only [Act.put]); (try simp only [List.setIfInBounds_toArray]); (repeat first | simp only [List.set_cons_succ] | simp only [List.set_cons_zero])
        refine wpAnyH_two' 0 5 (by kernel_rfl) rfl rfl (by kernel_rfl) (by kernel_rfl) ?_ ?_
        · refine wp_loadK 74 _ rfl ⟨w8.heap.size, 0, none⟩ rfl _ (run_sz (by rw [Z8.out]; exact Sd.a)) ?_
          refine ⟨trivial, fun _ => ?_⟩
          (try simp only [List.getElem_toArray]); (try simp only [List.getElem_cons_succ]); (try simp only [List.getElem_cons_zero]); (try simp only [Act.put]); (try simp only [List.setIfInBounds_toArray]); (repeat first | simp only [List.set_cons_succ] | simp only [List.set_cons_zero])
          refine wpAnyH_one 5 (by kernel_rfl) rfl rfl ?_
          refine wp_callF 54 _ _ rfl _ _ rfl rfl (fun _ _ => rfl) (hE.mono ?_)
          rintro e w1 ⟨rfl, q1⟩
          obtain ⟨p', c', S1⟩ := Sd.step q1
          refine ⟨_, rfl, trivial, fun _ => ?_⟩
          (try simp only [List.getElem_toArray]); (try simp only [List.getElem_cons_succ]); (try simp only [List.getElem_cons_zero]); (try simp only [Act.put]); (try simp only [List.setIfInBounds_toArray]); (repeat first | simp only [List.set_cons_succ] | simp only [List.set_cons_zero])
          refine wpAnyH_one 6 (by kernel_rfl) rfl rfl ?_
          refine wp_call2 51 _ _ rfl _ _ rfl rfl (fun _ _ => rfl) ((with_any w1 acc (mzE t) hacc hsz).mono ?_)
          rintro e w2 ⟨rfl, k2⟩
          have S2 := S1.keep0 k2
          refine ⟨_, rfl, trivial, fun _ => ?_⟩
          (try simp only [List.getElem_toArray]); (try simp only [List.getElem_cons_succ]); (try simp only [List.getElem_cons_zero]); (try simp only [Act.put]); (try simp only [List.setIfInBounds_toArray]); (repeat first | simp only [List.set_cons_succ] | simp only [List.set_cons_zero])
          have A2 : CL w2 w8.heap.size [.int .i64 (acc.1 : Int), .int .i64 (acc.2 : Int)] := by rw [Z8.out]; exact S2.a
          obtain ⟨X, hX⟩ : ∃ X, X = w2.setCells w8.heap.size 0 [.int .i64 ((wtM acc (mzE t)).1 : Int), .int .i64 ((wtM acc (mzE t)).2 : Int)] := ⟨_, rfl⟩
          have kX : Keeps (fun i => i = w.heap.size + 1 + 1 + 1) w2 X := by rw [hX]; exact ((Keeps.refl (fun i => i = w8.heap.size) w2).setsA _ _).mono (fun i _ e => by rw [← Z8.out]; exact e)
          have cX : CL X w8.heap.size [.int .i64 ((wtM acc (mzE t)).1 : Int), .int .i64 ((wtM acc (mzE t)).2 : Int)] := by rw [hX]; exact A2.sets (o := 0) (by show 0 + 2 ≤ 2; decide)
          refine wpAnyH_store 7 (by kernel_rfl) rfl rfl 74 _ _ rfl w8.heap.size 0 2 #[.int .i64 ((wtM acc (mzE t)).1 : Int), .int .i64 ((wtM acc (mzE t)).2 : Int)] rfl rfl rfl (A2.there (by show 0 + 2 ≤ 2; decide)) iSz one2 trivial (fun _ => ?_)
          (try simp only [List.getElem_toArray]); (try simp only [List.getElem_cons_succ]); (try simp only [List.getElem_cons_zero]); (try simp only [Act.put]); (try simp only [List.setIfInBounds_toArray]); (repeat first | simp only [List.set_cons_succ] | simp only [List.set_cons_zero])
          refine wpAnyH_done (by kernel_rfl) ?_ _
          have hx10 : w2.setCells w8.heap.size 0 (#[.int .i64 ((wtM acc (mzE t)).1 : Int), .int .i64 ((wtM acc (mzE t)).2 : Int)] : Array Value).toList = X := hX.symm
          have SX : Hid (SuE w B v me ms (Value.slice p ns.length c).ownBlock g n X (wtM acc (mzE t)) (wri || wrE t) (nmE t nsi) p' c') := S2.box kX (by rw [← Z8.out]; exact cX)
          rw [hx10]
          clear hx10 hX cX kX A2 S2 S1 Sd q1 hE
          go_wp2_with fail
          go_roundw
          case rel => exact ⟨i + 1, wtM acc (mzE t), wri || wrE t, nmE t nsi, p', c', by go_num, by omega, ⟨HQ.out.1, wtM_lt _ _⟩, HQ.out.2.1, HQ.out.2.2, SX.out⟩
          case measure => simp [intOf]; omega
        · refine wp_callF 54 _ _ rfl _ _ rfl rfl (fun _ _ => rfl) (hE.mono ?_)
          rintro e w1 ⟨rfl, q1⟩
          obtain ⟨p', c', S1⟩ := Sd.step q1
          refine ⟨_, rfl, trivial, fun _ => ?_⟩
          (try simp only [List.getElem_toArray]); (try simp only [List.getElem_cons_succ]); (try simp only [List.getElem_cons_zero]); (try simp only [Act.put]); (try simp only [List.setIfInBounds_toArray]); (repeat first | simp only [List.set_cons_succ] | simp only [List.set_cons_zero])
          refine wpAnyH_one 0 (by kernel_rfl) rfl rfl ?_
          refine wp_loadK 74 _ rfl ⟨w8.heap.size, 0, none⟩ rfl _ (run_sz (by rw [Z8.out]; exact S1.a)) ?_
          refine ⟨trivial, fun _ => ?_⟩
          (try simp only [List.getElem_toArray]); (try simp only [List.getElem_cons_succ]); (try simp only [List.getElem_cons_zero]); (try simp only [Act.put]); (try simp only [List.setIfInBounds_toArray]); (repeat first | simp only [List.set_cons_succ] | simp only [List.set_cons_zero])
          refine wpAnyH_one 6 (by kernel_rfl) rfl rfl ?_
          refine wp_call2 51 _ _ rfl _ _ rfl rfl (fun _ _ => rfl) ((with_any w1 acc (mzE t) hacc hsz).mono ?_)
          rintro e w2 ⟨rfl, k2⟩
          have S2 := S1.keep0 k2
          refine ⟨_, rfl, trivial, fun _ => ?_⟩
          (try simp only [List.getElem_toArray]); (try simp only [List.getElem_cons_succ]); (try simp only [List.getElem_cons_zero]); (try simp only [Act.put]); (try simp only [List.setIfInBounds_toArray]); (repeat first | simp only [List.set_cons_succ] | simp only [List.set_cons_zero])
          have A2 : CL w2 w8.heap.size [.int .i64 (acc.1 : Int), .int .i64 (acc.2 : Int)] := by rw [Z8.out]; exact S2.a
          obtain ⟨X, hX⟩ : ∃ X, X = w2.setCells w8.heap.size 0 [.int .i64 ((wtM acc (mzE t)).1 : Int), .int .i64 ((wtM acc (mzE t)).2 : Int)] := ⟨_, rfl⟩
          have kX : Keeps (fun i => i = w.heap.size + 1 + 1 + 1) w2 X := by rw [hX]; exact ((Keeps.refl (fun i => i = w8.heap.size) w2).setsA _ _).mono (fun i _ e => by rw [← Z8.out]; exact e)
          have cX : CL X w8.heap.size [.int .i64 ((wtM acc (mzE t)).1 : Int), .int .i64 ((wtM acc (mzE t)).2 : Int)] := by rw [hX]; exact A2.sets (o := 0) (by show 0 + 2 ≤ 2; decide)
          refine wpAnyH_store 7 (by kernel_rfl) rfl rfl 74 _ _ rfl w8.heap.size 0 2 #[.int .i64 ((wtM acc (mzE t)).1 : Int), .int .i64 ((wtM acc (mzE t)).2 : Int)] rfl rfl rfl (A2.there (by show 0 + 2 ≤ 2; decide)) iSz one2 trivial (fun _ => ?_)
          (try simp only [List.getElem_toArray]); (try simp only [List.getElem_cons_succ]); (try simp only [List.getElem_cons_zero]); (try simp only [Act.put]); (try simp only [List.setIfInBounds_toArray]); (repeat first | simp only [List.set_cons_succ] | simp only [List.set_cons_zero])
          refine wpAnyH_done (by kernel_rfl) ?_ _
          have hx10 : w2.setCells w8.heap.size 0 (#[.int .i64 ((wtM acc (mzE t)).1 : Int), .int .i64 ((wtM acc (mzE t)).2 : Int)] : Array Value).toList = X := hX.symm
          have SX : Hid (SuE w B v me ms (Value.slice p ns.length c).ownBlock g n X (wtM acc (mzE t)) (wri || wrE t) (nmE t nsi) p' c') := S2.box kX (by rw [← Z8.out]; exact cX)
          rw [hx10]
          clear hx10 hX cX kX A2 S2 S1 Sd q1 hE
          go_wp2_with fail
          go_roundw
          case rel => exact ⟨i + 1, wtM acc (mzE t), wri || wrE t, nmE t nsi, p', c', by go_num, by omega, ⟨HQ.out.1, wtM_lt _ _⟩, HQ.out.2.1, HQ.out.2.2, SX.out⟩
          case measure => simp [intOf]; omega
      · obtain rfl : i = n := by omega
        have d1 : decide ((i : Int) < (i : Int)) = false := decide_eq_false (by omega)
        have d2 : decide (i < i) = false := decide_eq_false (by omega)
        have hdn : ps.drop i = [] := by rw [HN.out]; exact List.drop_length
        rw [hdn] at hq1 hq2 hq3
        have a1 : acc = mzL ps := by rw [← hq1, mzL, wtM_zero', nrm_id hq0]
        have a2 : wri = (wq || wrL ps) := by rw [← hq2, wrL, Bool.or_false]
        have a3 : nsi = nmL ps ns := by rw [← hq3, nmL]
        clear hq1 hq2 hq3 hdn
        have stw : Stay (fun g => g < B) w wr := hS.kp.stay (fun k hk _ e => by have := hS.lo k e; omega)
        have hGo : GoE wr (fun g => g < B) wri nsi g i acc.1 acc.2 := ⟨ps, cq, xs, ho.stay stw, HN.out.symm, ht.stay stw, by rw [← a1], fun q => by rw [a2, q]; simp, fun ns2 q => nmL_again ps ns ns2 (by rw [← a3]; exact q)⟩
        have hAlr : Alive wr g := (own_alive (ho.stay stw)).1
        obtain ⟨W1, hput, hm1, kput, -⟩ := hS.V.ee.put memoE hAlr hGo
        have S1 := hS.put kput hm1
        have ka := hS.k
        have kb : CL wr w8.heap.size [.int .i64 (acc.1 : Int), .int .i64 (acc.2 : Int)] := by rw [Z8.out]; exact hS.a
        have kc : CL W1 w8.heap.size [.int .i64 (acc.1 : Int), .int .i64 (acc.2 : Int)] := by rw [Z8.out]; exact S1.a
        have FIN : Hid (vlV acc.1 acc.2 = vlV (mzL ps).1 (mzL ps).2 ∧ ∀ W', Keeps (fun i => i = w.heap.size) W1 W' → SVT w B v me ms ns p c W' (wq || wrL ps) (nmL ps ns)) := ⟨by rw [a1], fun W' k' => by rw [← a2, ← a3]; exact S1.fin k'⟩
        have Mr := S1.r
        clear hGo stw hm1 a1 a2 a3 hacc hle hAlr
        go_wp2_with (first | (refine wpList_load_runL rfl 120 _ rfl ⟨w.heap.size + 1, 0, none⟩ rfl _ (run_pl ka) ?_; clear ka) | (refine wpList_load_runL rfl 74 _ rfl ⟨w8.heap.size, 0, none⟩ rfl _ (run_sz kb) ?_) | (refine wpList_load_runL rfl 74 _ rfl ⟨w8.heap.size, 0, none⟩ rfl _ (run_sz kc) ?_) | (refine wpList_store_cl rfl 74 _ _ rfl w.heap.size 0 2 _ rfl rfl rfl Mr (by show 2 ≤ 2; decide) iSz one2 ?_; intro w9 hc9 k9 zz9; clear zz9))
        have hc6 : CL w9 w.heap.size [.int .i64 (acc.1 : Int), .int .i64 (acc.2 : Int)] := hc9
        have hrn := run_sz hc6
        refine bodyPost_ret (v := vlV acc.1 acc.2) (by rw [results_cell1 rfl]; simp [asAddr, hrn]) rfl ?_
        exact ⟨congrArg Ending.returned FIN.out.1, FIN.out.2 _ k9⟩
end Go.Proofs.YtehblpbefkopbaaDoor
