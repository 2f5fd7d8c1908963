import Derived.Test.YtfbbllokpikbiabCyC
namespace Go.Proofs.Ytfbbllokpikbiab
open Go.RowKit Go.Deep
attribute [local go_sem] Oper.semAt_some run_store_nf run_store_f
theorem Mn.out {g : List Eg} {a u k : Nat} (h : Mn g a u k) : 0 < (ldN g u).length ∧ 0 < k := by
  obtain ⟨e, he, h1, -⟩ := h.1.head
  exact ⟨List.length_pos_iff.2 (fun q => by have := mem_ldN.2 ⟨e, he, h1, rfl⟩; rw [q] at this; cases this), h.1.pos⟩
theorem Mn.le {g : List Eg} {n a u k : Nat} (h : Mn g a u k) (hn : Bln g n) : k ≤ n := by
  obtain ⟨j, hj, hp⟩ := rch_short hn ⟨_, h.1⟩
  have := h.2 j hp
  omega
theorem ldN_lt {g : List Eg} {n u : Nat} (hn : Bln g n) : ∀ x ∈ ldN g u, x < n := fun x hx => by
  obtain ⟨e, he, -, h2⟩ := mem_ldN.1 hx
  rw [← h2]
  exact (hn e he).2
theorem last_app (L : List Nat) (v : Nat) : (L ++ [v]).getD ((L ++ [v]).length - 1) 0 = v := by
  rw [List.length_append, List.getD_eq_getElem?_getD]
  show (L ++ [v])[L.length + 1 - 1]?.getD 0 = v
  rw [Nat.add_sub_cancel, List.getElem?_append_right (Nat.le_refl _), Nat.sub_self]
  rfl
set_option maxHeartbeats 1500000 in
set_option maxRecDepth 100000 in
theorem shortest_any {w : World} {mb lo hi n start fb K : Nat} {g : List Eg} {f : Nat → Nat} (hl : LR w lo hi mb g) (hF : FB w fb n (nms f)) (hFar : Far g n start f) (hb : Bln g n) (hn : n ≤ 4096) (hlen : g.length ≤ 4398046511104) (hst : start < n) (hM : Mn g start start K) : Calls Try.prog 21 #[.int .i64 (start : Int), .map (some mb), .slice (some ⟨fb, 0, none⟩) n n] w fun e w' => ∃ va vc L, e = .returned (.slice va L.length vc) ∧ w'.ownsRow w.heap.size 3 1 (.slice va L.length vc) L.length (pvs L) ∧ CyI g start K L ∧ L.length = K ∧ Keeps (fun _ => False) w w' := by
  obtain ⟨W1, hW1⟩ : ∃ W1, W1 = w.alloc (.cells #[.slice (some ⟨fb, 0, none⟩) n n] 23) := ⟨_, rfl⟩
  have k1 : Keeps (fun _ => False) w W1 := by rw [hW1]; exact (Keeps.refl _ w).alloc _
  have c1 : W1.cell? ⟨w.heap.size, 0, none⟩ = some (.slice (some ⟨fb, 0, none⟩) n n) := by rw [hW1]; exact (CL.made w [.slice (some ⟨fb, 0, none⟩) n n] 23).c 0 _ rfl
  have HW1 : Hid (W1 = w.alloc (.cells #[.slice (some ⟨fb, 0, none⟩) n n] 23)) := hW1
  obtain ⟨W2, hW2⟩ : ∃ W2, W2 = W1.alloc (.cells #[.int .i64 (start : Int)] 3) := ⟨_, rfl⟩
  have k2 : Keeps (fun _ => False) W1 W2 := by rw [hW2]; exact (Keeps.refl _ W1).alloc _
  have o2 : W2.ownsRow W1.heap.size 3 1 (.slice (some ⟨W1.heap.size, 0, none⟩) 1 1) 1 (pvs [start]) := by
    rw [hW2]
    exact World.ownsRow_lit W1 #[.int .i64 (start : Int)] 1 (Nat.le_refl _) (by unfold maxLen; omega) rfl
  have HW2 : Hid (W2 = W1.alloc (.cells #[.int .i64 (start : Int)] 3)) := hW2
  have hKn := hM.le hb
  have HMF : Hid (∀ W, Keeps (fun _ => False) W1 W → ∀ u k, u < n → Mn g start u (k + 1) → ∃ sa sc, (Instr.lookup 50 (.map (some mb)) (.int .i64 (u : Int)) false).run Try.prog W = .ok (.slice sa (ldN g u).length sc) W ∧ Calls Try.prog 38 #[.slice sa (ldN g u).length sc, .func (.func 36) #[] #[.pointer (some ⟨w.heap.size, 0, none⟩)]] W fun e w' => ∃ v : Nat, e = .returned (.int .i64 (v : Int)) ∧ NxN g start u k v ∧ v < n ∧ Keeps (fun _ => False) W w') := fun W k u j hu hm => by
    obtain ⟨sa, sc, hlook, hPM, -⟩ := (hl.keep (k1.trans k) (fun _ _ _ e => e)).q W (fun _ _ _ => rfl) u (by omega)
    refine ⟨sa, sc, hlook, ?_⟩
    have hll := ldN_len g u
    refine (minFunc_any (cap := sc) (k.cell c1 (fun e => e)) ((hF.keep k1 (fun e => e)).keep k (fun e => e)) hPM hm.out.1 (by omega) (ldN_lt hb)).mono ?_
    rintro e w' ⟨v, rfl, h1, h2, h3⟩
    exact ⟨v, rfl, hFar.next hb hm h1 h2, ldN_lt hb v h1, h3⟩
  have HM : Hid (Mn g start start K) := hM
  obtain ⟨K', hK'⟩ : ∃ K', K = K' + 1 := ⟨K - 1, by have := hM.out.2; omega⟩
  obtain ⟨sa, sc, hlook, hmf⟩ := HMF.out W2 k2 start K' hst (by rw [← hK']; exact hM)
  have HST : Hid (CyI g start K [start]) := CyI.start g start K hM.out.2
  have HO2 : Hid (W2.ownsRow W1.heap.size 3 1 (.slice (some ⟨W1.heap.size, 0, none⟩) 1 1) 1 (pvs [start])) := o2
  have HK1 : Hid (Keeps (fun _ => False) w W1) := k1
  have HK2 : Hid (Keeps (fun _ => False) W1 W2) := k2
  clear hl hF hFar o2 c1 k1 k2 hW1 hW2
  generalize (ldN g start).length = M at *
  go_enter Try.func21, Try.ntmps21
  refine wp_seq_k (fun KK hKK => ?_)
  have hKH : Hid _ := hKK
  clear hKK
  go_wp2_with fail
  refine hKH.out _ _ ?_
  clear hKH KK
  rw [← HW1.out]
  clear HW1
  refine wp_seq_k (fun KK hKK => ?_)
  have hKH : Hid _ := hKK
  clear hKK
  go_wp2_with fail
  refine hKH.out _ _ ?_
  clear hKH KK
  refine wp_seq_k (fun KK hKK => ?_)
  have hKH : Hid _ := hKK
  clear hKK
  go_wp2_with fail
  refine hKH.out _ _ ?_
  clear hKH KK
  rw [← HW2.out]
  clear HW2
  obtain ⟨lb, hlb⟩ : ∃ lb, lb = W1.heap.size := ⟨_, rfl⟩
  obtain ⟨bx, hbx⟩ : ∃ bx, bx = w.heap.size := ⟨_, rfl⟩
  rw [← hlb] at HO2 ⊢
  rw [← hbx] at HMF hmf ⊢
  have HLB : Hid (lb = W1.heap.size) := hlb
  have HBX : Hid (bx = w.heap.size) := hbx
  clear hlb hbx
  go_wp2_with (go_at_call 38; refine hmf.mono ?_; clear hmf; rintro e w3 ⟨v0, rfl, hx0, hv0, k3⟩)
  clear hlook
  have HX0 : Hid (NxN g start ([start].getD ([start].length - 1) 0) (K - [start].length) v0) := by
    have e : K - [start].length = K' := by rw [hK']; rfl
    rw [e]
    exact hx0
  have HO3 : Hid (w3.ownsRow lb 3 1 (.slice (some ⟨lb, 0, none⟩) 1 1) 1 (pvs [start])) := k3.owns HO2.out (fun _ _ e => e)
  have HK3 : Hid (Keeps (fun _ => False) W1 w3) := HK2.out.trans k3
  clear hx0 k3 HO2 HK2
  go_loopg [8, 9] K (fun gh lv nv Wr => ∃ (L : List Nat) (v ln : Nat) (la : Option Addr) (lc : Nat), gh + ln = K + 1 ∧ lv = .slice la ln lc ∧ nv = .int .i64 (v : Int) ∧ ln = L.length ∧ v < n ∧ CyI g start K L ∧ NxN g start (L.getD (L.length - 1) 0) (K - L.length) v ∧ Wr.ownsRow lb 3 1 (.slice la ln lc) ln (pvs L) ∧ Keeps (fun _ => False) W1 Wr)
  case atStart => exact ⟨[start], v0, 1, _, _, rfl, rfl, rfl, rfl, hv0, HST.out, HX0.out, HO3.out, HK3.out⟩
  case round =>
    obtain ⟨L, v, ln, la, lc, hgh, rfl, rfl, hln, hvn, hCy, hNx, hO, kr⟩ := hrel
    clear HST HX0 HO3 HK3
    have hle := hCy.le
    by_cases hvs : v = start
    · have t1 : ((v : Int) != (start : Int)) = false := by simp [hvs]
      have t2 : (v != start) = false := by simp [hvs]
      have t3 : ((v : Int) == (start : Int)) = true := by simp [hvs]
      have t4 : (v == start) = true := by simp [hvs]
      have hz : K - L.length = 0 := by
        have h := hNx.2.1
        rw [hvs] at h
        exact h.zero
      have HEND : Hid (∃ va vc L', Ending.returned (.slice la ln lc) = .returned (.slice va L'.length vc) ∧ wr.ownsRow w.heap.size 3 1 (.slice va L'.length vc) L'.length (pvs L') ∧ CyI g start K L' ∧ L'.length = K ∧ Keeps (fun _ => False) w wr) := by
        rw [hln] at hO ⊢
        exact ⟨la, lc, L, rfl, owns_low hO (by have := HK1.out.size; have := HLB.out; omega), hCy, by omega, HK1.out.trans kr⟩
      clear hCy hNx hO hln hvs hz hle
      go_wp2_with fail
      go_ret
      rw [HBX.out]
      exact HEND.out
    · have t1 : ((v : Int) != (start : Int)) = true := by rw [bne_iff_ne]; omega
      have t2 : (v != start) = true := by rw [bne_iff_ne]; exact hvs
      have t3 : ((v : Int) == (start : Int)) = false := by rw [beq_eq_false_iff_ne]; omega
      have t4 : (v == start) = false := by rw [beq_eq_false_iff_ne]; exact hvs
      have hz : K - L.length ≠ 0 := fun q => by
        have h := hNx.2.1
        rw [q] at h
        exact hvs h.at0
      obtain ⟨k, hk⟩ : ∃ k, K - L.length = k + 1 := ⟨K - L.length - 1, by omega⟩
      have hmn := hNx.2.1.mn (by omega)
      rw [hk] at hmn
      rw [hln] at hO
      obtain ⟨a3, c3, W3, hr3, hO3, kq, -⟩ := append_n hO (by have := kr.size; have := HLB.out; omega) (by omega) v
      rw [← hln] at hr3 hO hO3 kq
      have HK3 : Hid (Keeps (fun _ => False) W1 W3) := kr.trans' kq (fun _ _ e => e) (fun i hi e => by have := owns_baseT hO i e; have := HLB.out; omega)
      obtain ⟨sa, sc, hlook, hmf⟩ := HMF.out W3 HK3.out v k hvn hmn
      have HCY : Hid (CyI g start K (L ++ [v])) := hCy.add (by omega) hNx
      have HO3 : Hid (W3.ownsRow lb 3 1 (.slice a3 (ln + 1) c3) (ln + 1) (pvs (L ++ [v]))) := hO3
      have HLL : Hid (ln + 1 = (L ++ [v]).length) := by rw [hln, List.length_append]; rfl
      have HKK : Hid (K - (L ++ [v]).length = k) := by rw [List.length_append]; show K - (L.length + 1) = k; omega
      have hlk : ln + 1 ≤ K := by omega
      clear hCy hNx hO hO3 kq hmn hz hvs kr hln hk hle
      generalize (ldN g v).length = M2 at *
      go_wp2_with (first | (go_at_call 38; refine hmf.mono ?_; clear hmf; rintro e w4 ⟨v1, rfl, hx1, hv1, k4⟩) | (at_builtin; refine wpList_append_tL rfl _ _ _ rfl _ _ _ W3 rfl rfl hr3 ?_; clear hr3))
      go_roundg (gk - 1)
      case measure => omega
      case rel => exact ⟨L ++ [v], v1, ln + 1, a3, c3, by omega, rfl, rfl, HLL.out, hv1, HCY.out, by rw [last_app, HKK.out]; exact hx1, k4.owns HO3.out (fun _ _ e => e), HK3.out.trans k4⟩
theorem PV.at {base : Nat} {W : World} {v : Value} {qs : List Pq} (h : PV base W v qs) {i : Nat} (hi : i < qs.length) : ∃ vb vc, v = .slice (some ⟨vb, 0, none⟩) qs.length vc ∧ W.cell? ⟨vb, i, none⟩ = some (.slice (qs.getD i default).a (qs.getD i default).l.length (qs.getD i default).c) ∧ PM W (qs.getD i default).a (qs.getD i default).l := by
  have hq : qs.getD i default ∈ qs := by rw [List.getD_eq_getElem?_getD, List.getElem?_eq_getElem hi]; exact List.getElem_mem hi
  obtain ⟨a', c', rfl, hc, -, -⟩ := own_slice h.ra
  obtain ⟨g, rfl, hcell⟩ := hc i (qs.getD i default).val (by rw [List.getElem?_map, List.getElem?_eq_getElem hi, List.getD_eq_getElem?_getD, List.getElem?_eq_getElem hi]; rfl)
  exact ⟨g, c', rfl, hcell, PM.of (h.rq _ hq)⟩
/-- What Cycle leaves. -/
def CcP (n : Int) (l : List Ed) (w : World) (e : Ending) (w' : World) : Prop := ∃ va vc L ec, e = .returned (.tuple #[.slice va L.length vc, .int .i64 ec]) ∧ w'.ownsRow w.heap.size 3 1 (.slice va L.length vc) L.length (pvs L) ∧ CcA n l L ec ∧ Keeps (fun _ => False) w w'
set_option maxHeartbeats 1500000 in
set_option maxRecDepth 100000 in
theorem Cycle_any {w : World} {a : Option Addr} {cap : Nat} {l : List Ed} (n : Int) (hl : EL w a l) (hlen : l.length ≤ 4398046511104) : Calls Try.prog 7 #[.int .i64 n, .slice a l.length cap] w (CcP n l w) := by
  have hfa := fault_any (cap := cap) n hl hlen
  by_cases h0 : fltG n l = 0
  · obtain ⟨m, g, rfl, hm, rfl, hbl⟩ := good_eg h0
    have HPX : Hid (∀ va vc L w', w'.ownsRow w.heap.size 3 1 (.slice va L.length vc) L.length (pvs L) → CycA g m L → Keeps (fun _ => False) w w' → CcP (m : Int) (g.map Eg.ed) w (.returned (.tuple #[.slice va L.length vc, .int .i64 0])) w') := fun va vc L w' h1 h2 h3 => ⟨va, vc, L, 0, rfl, h1, CcA.ok h0 h2, h3⟩
    rw [List.length_map] at hlen
    have HLO : Hid (∀ W, Keeps (fun _ => False) w W → Calls Try.prog 18 #[.slice a g.length cap] W fun e w' => ∃ mb, e = .returned (.map (some mb)) ∧ LR w' W.heap.size w'.heap.size mb g ∧ Keeps (fun _ => False) W w') := fun W k => leadsOf_any (hl.keep k) hbl hm hlen
    have HPA : Hid (∀ W lo hi mb, LR W lo hi mb g → Calls Try.prog 19 #[.int .i64 (m : Int), .map (some mb)] W (PaP g m W)) := fun W lo hi mb h => parts_any h hbl hm hlen
    have HDI : Hid (∀ W goal, Keeps (fun _ => False) w W → goal < m → Calls Try.prog 22 #[.int .i64 (m : Int), .slice a g.length cap, .int .i64 (goal : Int)] W fun e w' => ∃ fb f, e = .returned (.slice (some ⟨fb, 0, none⟩) m m) ∧ W.heap.size ≤ fb ∧ FB w' fb m (nms f) ∧ Far g m goal f ∧ Keeps (fun _ => False) W w') := fun W goal k h => distances_any (hl.keep k) hbl hm hlen h
    have HSH : Hid (∀ W lo hi mb start fb f K, LR W lo hi mb g → FB W fb m (nms f) → Far g m start f → start < m → Mn g start start K → Calls Try.prog 21 #[.int .i64 (start : Int), .map (some mb), .slice (some ⟨fb, 0, none⟩) m m] W fun e w' => ∃ va vc L, e = .returned (.slice va L.length vc) ∧ w'.ownsRow W.heap.size 3 1 (.slice va L.length vc) L.length (pvs L) ∧ CyI g start K L ∧ L.length = K ∧ Keeps (fun _ => False) W w') := fun W lo hi mb start fb f K h1 h2 h3 h4 h5 => shortest_any h1 h2 h3 hbl hm hlen h4 h5
    have HBL : Hid (Bln g m) := hbl
    have HLL : Hid (∀ u, (ldN g u).length ≤ 4398046511104) := fun u => by have := ldN_len g u; omega
    rw [h0] at hfa
    clear h0 hl hbl
    rw [List.length_map] at hfa ⊢
    generalize g.length = N at *
    go_enter Try.func7, Try.ntmps7
    go_wp2_with (first | (go_at_call 17; refine hfa.mono ?_; clear hfa; rintro e w1 ⟨rfl, k1⟩; have hlo := HLO.out w1 k1) | (go_at_call 18; refine hlo.mono ?_; clear hlo; rintro e w2 ⟨mb, rfl, hLR, k2⟩; have hpa := HPA.out w2 _ _ _ hLR) | (go_at_call 19; refine hpa.mono ?_; clear hpa; rintro e w3 ⟨v, qs, rfl, hV, hA, k3⟩; obtain ⟨va, vc, rfl, -⟩ := own_slice hV.ra))
    have HV : Hid (PV w2.heap.size w3 (.slice va qs.length vc) qs) := hV
    have HA : Hid (PtA g m (qs.map Pq.l)) := hA
    have HK3 : Hid (Keeps (fun _ => False) w w3) := (k1.trans k2).trans k3
    have HLR : Hid (LR w3 w1.heap.size w2.heap.size mb g) := hLR.keep k3 (fun _ _ _ e => e)
    have hQ : qs.length ≤ 4096 := by have := hA.num; rw [List.length_map] at this; omega
    clear hV hA hLR HPA HLO k1 k2 k3
    generalize hQQ : qs.length = Q at *
    have HQ : Hid (qs.length = Q) := hQQ
    clear hQQ
    go_loopw [23] (fun iv Wr => ∃ (i : Nat), iv = .int .i64 (i : Int) ∧ i ≤ Q ∧ (∀ j, j < i → ∀ x ∈ (qs.map Pq.l).getD j [], ¬ Rch g x x) ∧ Keeps (fun _ => False) w3 Wr) (fun iv _ => Q - (intOf iv).toNat)
    case atStart => exact ⟨0, rfl, Nat.zero_le _, (fun j hj => absurd hj (Nat.not_lt_zero j)), Keeps.refl _ _⟩
    case round =>
      obtain ⟨i, rfl, hi, hno, kr⟩ := hrel
      have HNO : Hid (∀ j, j < i → ∀ x ∈ (qs.map Pq.l).getD j [], ¬ Rch g x x) := hno
      clear hno
      by_cases hlt : i < Q
      · have j1 : decide ((i : Int) < (Q : Int)) = true := decide_eq_true (by omega)
        have j2 : decide (i < Q) = true := decide_eq_true hlt
        have j3 : (i : Int) < (Q : Int) := by omega
        have j4 : (0 : Int) ≤ (i : Int) := by omega
        have hwi : IntKind.i64.wrap ((i : Int) + 1) = (i : Int) + 1 := by rw [IntKind.wrap_i64]; omega
        have hiq : i < qs.length := by rw [HQ.out]; exact hlt
        have HVR : Hid (PV w2.heap.size wr (.slice va Q vc) qs) := by
          have h := HV.out
          rw [← HQ.out] at h ⊢
          exact h.keep kr
        obtain ⟨vb, vc', ev, hcell, hPM⟩ := HVR.out.at hiq
        injection ev with ev ev2 ev3
        subst ev
        clear ev2 ev3
        have hgd : (qs.map Pq.l).getD i [] = (qs.getD i default).l := by
          rw [List.getD_eq_getElem?_getD, List.getElem?_map, List.getElem?_eq_getElem hiq, List.getD_eq_getElem?_getD, List.getElem?_eq_getElem hiq]
          rfl
        have hpm : (qs.getD i default).l ∈ qs.map Pq.l := by
          rw [← hgd, List.getD_eq_getElem?_getD, List.getElem?_eq_getElem (by rw [List.length_map]; exact hiq)]
          exact List.getElem_mem _
        generalize qs.getD i default = q at hcell hPM hgd hpm
        obtain ⟨pa, pc, p⟩ := q
        dsimp only at hcell hPM hgd hpm
        have HGD : Hid ((qs.map Pq.l).getD i [] = p) := hgd
        have HPI : Hid (p ∈ qs.map Pq.l) := hpm
        obtain ⟨hp0, hp1, hp2⟩ := HA.out.p0 p hpm
        have hpos : 0 < p.length := List.length_pos_iff.2 hp0
        obtain ⟨pb, po, rfl, hc0⟩ := hPM 0 hpos
        rw [Nat.add_zero] at hc0
        obtain ⟨x, hx⟩ : ∃ x, x = p.getD 0 0 := ⟨_, rfl⟩
        have hxm : x < m := by rw [hx]; exact hp2 _ (getD_memN hpos)
        rw [← hx] at hc0
        have HX : Hid (x = p.getD 0 0) := hx
        obtain ⟨sa, sc, hlook, hPMx, -⟩ := (HLR.out.keep kr (fun _ _ _ e => e)).q wr (fun _ _ _ => rfl) x (by omega)
        have hcon := contains_any (cap := sc) hPMx (by have := HLL.out x; omega) x
        have HYES : Hid (Rch g x x → ∃ K, Mn g x x K ∧ ∀ W, Keeps (fun _ => False) w W → ∀ L, CyI g x K L → L.length = K → CycA g m L) := fun hr => by
          obtain ⟨K, hK⟩ := rch_mn hr
          refine ⟨K, hK, fun W _ L h1 h2 => .inr ⟨x, K, hxm, fun v hv => ?_, hK, h1, h2⟩⟩
          exact HA.out.first (i := i) (by rw [List.length_map]; exact hiq) HNO.out (by rw [HGD.out, ← HX.out]; exact hv) (by omega)
        have HKR : Hid (Keeps (fun _ => False) w wr) := HK3.out.trans kr
        have q1 : (0 : Int) < (p.length : Int) := by omega
        have hdi := fun W k => HDI.out W x k hxm
        clear hgd hpm hp0 hp1 hp2 hPM hPMx hx
        have HNXT : Hid (p.length = 1 → x ∉ ldN g x → ∀ j, j < i + 1 → ∀ y ∈ (qs.map Pq.l).getD j [], ¬ Rch g y y) := fun h1 h2 j hj y hy => by
          by_cases c : j < i
          · exact HNO.out j c y hy
          · obtain rfl : j = i := by omega
            rw [HGD.out] at hy
            have h3 := HX.out
            rw [h3] at h2
            exact HA.out.no HBL.out HPI.out h1 h2 y hy
        by_cases hl1 : 1 < p.length
        · have s1 : decide ((p.length : Int) > 1) = true := decide_eq_true (by omega)
          have s2 : decide ((1 : Int) < (p.length : Int)) = true := decide_eq_true (by omega)
          have s3 : decide (1 < p.length) = true := decide_eq_true hl1
          obtain ⟨K, hK, hfin⟩ := HYES.out (by have := HA.out.yes HPI.out hl1; rw [← HX.out] at this; exact this)
          have HFIN : Hid (∀ W, Keeps (fun _ => False) w W → ∀ L, CyI g x K L → L.length = K → CycA g m L) := hfin
          have HKK : Hid (Mn g x x K) := hK
          clear hfin hK HYES HNXT hcon hlook hl1
          generalize p.length = pn at *
          have HLRr : Hid (LR wr w1.heap.size w2.heap.size mb g) := HLR.out.keep kr (fun _ _ _ e => e)
          go_wp2_with (first |  (go_at_call 22; refine (hdi _ HKR.out).mono ?_; clear hdi; rintro e w5 ⟨fb, f, rfl, hfb, hF5, hfar, k5⟩; have hsh := HSH.out w5 _ _ _ x fb f K (HLRr.out.keep k5 (fun _ _ _ e => e)) hF5 hfar hxm HKK.out; clear hF5 hfar) | (go_at_call 21; refine hsh.mono ?_; clear hsh; rintro e w6 ⟨ra, rc, L, rfl, hO, hcy, hLK, k6⟩; have HX6 : Hid (CcP (m : Int) (g.map Eg.ed) w (.returned (.tuple #[.slice ra L.length rc, .int .i64 0])) w6) := HPX.out ra rc L w6 (owns_low hO (by have := HKR.out.size; have := k5.size; omega)) (HFIN.out w6 ((HKR.out.trans k5).trans k6) L hcy hLK) ((HKR.out.trans k5).trans k6); clear hO hcy hLK HFIN HPX; generalize L.length = LL at *))
          go_ret2
          exact HX6.out
        · have s1 : decide ((p.length : Int) > 1) = false := decide_eq_false (by omega)
          have s2 : decide ((1 : Int) < (p.length : Int)) = false := decide_eq_false (by omega)
          have s3 : decide (1 < p.length) = false := decide_eq_false hl1
          by_cases hin : x ∈ ldN g x
          · obtain ⟨K, hK, hfin⟩ := HYES.out (PtA.self hin)
            rw [decide_eq_true hin] at hcon
            have HFIN : Hid (∀ W, Keeps (fun _ => False) w W → ∀ L, CyI g x K L → L.length = K → CycA g m L) := hfin
            have HKK : Hid (Mn g x x K) := hK
            clear hfin hK HYES HNXT hl1 hin
            generalize p.length = pn at *
            generalize (ldN g x).length = M at *
            have HLRr : Hid (LR wr w1.heap.size w2.heap.size mb g) := HLR.out.keep kr (fun _ _ _ e => e)
            go_wp2_with (first | (go_at_call 20; refine hcon.mono ?_; clear hcon; rintro e w4 ⟨rfl, k4⟩) | (go_at_call 22; refine (hdi _ (HKR.out.trans k4)).mono ?_; clear hdi; rintro e w5 ⟨fb, f, rfl, hfb, hF5, hfar, k5⟩; have hsh := HSH.out w5 _ _ _ x fb f K (HLRr.out.keep (k4.trans k5) (fun _ _ _ e => e)) hF5 hfar hxm HKK.out; clear hF5 hfar) | (go_at_call 21; refine hsh.mono ?_; clear hsh; rintro e w6 ⟨ra, rc, L, rfl, hO, hcy, hLK, k6⟩; have HX6 : Hid (CcP (m : Int) (g.map Eg.ed) w (.returned (.tuple #[.slice ra L.length rc, .int .i64 0])) w6) := HPX.out ra rc L w6 (owns_low hO (by have := HKR.out.size; have := k5.size; have := k4.size; omega)) (HFIN.out w6 (((HKR.out.trans k4).trans k5).trans k6) L hcy hLK) (((HKR.out.trans k4).trans k5).trans k6); clear hO hcy hLK HFIN HPX; generalize L.length = LL at *))
            go_ret2
            exact HX6.out
          · have HNX : Hid (∀ j, j < i + 1 → ∀ y ∈ (qs.map Pq.l).getD j [], ¬ Rch g y y) := HNXT.out (by omega) hin
            rw [decide_eq_false hin] at hcon
            clear HYES HNXT hl1 hin
            generalize p.length = pn at *
            generalize (ldN g x).length = M at *
            go_wp2_with (go_at_call 20; refine hcon.mono ?_; clear hcon; rintro e w4 ⟨rfl, k4⟩)
            go_roundw
            case rel => exact ⟨i + 1, by go_num, by omega, HNX.out, kr.trans k4⟩
            case measure => simp [intOf]; omega
      · have j1 : decide ((i : Int) < (Q : Int)) = false := decide_eq_false (by omega)
        have j2 : decide (i < Q) = false := decide_eq_false hlt
        have HX : Hid (CcP (m : Int) (g.map Eg.ed) w (.returned (.tuple #[.slice none 0 0, .int .i64 0])) wr) := HPX.out none 0 [] wr (World.ownsRow_nil _ _ _ _) (.inl ⟨rfl, fun v hv => by
          obtain ⟨p, hp, hvp⟩ := HA.out.p2 v hv
          obtain ⟨j, hj, q⟩ := List.getElem_of_mem hp
          refine HNO.out j (by rw [List.length_map, HQ.out] at hj; omega) v ?_
          rw [List.getD_eq_getElem?_getD, List.getElem?_eq_getElem hj, q]
          exact hvp⟩) (HK3.out.trans kr)
        clear HPX HV
        go_wp2_with fail
        go_ret2
        exact HX.out
  · have s1 : (fltG n l == 0) = false := by rw [beq_eq_false_iff_ne]; exact h0
    have s2 : (fltG n l != 0) = true := by rw [bne_iff_ne]; exact h0
    have HPX : Hid (∀ w', Keeps (fun _ => False) w w' → CcP n l w (.returned (.tuple #[.slice none 0 0, .int .i64 (fltG n l)])) w') := fun w' k => ⟨none, 0, [], _, rfl, World.ownsRow_nil _ _ _ _, .inl ⟨h0, rfl, rfl⟩, k⟩
    clear h0
    generalize fltG n l = R at *
    generalize l.length = N at *
    go_enter Try.func7, Try.ntmps7
    go_wp2_with (go_at_call 17; refine hfa.mono ?_; clear hfa; rintro e w1 ⟨rfl, k1⟩)
    go_ret2
    exact HPX.out _ k1
end Go.Proofs.Ytfbbllokpikbiab
