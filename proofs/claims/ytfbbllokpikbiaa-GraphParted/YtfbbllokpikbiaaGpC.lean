import Derived.Test.YtfbbllokpikbiaaGpB
namespace Go.Proofs.Ytfbbllokpikbiaa
open Go.RowKit Go.Deep
attribute [local go_sem] Oper.semAt_some run_store_nf run_store_f
def XN (P : List (List Nat)) : Nat → List Int := fun i => (P.getD i []).map (fun i : Nat => (i : Int))
theorem XN_len (P : List (List Nat)) (i : Nat) : (XN P i).length = (P.getD i []).length := List.length_map _
/-- A list whose first j numbers were written. -/
def W7 (L : List Int) (i j : Nat) : List Int := (List.range L.length).map (fun k => if k < j then (-77 - (i : Int)) else L.getD k 0)
theorem W7_len (L : List Int) (i j : Nat) : (W7 L i j).length = L.length := by unfold W7; rw [List.length_map, List.length_range]
theorem W7_el (L : List Int) (i j k : Nat) (h : k < (W7 L i j).length) : (W7 L i j)[k] = if k < j then (-77 - (i : Int)) else L.getD k 0 := by
  have : (W7 L i j)[k]? = some (if k < j then (-77 - (i : Int)) else L.getD k 0) := by
    rw [W7_len] at h
    unfold W7
    rw [List.getElem?_map, List.getElem?_range h]
    rfl
  rw [List.getElem?_eq_getElem h] at this
  exact Option.some.inj this
theorem W7_zero (L : List Int) (i : Nat) : W7 L i 0 = L := by
  apply List.ext_getElem (W7_len L i 0)
  intro k h1 h2
  rw [W7_el, if_neg (Nat.not_lt_zero k), List.getD_eq_getElem?_getD, List.getElem?_eq_getElem h2]
  rfl
theorem W7_set (L : List Int) (i j : Nat) : (W7 L i j).set j (-77 - (i : Int)) = W7 L i (j + 1) := by
  apply List.ext_getElem
  · rw [List.length_set, W7_len, W7_len]
  · intro k h1 h2
    rw [List.getElem_set, W7_el, W7_el]
    by_cases e : j = k
    · rw [if_pos e, if_pos (by omega)]
    · rw [if_neg e]
      by_cases c : k < j
      · rw [if_pos c, if_pos (by omega)]
      · rw [if_neg c, if_neg (by omega)]
theorem W7_get (L : List Int) (i j k : Nat) (hk : k < j) (hl : k < L.length) : (W7 L i j).getD k 0 = -77 - (i : Int) := by
  rw [List.getD_eq_getElem?_getD, List.getElem?_eq_getElem (by rw [W7_len]; exact hl), W7_el, if_pos hk]
  rfl
def WF (P : List (List Nat)) (j : Nat) : List Int := W7 (XN P j) j (XN P j).length
def XA (P : List (List Nat)) (i : Nat) : Nat → List Int := fun j => if j < i then WF P j else XN P j
def XB (P : List (List Nat)) (i : Nat) : Nat → List Int := fun j => if j < i then WF P j ++ [78] else WF P j
theorem WF_len (P : List (List Nat)) (j : Nat) : (WF P j).length = (P.getD j []).length := by unfold WF; rw [W7_len, XN_len]
theorem XA_zero (P : List (List Nat)) : XA P 0 = XN P := by funext j; unfold XA; rw [if_neg (Nat.not_lt_zero j)]
theorem XA_len (P : List (List Nat)) (i j : Nat) : (XA P i j).length = (P.getD j []).length := by
  unfold XA
  split
  · exact WF_len P j
  · exact XN_len P j
theorem XA_in (P : List (List Nat)) (i : Nat) : upX (XA P i) i (W7 (XN P i) i 0) = XA P i := by
  funext j
  unfold upX
  split
  · next e => subst e; rw [W7_zero]; unfold XA; rw [if_neg (Nat.lt_irrefl _)]
  · rfl
theorem XA_out (P : List (List Nat)) (i : Nat) {k : Nat} (hk : k = (P.getD i []).length) : upX (XA P i) i (W7 (XN P i) i k) = XA P (i + 1) := by
  funext j
  unfold upX
  split
  · next e => subst e; rw [hk, ← XN_len]; unfold XA; rw [if_pos (Nat.lt_succ_self _)]; rfl
  · next e =>
    unfold XA
    by_cases c : j < i
    · rw [if_pos c, if_pos (by omega)]
    · rw [if_neg c, if_neg (by omega)]
theorem upX_up (X : Nat → List Int) (i : Nat) (A B : List Int) : upX (upX X i A) i B = upX X i B := by
  funext j
  unfold upX
  split <;> rfl
theorem upX_at (X : Nat → List Int) (i : Nat) (A : List Int) : upX X i A i = A := by unfold upX; rw [if_pos rfl]
theorem XB_zero (P : List (List Nat)) {Q : Nat} (hQ : Q = P.length) : XA P Q = XB P 0 := by
  funext j
  unfold XA XB
  rw [if_neg (Nat.not_lt_zero j)]
  split
  · rfl
  · have e : XN P j = [] := by unfold XN; rw [List.getD_eq_getElem?_getD, List.getElem?_eq_none (by omega)]; rfl
    unfold WF
    rw [e]
    rfl
theorem XB_at (P : List (List Nat)) (i : Nat) : XB P i i = WF P i := by unfold XB; rw [if_neg (Nat.lt_irrefl _)]
theorem XB_up (P : List (List Nat)) (i : Nat) : upX (XB P i) i (XB P i i ++ [78]) = XB P (i + 1) := by
  funext j
  unfold upX
  split
  · next e => subst e; rw [XB_at]; unfold XB; rw [if_pos (Nat.lt_succ_self _)]
  · unfold XB
    by_cases c : j < i
    · rw [if_pos c, if_pos (by omega)]
    · rw [if_neg c, if_neg (by omega)]
theorem XB_end (P : List (List Nat)) {Q i : Nat} (hi : i < Q) : XB P Q i = WF P i ++ [78] := by unfold XB; rw [if_pos hi]
theorem XB_h (P : List (List Nat)) {Q i : Nat} (hi : i < Q) (h0 : 0 < (P.getD i []).length) : (XB P Q i).getD 0 0 = -77 - (i : Int) := by
  rw [XB_end P hi]
  have h1 : 0 < (WF P i).length := by rw [WF_len]; exact h0
  rw [List.getD_eq_getElem?_getD, List.getElem?_append_left h1, ← List.getD_eq_getElem?_getD]
  unfold WF
  exact W7_get _ _ _ _ (by rw [XN_len]; exact h0) (by rw [XN_len]; exact h0)
theorem XB_t (P : List (List Nat)) {Q i : Nat} (hi : i < Q) : (XB P Q i).getD (P.getD i []).length 0 = 78 := by
  rw [XB_end P hi, List.getD_eq_getElem?_getD, List.getElem?_append_right (by rw [WF_len]; exact Nat.le_refl _), WF_len, Nat.sub_self]
  rfl
section
variable {base Q : Nat} {W : World} {v : Value} {sa : Nat → Option Addr} {sc : Nat → Nat} {X : Nat → List Int}
theorem LQ.ofP {qs : List Pq} {P : List (List Nat)} (h : PV base W v qs) (hb : base ≤ W.heap.size) (hP : qs.map Pq.l = P) : ∃ va vc sa sc, v = .slice va P.length vc ∧ LQ base W P.length v sa sc (XN P) := by
  subst hP
  obtain ⟨va, vc, rfl, -⟩ := own_slice h.ra
  have hL := LQ.of h hb
  rw [List.length_map]
  have e : XN (qs.map Pq.l) = fun i => (qs.getD i default).l.map (fun i : Nat => (i : Int)) := by
    funext i
    unfold XN
    rw [List.getD_eq_getElem?_getD, List.getElem?_map, List.getD_eq_getElem?_getD]
    cases qs[i]? <;> rfl
  rw [e]
  exact ⟨va, vc, _, _, rfl, hL⟩
theorem LQ.pm (h : LQ base W Q v sa sc X) {i : Nat} (hi : i < Q) {L : List Nat} (hX : X i = L.map (fun i : Nat => (i : Int))) : PM W (sa i) L := by
  have := h.e i hi
  rw [hX, zvs_pvs] at this
  exact PM.of this
theorem LQ.cell (h : LQ base W Q v sa sc X) {i ab ac : Nat} (hi : i < Q) (hv : v = .slice (some ⟨ab, 0, none⟩) Q ac) : W.cell? ⟨ab, i, none⟩ = some (.slice (sa i) (X i).length (sc i)) := by
  obtain ⟨ab', ac', e, h1, -⟩ := h.at hi
  rw [hv] at e
  injection e with e _ _
  injection e with e
  injection e with e _ _
  rw [e]
  exact h1
theorem LQ.keepS (h : LQ base W Q v sa sc X) {W5 W' : World} {S : Nat → Prop} (k1 : Keeps (fun _ => False) W W5) (k : Keeps S W5 W') (hS : ∀ b, S b → b < base ∨ W.heap.size ≤ b) : LQ base W' Q v sa sc X := by
  have ap : ∀ {t : TypeId} {u : Value} {m : Nat} {xs : List Value}, W.ownsRow base t 1 u m xs → W'.ownsRow base t 1 u m xs := fun ho => k.owns (k1.owns ho (fun _ _ e => e)) (fun b hb e => by
    have h1 := owns_baseT ho b hb
    have h2 := owns_lt' ho b hb
    rcases hS b e with q | q <;> omega)
  exact ⟨ap h.r, fun i hi => ap (h.e i hi), h.d, Nat.le_trans h.b (Nat.le_trans k1.size k.size)⟩
theorem wpList_store_lq {ops : Array Oper} {rest : List Oper} {o : Oper} {a : Act} {R : Exit → Act → World → Prop} (hgd : o.guard = none) (hd : o.dst = none) (x y : Operand) (ho : o.op = .store 3 x y) (g j : Nat) (hx : a.eval x = .pointer (some ⟨g, j, none⟩)) (z : Int) (hy : a.eval y = .int .i64 z) (i : Nat)
    (hO : LQ base W Q v sa sc X) (hi : i < Q) (hj : j < (X i).length) (hg : sa i = some ⟨g, 0, none⟩) (h : ∀ w1, LQ base w1 Q v sa sc (upX X i ((X i).set j z)) → Keeps (fun k => k = g) W w1 → wpList Try.prog ops R rest a w1) : wpList Try.prog ops R (o :: rest) a W := by
  have hE := hO.e i hi
  rw [hg] at hE
  have hB := own_clL hE
  have hl : j < (zvs (X i)).length := by rw [zvs_len]; exact hj
  exact wpList_plain hgd fun _ hK => by
    unfold Oper.wp execOp
    simp only [ho, hx, hy, Instr.storeAt, Instr.sureAddr, Sem.run_bind, Sem.run_pure, Result.andThen_ok, run_store_fi (by rw [hB.c j _ (List.getElem?_eq_getElem hl)]; rfl) (hB.z j hl) z]
    refine hK _ _ ?_
    rw [hd]
    exact h _ (hO.put hi hj hg z) ((Keeps.refl (fun k => k = g) W).setCell (p := ⟨g, j, none⟩) (fun _ => rfl) _)
theorem st35o (W : World) (b o : Nat) (h : (W.cell? ⟨b, o, none⟩).isSome = true) (hz : W.frozen? ⟨b, o, none⟩ = false) (sa : Option Addr) (sn sc : Nat) : (storeVar 35 ⟨b, o, none⟩ (.slice sa sn sc)).run Try.prog W = .ok () (W.setCell ⟨b, o, none⟩ (.slice sa sn sc)) := by
  obtain ⟨u, hu⟩ := Option.isSome_iff_exists.1 h
  go_simp
theorem wpList_store_so {W : World} {ops : Array Oper} {rest : List Oper} {o : Oper} {a : Act} {R : Exit → Act → World → Prop} (hgd : o.guard = none) (hd : o.dst = none) (x y : Operand) (ho : o.op = .store 35 x y) (g j : Nat) (hx : a.eval x = .pointer (some ⟨g, j, none⟩)) (sa : Option Addr) (sn sc : Nat) (hy : a.eval y = .slice sa sn sc)
    (hc : (W.cell? ⟨g, j, none⟩).isSome = true) (hz : W.frozen? ⟨g, j, none⟩ = false) (h : ∀ w1, w1 = W.setCell ⟨g, j, none⟩ (.slice sa sn sc) → wpList Try.prog ops R rest a w1) : wpList Try.prog ops R (o :: rest) a W :=
  wpList_plain hgd fun _ hK => by
    unfold Oper.wp execOp
    simp only [ho, hx, hy, Instr.storeAt, Instr.sureAddr, Sem.run_bind, Sem.run_pure, Result.andThen_ok, st35o W g j hc hz sa sn sc]
    refine hK _ _ ?_
    rw [hd]
    exact h _ rfl
end
theorem inc_len {p : List Nat} {n : Nat} (h : p.Pairwise (· < ·)) (hn : ∀ x ∈ p, x < n) : p.length ≤ n := nodup_leN n p (h.imp (fun {_ _} q => Nat.ne_of_lt q)) hn
theorem PsA.dim {n : Int} {l : List Ed} {P : List (List Nat)} {ec : Int} (h : PsA n l P ec) : P.length ≤ 4096 ∧ ∀ i, i < P.length → 0 < (P.getD i []).length ∧ (P.getD i []).length ≤ 4096 := by
  rcases h with ⟨-, -, rfl⟩ | ⟨h1, -, h3⟩
  · exact ⟨Nat.zero_le _, fun i hi => absurd hi (Nat.not_lt_zero _)⟩
  · obtain ⟨m, g, e1, hm, e2, -⟩ := good_eg h1
    have hA := h3 m g e1 e2
    have at_ : ∀ i, i < P.length → P.getD i [] ∈ P := fun i hi => by rw [List.getD_eq_getElem?_getD, List.getElem?_eq_getElem hi]; exact List.getElem_mem hi
    refine ⟨?_, fun i hi => ?_⟩
    · have h1 := nodup_leN m (P.map (fun p => p.getD 0 0)) (List.pairwise_map.2 (hA.p3.imp (fun {a b} q => Nat.ne_of_lt q))) (fun y hy => by
        obtain ⟨p, hp, rfl⟩ := List.mem_map.1 hy
        obtain ⟨h1, -, h3⟩ := hA.p0 p hp
        exact h3 _ (getD_memN (List.length_pos_iff.2 h1)))
      rw [List.length_map] at h1
      omega
    · obtain ⟨q1, q2, q3⟩ := hA.p0 _ (at_ i hi)
      exact ⟨List.length_pos_iff.2 q1, Nat.le_trans (inc_len q2 q3) hm⟩
theorem no_rch (u b : Nat) : ¬ Rch [] u b := fun ⟨k, h⟩ => by cases h with
  | one e h => cases h
  | more e h _ => cases h
theorem sc_nil {x y : Nat} (h : SC [] x y) : x = y := Classical.byContradiction fun c => no_rch _ _ (((sc_iff c).1 h).1)
theorem PsA.two {P : List (List Nat)} {ec : Int} (h : PsA 2 [] P ec) : ec = 0 ∧ P.length = 2 := by
  have h0 : fltG 2 [] = 0 := by decide
  rcases h with ⟨q, -⟩ | ⟨-, h2, h3⟩
  · exact absurd h0 q
  · have hA := h3 2 [] rfl rfl
    have hB : PtA [] 2 [[0], [1]] := by
      refine ⟨fun p hp => ?_, fun p hp x hx y hy => ?_, fun u hu => ?_, by simp⟩
      · rcases List.mem_cons.1 hp with rfl | hp
        · exact ⟨by simp, by simp, fun x hx => by simp at hx; omega⟩
        · rcases List.mem_cons.1 hp with rfl | hp
          · exact ⟨by simp, by simp, fun x hx => by simp at hx; omega⟩
          · cases hp
      · rcases List.mem_cons.1 hp with rfl | hp
        · simp at hx; subst hx
          constructor
          · intro q; simp at q; subst q; exact SC.refl _ _
          · intro q; rw [← sc_nil q]; simp
        · rcases List.mem_cons.1 hp with rfl | hp
          · simp at hx; subst hx
            constructor
            · intro q; simp at q; subst q; exact SC.refl _ _
            · intro q; rw [← sc_nil q]; simp
          · cases hp
      · have : u = 0 ∨ u = 1 := by omega
        rcases this with rfl | rfl
        · exact ⟨[0], by simp, by simp⟩
        · exact ⟨[1], by simp, by simp⟩
    rw [hA.one hB]
    exact ⟨h2, rfl⟩
set_option maxHeartbeats 1500000 in
set_option maxRecDepth 100000 in
theorem gparted_any {w : World} (n : Int) (_ : I64 n) {a : Option Addr} {cap : Nat} {l : List Ed} (hl : EL w a l) (hz : a = none → cap = 0) (hlen : l.length ≤ 4398046510976) : Calls Try.prog 8 #[.int .i64 n, .slice a l.length cap] w fun e w' => e = .returned (.bool true) ∧ Below w.heap.size w w' := by
  have hed := edgesOf_any hl hz hlen
  have HL : Hid (EL w a l) := hl
  have HRO : Hid (∀ W, Keeps (fun _ => False) w W → Calls Try.prog 23 #[.int .i64 n, .slice a l.length cap] W (PsP n l W)) := fun W k => rParts_any n (HL.out.keep k) hlen
  have HPO : Hid (∀ W g c P EC, PsA n l P EC → EL W (some ⟨g, 0, none⟩) (l ++ [e77, e78]) → Calls Try.prog 22 #[.int .i64 n, .slice (some ⟨g, 0, none⟩) l.length c] W fun e w' => ∃ va vc sa sc, e = .returned (.tuple #[.slice va P.length vc, .int .i64 EC]) ∧ LQ W.heap.size w' P.length (.slice va P.length vc) sa sc (XN P) ∧ Keeps (fun _ => False) W w') := fun W g c P EC hA hE => (Parts_any (cap := c) n (el_app hE) (by omega)).mono (by
    rintro e w' ⟨v, qs, ec, rfl, hr, hA2, k⟩
    obtain ⟨e1, rfl⟩ := hA.one hA2
    obtain ⟨va, vc, sa, sc, rfl, hq⟩ := LQ.ofP hr k.size e1.symm
    exact ⟨va, vc, sa, sc, rfl, hq, k⟩)
  have HP2 : Hid (∀ W, Calls Try.prog 22 #[.int .i64 2, .slice none 0 0] W fun e w' => ∃ va vc, e = .returned (.tuple #[.slice va 2 vc, .int .i64 0]) ∧ Keeps (fun _ => False) W w') := fun W => (Parts_any (l := []) (cap := 0) 2 (fun i hi => absurd hi (Nat.not_lt_zero i)) (by show 0 ≤ _; omega)).mono (by
    rintro e w' ⟨v, qs, ec, rfl, hr, hA2, k⟩
    obtain ⟨rfl, hq⟩ := hA2.two
    obtain ⟨va, vc, rfl, -⟩ := own_slice hr.ra
    rw [List.length_map] at hq
    rw [hq]
    exact ⟨va, vc, rfl, k⟩)
  have HAW : Hid (∀ W g c, EL W a l → EL W (some ⟨g, 0, none⟩) (l ++ [e77, e78]) → Calls Try.prog 12 #[.slice (some ⟨g, 0, none⟩) (l.length + 2) c, .slice a l.length cap] W fun e w' => e = .returned (.bool true) ∧ Keeps (fun _ => False) W w') := fun W g c h1 h2 => asWas_ok c cap h2 h1 hlen
  have HROOM : Hid (∀ W base v, W.ownsRow base 32 4 v (l.length + 2) (ecl (l ++ [e77, e78])) → ∃ g c, v = .slice (some ⟨g, 0, none⟩) (l.length + 2) c ∧ l.length + 2 ≤ c ∧ EL W (some ⟨g, 0, none⟩) (l ++ [e77, e78]) ∧ g < W.heap.size) := fun W base v h => roomy_of rfl h
  clear hl hz
  generalize l.length = N at *
  have m1 : (0 : Int) ≤ (N : Int) := by omega
  go_enter Try.func8, Try.ntmps8
  refine wp_seq_k (fun KK hKK => ?_)
  have hKH : Hid _ := hKK
  clear hKK
  go_wp2_with fail
  refine hKH.out _ _ ?_
  clear hKH KK
  refine wp_seq_k (fun KK hKK => ?_)
  have hKH : Hid _ := hKK
  clear hKK
  go_wp2_with (go_at_call 9; refine hed.mono ?_; clear hed; rintro e w1 ⟨v, rfl, ho, k1⟩; obtain ⟨gr, rc, rfl, hrc, hER, hgl⟩ := HROOM.out w1 _ v ho; clear HROOM ho; have hro := HRO.out w1 k1; clear HRO)
  refine hKH.out _ _ ?_
  clear hKH KK
  refine wp_seq_k (fun KK hKK => ?_)
  have hKH : Hid _ := hKK
  clear hKK
  go_wp2_with (go_at_call 23; refine hro.mono ?_; clear hro; rintro e w2 ⟨v, qs, EC, rfl, hw, hA, k2⟩; obtain ⟨P, hP⟩ : ∃ P, qs.map Pq.l = P := ⟨_, rfl⟩; rw [hP] at hA; obtain ⟨wa, wc, wsa, wsc, rfl, hw⟩ := LQ.ofP hw k2.size hP; clear hP)
  refine hKH.out _ _ ?_
  clear hKH KK
  have m2 : (N : Int) ≤ (rc : Int) := by omega
  have m3 : N ≤ rc := by omega
  have HER : Hid (EL w1 (some ⟨gr, 0, none⟩) (l ++ [e77, e78])) := hER
  have HW : Hid (LQ w1.heap.size w2 P.length (.slice wa P.length wc) wsa wsc (XN P)) := hw
  have HA : Hid (PsA n l P EC) := hA
  obtain ⟨hQn, hdim⟩ := hA.dim
  have HDIM : Hid (∀ i, i < P.length → 0 < (P.getD i []).length ∧ (P.getD i []).length ≤ 4096) := hdim
  have hpo := HPO.out w2 gr rc P EC hA (hER.keep k2)
  have hz1 := k1.size
  have hz2 := k2.size
  clear hER hw hA hdim
  refine wp_seq_k (fun KK hKK => ?_)
  have hKH : Hid _ := hKK
  clear hKK
  go_wp2_with (go_at_call 22; refine hpo.mono ?_; clear hpo; rintro e w3 ⟨la, lc, sa, sc, rfl, hr3, k3⟩)
  refine hKH.out _ _ ?_
  clear hKH KK
  have HL3 : Hid (LQ w2.heap.size w3 P.length (.slice la P.length lc) sa sc (XN P)) := hr3
  have haw := HAW.out w3 gr rc (((HL.out.keep k1).keep k2).keep k3) ((HER.out.keep k2).keep k3)
  have hz3 := k3.size
  clear hr3 HAW
  have x1 : (EC != EC) = false := by simp
  generalize hM : P.length = Q at *
  have HM : Hid (P.length = Q) := hM
  clear hM
  have x2 : ((Q : Int) != (Q : Int)) = false := by simp
  have x3 : (Q != Q) = false := by simp
  refine wp_seq_k (fun KK hKK => ?_)
  have hKH : Hid _ := hKK
  clear hKK
  go_wp2_with (go_at_call 12; refine haw.mono ?_; clear haw; rintro e w4 ⟨rfl, k4⟩)
  refine hKH.out _ _ ?_
  clear hKH KK
  have hz4 := k4.size
  have hpo : Calls Try.prog 22 #[.int .i64 n, .slice (some ⟨gr, 0, none⟩) N rc] w4 fun e w' => ∃ va vc sa sc, e = .returned (.tuple #[.slice va Q vc, .int .i64 EC]) ∧ LQ w4.heap.size w' Q (.slice va Q vc) sa sc (XN P) ∧ Keeps (fun _ => False) w4 w' := by
    have h := HPO.out w4 gr rc P EC HA.out (((HER.out.keep k2).keep k3).keep k4)
    rw [HM.out] at h
    exact h
  clear HPO x1
  refine wp_seq_k (fun KK hKK => ?_)
  have hKH : Hid _ := hKK
  clear hKK
  go_wp2_with (go_at_call 22; refine hpo.mono ?_; clear hpo; rintro e w5 ⟨ga, gc, gsa, gsc, rfl, hr5, k5⟩)
  refine hKH.out _ _ ?_
  clear hKH KK
  have HG5 : Hid (LQ w4.heap.size w5 Q (.slice ga Q gc) gsa gsc (XN P)) := hr5
  have hz5 := k5.size
  obtain ⟨S, hS⟩ : ∃ S : Nat → Prop, S = fun b => w2.heap.size ≤ b ∧ b < w3.heap.size := ⟨_, rfl⟩
  have HWS : Hid (∀ W, Keeps S w5 W → LQ w1.heap.size W Q (.slice wa Q wc) wsa wsc (XN P)) := fun W k => HW.out.keepS ((k3.trans k4).trans k5) k (fun b e => by rw [hS] at e; exact .inr e.1)
  have HGS : Hid (∀ W, Keeps S w5 W → LQ w4.heap.size W Q (.slice ga Q gc) gsa gsc (XN P)) := fun W k => HG5.out.keepS (Keeps.refl _ _) k (fun b e => by rw [hS] at e; have := e.2; exact .inl (by omega))
  have HFS : Hid (∀ W, Keeps S w5 W → Keeps (fun _ => False) w W) := fun W k => ((((k1.trans k2).trans k3).trans k4).trans k5).trans' k (fun _ _ e => e) (fun b hb e => by rw [hS] at e; have := e.1; omega)
  have HL5 : Hid (LQ w2.heap.size w5 Q (.slice la Q lc) sa sc (XN P)) := HL3.out.keep (k4.trans k5)
  have HSB : Hid (∀ b, (Value.slice la Q lc).ownBlock = some b → S b) := fun b e => by rw [hS]; exact ⟨owns_baseT HL3.out.r b e, owns_lt' HL3.out.r b e⟩
  have HSE : Hid (∀ i, i < Q → ∀ g, sa i = some ⟨g, 0, none⟩ → S g) := fun i hi g e => by
    have h := HL3.out.e i hi
    rw [e] at h
    rw [hS]
    exact ⟨owns_baseT h g rfl, owns_lt' h g rfl⟩
  have HMM := HM.out.symm
  clear HL3 HG5 hz1 hz2 hz3 hz4 hz5 hS HW HA hr5 k1 k2 k3 k4 k5 HL HER hgl hrc HM
  have HM : Hid (Q = P.length) := HMM
  clear HMM
  go_wp2_with fail
  go_loopg [12] Q (fun gh iv Wr => ∃ (i : Nat), gh + i = Q ∧ iv = .int .i64 (i : Int) ∧ LQ w2.heap.size Wr Q (.slice la Q lc) sa sc (XA P i) ∧ Keeps S w5 Wr)
  case atStart => exact ⟨0, rfl, rfl, by rw [XA_zero]; exact HL5.out, Keeps.refl _ _⟩
  case round =>
    obtain ⟨i, hgh, rfl, hLQ, kr⟩ := hrel
    have HLQ : Hid (LQ w2.heap.size wr Q (.slice la Q lc) sa sc (XA P i)) := hLQ
    have HKR : Hid (Keeps S w5 wr) := kr
    clear HL5 hLQ kr
    by_cases hlt : i < Q
    · have j1 : decide ((i : Int) < (Q : Int)) = true := decide_eq_true (by omega)
      have j2 : decide (i < Q) = true := decide_eq_true hlt
      have j3 : (i : Int) < (Q : Int) := by omega
      have j4 : (0 : Int) ≤ (i : Int) := by omega
      have hwi : IntKind.i64.wrap ((i : Int) + 1) = (i : Int) + 1 := by rw [IntKind.wrap_i64]; omega
      have hws : IntKind.i64.wrap (-77 - (i : Int)) = -77 - (i : Int) := by rw [IntKind.wrap_i64]; omega
      obtain ⟨hn0, hn1⟩ := HDIM.out i hlt
      obtain ⟨lb, lc', e, hcl, -⟩ := HLQ.out.at hlt
      injection e with e _ ec
      subst e ec
      obtain ⟨g, hg, -, -, -⟩ := HLQ.out.blk hlt (by rw [XA_len]; exact hn0)
      obtain ⟨wb, wc', e, hcw, -⟩ := (HWS.out wr HKR.out).at hlt
      injection e with e _ ec
      subst e ec
      rw [XA_len, hg] at hcl
      rw [XN_len] at hcw
      have HSI : Hid (∀ u : KS wr, Calls Try.prog 15 #[.slice (some ⟨g, 0, none⟩) (P.getD i []).length (sc i), .slice (wsa i) (P.getD i []).length (wsc i)] u.1 fun e w' => e = .returned (.bool true) ∧ Keeps (fun _ => False) u.1 w') := fun u => by
        have h1 := (HLQ.out.keep u.property).pm hlt (L := P.getD i []) (by unfold XA; rw [if_neg (Nat.lt_irrefl _)]; rfl)
        have h2 := ((HWS.out wr HKR.out).keep u.property).pm hlt (L := P.getD i []) rfl
        rw [hg] at h1
        exact sameInts_ok (sc i) (wsc i) h1 h2 (by omega)
      have HG : Hid (sa i = some ⟨g, 0, none⟩) := hg
      obtain ⟨ni, hni⟩ : ∃ ni, ni = (P.getD i []).length := ⟨_, rfl⟩
      obtain ⟨ci, hci⟩ : ∃ ci, ci = sc i := ⟨_, rfl⟩
      obtain ⟨wai, hwai⟩ : ∃ wai, wai = wsa i := ⟨_, rfl⟩
      obtain ⟨wci, hwci⟩ : ∃ wci, wci = wsc i := ⟨_, rfl⟩
      rw [← hni, ← hci] at hcl HSI
      rw [← hwai, ← hwci] at HSI
      rw [← hni, ← hwai, ← hwci] at hcw
      rw [← hni] at hn0 hn1
      have HNI : Hid (ni = (P.getD i []).length) := hni
      have HCI : Hid (ci = sc i) := hci
      clear hni hci hwai hwci hg
      have hsi := HSI.out
      have r1 : ∀ u : KS wr, u.1.cell? ⟨lb, i, none⟩ = some (.slice (some ⟨g, 0, none⟩) ni ci) := ks_cell hcl
      have r2 : ∀ u : KS wr, u.1.cell? ⟨wb, i, none⟩ = some (.slice wai ni wci) := ks_cell hcw
      have hNE : Nonempty (KS wr) := ⟨⟨wr, Keeps.refl _ wr⟩⟩
      clear hcl hcw HSI
      go_wp2_with fail
      refine wp_region_ks (by kernel_rfl) (by kernel_rfl) ?_
      (repeat (first | go_big_quiet_skip | go_big_quiet_step ((go_at_call 15; with_reducible refine (hsi _).mono ?_; rintro e w9 ⟨rfl, k9⟩; exact ⟨rfl, ⟨_, (KS.property _).trans k9⟩, rfl⟩))))
      refine wpQuiet_nil ?_
      rintro _ ⟨u, rfl⟩
      have HLU : Hid (LQ w2.heap.size u.1 Q (.slice (some ⟨lb, 0, none⟩) Q lc) sa sc (XA P i)) := HLQ.out.keep u.property
      have HKU : Hid (Keeps S w5 u.1) := HKR.out.trans' u.property (fun _ _ e => e) (fun _ _ e => e.elim)
      clear r1 r2 hNE hsi HLQ HKR
      generalize u.val = wu at *
      go_wp2_with fail
      go_loopw [13] (fun jv Wx => ∃ (j : Nat), jv = .int .i64 (j : Int) ∧ j ≤ ni ∧ LQ w2.heap.size Wx Q (.slice (some ⟨lb, 0, none⟩) Q lc) sa sc (upX (XA P i) i (W7 (XN P i) i j)) ∧ Keeps S w5 Wx) (fun jv _ => ni - (intOf jv).toNat)
      case atStart => exact ⟨0, rfl, Nat.zero_le _, by rw [XA_in]; exact HLU.out, HKU.out⟩
      case round =>
        obtain ⟨j, rfl, hjn, hLQ, kr⟩ := hrel
        have HLX : Hid (LQ w2.heap.size wr Q (.slice (some ⟨lb, 0, none⟩) Q lc) sa sc (upX (XA P i) i (W7 (XN P i) i j))) := hLQ
        have HKX : Hid (Keeps S w5 wr) := kr
        clear hLQ kr HLU HKU
        have hcl := HLX.out.cell hlt rfl
        rw [upX_at, W7_len, XN_len, ← HNI.out, HG.out, ← HCI.out] at hcl
        by_cases hjl : j < ni
        · have o1 : decide ((j : Int) < (ni : Int)) = true := decide_eq_true (by omega)
          have o2 : decide (j < ni) = true := decide_eq_true hjl
          have o3 : (j : Int) < (ni : Int) := by omega
          have o4 : (0 : Int) ≤ (j : Int) := by omega
          have hwj : IntKind.i64.wrap ((j : Int) + 1) = (j : Int) + 1 := by rw [IntKind.wrap_i64]; omega
          go_wp2_with (refine wpList_store_lq rfl rfl _ _ rfl g j rfl _ rfl i HLX.out hlt (by rw [upX_at, W7_len, XN_len, ← HNI.out]; exact hjl) HG.out ?_; intro w6 hf6 k6; clear HLX hcl)
          go_roundw
          case rel => exact ⟨j + 1, by go_num, by omega, by rw [upX_at, upX_up, W7_set] at hf6; exact hf6, HKX.out.trans' k6 (fun _ _ e => e) (fun b hb e => by have e : b = g := e; rw [e]; exact HSE.out i hlt g HG.out)⟩
          case measure => simp [intOf]; omega
        · have o1 : decide ((j : Int) < (ni : Int)) = false := decide_eq_false (by omega)
          have o2 : decide (j < ni) = false := decide_eq_false hjl
          go_wp2_with fail
          go_roundg (gk - 1)
          case measure => omega
          case rel => exact ⟨i + 1, by omega, by go_num, by rw [← XA_out P i (k := j) (by rw [← HNI.out]; omega)]; exact HLX.out, HKX.out⟩
    · have j1 : decide ((i : Int) < (Q : Int)) = false := decide_eq_false (by omega)
      have j2 : decide (i < Q) = false := decide_eq_false hlt
      have HLA : Hid (LQ w2.heap.size wr Q (.slice la Q lc) sa sc (XB P 0)) := by
        have e : i = Q := by omega
        have h := HLQ.out
        rw [e, XB_zero P HM.out] at h
        exact h
      clear HLQ hgh hlt
      go_wp2_with fail
      clear j1 j2
      go_loopg [14] Q (fun gh iv Wr => ∃ (i : Nat) (sa' : Nat → Option Addr) (sc' : Nat → Nat), gh + i = Q ∧ iv = .int .i64 (i : Int) ∧ LQ w2.heap.size Wr Q (.slice la Q lc) sa' sc' (XB P i) ∧ (∀ j, i ≤ j → sa' j = sa j) ∧ Keeps S w5 Wr)
      case atStart => exact ⟨0, sa, sc, rfl, rfl, HLA.out, fun _ _ => rfl, HKR.out⟩
      case round =>
        obtain ⟨i, sa', sc', hgh, rfl, hLQ, hsm, kr⟩ := hrel
        have HLQ : Hid (LQ w2.heap.size wr Q (.slice la Q lc) sa' sc' (XB P i)) := hLQ
        have HSM : Hid (∀ j, i ≤ j → sa' j = sa j) := hsm
        have HKB : Hid (Keeps S w5 wr) := kr
        clear hLQ hsm kr HLA HKR
        by_cases hlt : i < Q
        · have j1 : decide ((i : Int) < (Q : Int)) = true := decide_eq_true (by omega)
          have j2 : decide (i < Q) = true := decide_eq_true hlt
          have j3 : (i : Int) < (Q : Int) := by omega
          have j4 : (0 : Int) ≤ (i : Int) := by omega
          have hwi : IntKind.i64.wrap ((i : Int) + 1) = (i : Int) + 1 := by rw [IntKind.wrap_i64]; omega
          obtain ⟨hn0, hn1⟩ := HDIM.out i hlt
          obtain ⟨lb, lc', e, hcl, hlb⟩ := HLQ.out.at hlt
          injection e with e _ ec
          subst e ec
          have hlen : (XB P i i).length = (P.getD i []).length := by rw [XB_at, WF_len]
          obtain ⟨a3, c3, W3, hr3, hO3, k3, ho3⟩ := append_z (HLQ.out.e i hlt) HLQ.out.b (by rw [hlen]; omega) 78
          have HAPP : Hid (LQ w2.heap.size (W3.setCell ⟨lb, i, none⟩ (.slice a3 ((XB P i i).length + 1) c3)) Q (.slice (some ⟨lb, 0, none⟩) Q lc) (fun j => if j = i then a3 else sa' j) (fun j => if j = i then c3 else sc' j) (XB P (i + 1))) := by
            have h := HLQ.out.app hlt rfl hO3 k3 ho3
            rw [XB_up] at h
            exact h
          have hown := own_clL (k3.owns HLQ.out.r (fun b hb e => own_apart HLQ.out.r (HLQ.out.e i hlt) (by decide) b hb e))
          have hil : i < ((List.range Q).map (fun i_1 => Value.slice (sa' i_1) (XB P i i_1).length (sc' i_1))).length := by rw [List.length_map, List.length_range]; exact hlt
          have hcs : (W3.cell? ⟨lb, i, none⟩).isSome = true := by rw [hown.c i _ (List.getElem?_eq_getElem hil)]; rfl
          have hcz : W3.frozen? ⟨lb, i, none⟩ = false := hown.z i hil
          have HK3 : Hid (Keeps S w5 (W3.setCell ⟨lb, i, none⟩ (.slice a3 ((XB P i i).length + 1) c3))) := by
            refine (HKB.out.trans' k3 (fun _ _ e => e) (fun b hb e => ?_)).setCell (p := ⟨lb, i, none⟩) (fun _ => HSB.out lb rfl) _
            obtain ⟨g, hg, -⟩ := HLQ.out.blk hlt (by rw [hlen]; exact hn0)
            have e : (Value.slice (sa' i) (XB P i i).length (sc' i)).ownBlock = some b := e
            have hg2 := hg
            rw [HSM.out i (Nat.le_refl _)] at hg2
            rw [hg] at e
            injection e with e
            have e : g = b := e
            rw [← e]
            exact HSE.out i hlt g hg2
          clear hO3 k3 ho3 hown hil
          rw [hlen] at hcl hr3 HAPP HK3
          obtain ⟨ni, hni⟩ : ∃ ni, ni = (P.getD i []).length := ⟨_, rfl⟩
          rw [← hni] at hcl hr3 HAPP HK3 hn0 hn1
          clear hni hlen
          obtain ⟨sai, hsai⟩ : ∃ sai, sai = sa' i := ⟨_, rfl⟩
          obtain ⟨sci, hsci⟩ : ∃ sci, sci = sc' i := ⟨_, rfl⟩
          rw [← hsai, ← hsci] at hcl hr3
          clear hsai hsci
          go_wp2_with (first | (at_builtin; refine wpList_append_tL rfl _ _ _ rfl _ _ _ W3 rfl rfl hr3 ?_; clear hr3) | (refine wpList_store_so rfl rfl _ _ rfl lb i rfl a3 (ni + 1) c3 rfl hcs hcz ?_; intro w6 hw6; clear hcs hcz))
          go_roundg (gk - 1)
          case measure => omega
          case rel =>
            subst hw6
            exact ⟨i + 1, _, _, by omega, by go_num, HAPP.out, fun j hj => by rw [if_neg (by omega)]; exact HSM.out j (by omega), HK3.out⟩
        · have j1 : decide ((i : Int) < (Q : Int)) = false := decide_eq_false (by omega)
          have j2 : decide (i < Q) = false := decide_eq_false hlt
          have HLB : Hid (LQ w2.heap.size wr Q (.slice la Q lc) sa' sc' (XB P Q)) := by
            have e : i = Q := by omega
            have h := HLQ.out
            rw [e] at h
            exact h
          have HWB : Hid (LQ w1.heap.size wr Q (.slice wa Q wc) wsa wsc (XN P)) := HWS.out wr HKB.out
          have HGB : Hid (LQ w4.heap.size wr Q (.slice ga Q gc) gsa gsc (XN P)) := HGS.out wr HKB.out
          have HFB : Hid (Keeps (fun _ => False) w wr) := HFS.out wr HKB.out
          clear HLQ HSM hgh hlt HWS HGS HFS HKB HSB HSE
          go_wp2_with fail
          clear j1 j2
          obtain ⟨wB, hwB⟩ : ∃ wB, wB = wr := ⟨_, rfl⟩
          subst hwB
          go_loopg [15] Q (fun gh iv Wr => ∃ (i : Nat), gh + i = Q ∧ iv = .int .i64 (i : Int) ∧ Keeps (fun _ => False) wB Wr)
          case atStart => exact ⟨0, rfl, rfl, Keeps.refl _ _⟩
          case round =>
            obtain ⟨i, hgh, rfl, kr⟩ := hrel
            by_cases hlt : i < Q
            · have j1 : decide ((i : Int) < (Q : Int)) = true := decide_eq_true (by omega)
              have j2 : decide (i < Q) = true := decide_eq_true hlt
              have j3 : (i : Int) < (Q : Int) := by omega
              have j4 : (0 : Int) ≤ (i : Int) := by omega
              have hwi : IntKind.i64.wrap ((i : Int) + 1) = (i : Int) + 1 := by rw [IntKind.wrap_i64]; omega
              have hws : IntKind.i64.wrap (-77 - (i : Int)) = -77 - (i : Int) := by rw [IntKind.wrap_i64]; omega
              obtain ⟨hn0, hn1⟩ := HDIM.out i hlt
              have hLr := HLB.out.keep kr
              have hWr := HWB.out.keep kr
              have hGr := HGB.out.keep kr
              obtain ⟨lb, lc', e, hcl, -⟩ := hLr.at hlt
              injection e with e _ ec
              subst e ec
              have hlen : (XB P Q i).length = (P.getD i []).length + 1 := by rw [XB_end P hlt, List.length_append, WF_len]; rfl
              obtain ⟨g, hg, -, -, hgc⟩ := hLr.blk hlt (by rw [hlen]; omega)
              have hc0 := hgc 0 (by rw [hlen]; omega)
              have hct := hgc (P.getD i []).length (by rw [hlen]; omega)
              rw [XB_h P hlt hn0] at hc0
              rw [XB_t P hlt] at hct
              rw [hg, hlen] at hcl
              obtain ⟨wb, wc', e, hcw, -⟩ := hWr.at hlt
              injection e with e _ ec
              subst e ec
              obtain ⟨gb, gc', e, hcg, -⟩ := hGr.at hlt
              injection e with e _ ec
              subst e ec
              rw [XN_len] at hcw hcg
              have hsi : ∀ u : KS wr, Calls Try.prog 15 #[.slice (gsa i) (P.getD i []).length (gsc i), .slice (wsa i) (P.getD i []).length (wsc i)] u.1 fun e w' => e = .returned (.bool true) ∧ Keeps (fun _ => False) u.1 w' := fun u => sameInts_ok (gsc i) (wsc i) ((hGr.keep u.property).pm hlt (L := P.getD i []) rfl) ((hWr.keep u.property).pm hlt (L := P.getD i []) rfl) (by omega)
              clear hLr hWr hGr hgc hlen hg
              obtain ⟨ni, hni⟩ : ∃ ni, ni = (P.getD i []).length := ⟨_, rfl⟩
              obtain ⟨lci, hlci⟩ : ∃ lci, lci = sc' i := ⟨_, rfl⟩
              obtain ⟨wai, hwai⟩ : ∃ wai, wai = wsa i := ⟨_, rfl⟩
              obtain ⟨wci, hwci⟩ : ∃ wci, wci = wsc i := ⟨_, rfl⟩
              obtain ⟨gai, hgai⟩ : ∃ gai, gai = gsa i := ⟨_, rfl⟩
              obtain ⟨gci, hgci⟩ : ∃ gci, gci = gsc i := ⟨_, rfl⟩
              rw [← hni, ← hwai, ← hwci, ← hgai, ← hgci] at hsi
              rw [← hni, ← hwai, ← hwci] at hcw
              rw [← hni, ← hgai, ← hgci] at hcg
              rw [← hni, ← hlci] at hcl
              rw [← hni] at hct hn0 hn1
              clear hni hlci hwai hwci hgai hgci
              have r1 : ∀ u : KS wr, u.1.cell? ⟨lb, i, none⟩ = some (.slice (some ⟨g, 0, none⟩) (ni + 1) lci) := ks_cell hcl
              have r2 : ∀ u : KS wr, u.1.cell? ⟨wb, i, none⟩ = some (.slice wai ni wci) := ks_cell hcw
              have r3 : ∀ u : KS wr, u.1.cell? ⟨gb, i, none⟩ = some (.slice gai ni gci) := ks_cell hcg
              have r4 : ∀ u : KS wr, u.1.cell? ⟨g, 0, none⟩ = some (.int .i64 (-77 - (i : Int))) := ks_cell hc0
              have r5 : ∀ u : KS wr, u.1.cell? ⟨g, ni, none⟩ = some (.int .i64 78) := ks_cell hct
              have hNE : Nonempty (KS wr) := ⟨⟨wr, Keeps.refl _ wr⟩⟩
              have hwn : IntKind.i64.wrap ((ni : Int) + 1) = (ni : Int) + 1 := by rw [IntKind.wrap_i64]; omega
              have t1 : ((-77 - (i : Int)) != (-77 - (i : Int))) = false := by simp
              have t2 : ((ni : Int) + 1 != (ni : Int) + 1) = false := by simp
              have t3 : (0 : Int) < ((ni + 1 : Nat) : Int) := by omega
              have t4 : (ni : Int) < ((ni + 1 : Nat) : Int) := by omega
              have t5 : (0 : Int) ≤ (ni : Int) := by omega
              have t6 : ((ni + 1 : Nat) : Int) = (ni : Int) + 1 := by omega
              clear hcl hcw hcg hc0 hct
              go_wp2_with fail
              refine wp_region_ks (by kernel_rfl) (by kernel_rfl) ?_
              (repeat (first | go_big_quiet_skip | go_big_quiet_step ((go_at_call 15; with_reducible refine (hsi _).mono ?_; rintro e w9 ⟨rfl, k9⟩; exact ⟨rfl, ⟨_, (KS.property _).trans k9⟩, rfl⟩))))
              refine wpQuiet_nil ?_
              rintro _ ⟨u, rfl⟩
              have ku := kr.trans u.property
              clear r1 r2 r3 r4 r5 hNE hsi
              generalize u.val = wu at *
              go_wp2_with fail
              go_roundg (gk - 1)
              case measure => omega
              case rel => exact ⟨i + 1, by omega, by go_num, ku⟩
            · have j1 : decide ((i : Int) < (Q : Int)) = false := decide_eq_false (by omega)
              have j2 : decide (i < Q) = false := decide_eq_false hlt
              have hp2 := HP2.out wr
              have HKF : Hid (Keeps (fun _ => False) w wr) := HFB.out.trans kr
              clear HP2 HLB HWB HGB HFB hgh hlt
              go_wp2_with (go_at_call 22; refine hp2.mono ?_; clear hp2; rintro e w7 ⟨pa, pc, rfl, k7⟩)
              go_ret
              exact ⟨rfl, (HKF.out.trans k7).below (Nat.le_refl _) (fun _ _ e => e)⟩
end Go.Proofs.Ytfbbllokpikbiaa
