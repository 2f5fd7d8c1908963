import Derived.Test.YtdpnknleobobkaaGreatDoorXbC
namespace Go.Proofs.YtdpnknleobobkaaGreatDoor
open Go.RowKit Go.ChangeShapes Go.WideShapes Go.ChangeAt Go.Deep
attribute [local go_sem] Oper.semAt_some run_store_nf run_store_f
/-- The contract of the survey's statements. -/
def CSS (N : Nat) : Prop := ∀ (ps : List St), bgSL ps ≤ N → ∀ (W : World) (B v me ms : Nat) (wr : Bool) (ns : List Bs) (p : Option Addr) (c : Nat) (q : Option Addr) (cq : Nat) (xs : List Value), SV W B v me ms wr ns p c → OwnP W (fun g => g < B) 56 12 (.slice q ps.length cq) ps.length xs → SL W (fun g => g < B) 54 56 ps xs →
  Calls Tryz.prog 23 #[pR v, .slice q ps.length cq] W fun e w' => e = .returned (vlV (szSL ps).1 (szSL ps).2) ∧ SVT W B v me ms ns p c w' (wr || wrSL ps) (nmSL ps ns)
set_option maxHeartbeats 1000000 in
set_option maxRecDepth 100000 in
theorem css_of {N : Nat} (IH : CXS N) (hN : N ≤ 1099511627776) : CSS N := by
  intro ps hb w B v me ms wr ns p c q cq xs V ho hl
  have ka := (Keeps.refl (fun _ => False) w).alloc (.cells zZ.toArray 68)
  have m0 := CL.made w zZ 68
  have Va := V.keep0 ka
  have hlw := V.low
  have sta : Stay (fun g => g < B) w (w.alloc (.cells zZ.toArray 68)) := ka.stay (fun _ _ _ e => e)
  have hSum := sumS IH Va (ho.stay sta) (hl.stay sta) hb (by omega)
  obtain ⟨wa, hwa⟩ : ∃ wa, wa = w.alloc (.cells zZ.toArray 68) := ⟨_, rfl⟩
  have y3 := Va.cl.c 3 _ rfl
  have low3 : ∀ i, svS v me ms (Value.slice p ns.length c).ownBlock i → i ≠ w.heap.size := fun i hi e => by have := (hlw i hi).2; omega
  clear hwa sta ho hl
  generalize hs1 : (szSL ps).1 = s1 at *
  generalize hs2 : (szSL ps).2 = s2 at *
  clear hs1 hs2
  go_enter Tryz.func23, Tryz.ntmps23
  go_wp2_with (first | (go_at_call 35; refine hSum.mono ?_; rintro e w4 ⟨rfl, T4⟩; have M4 := T4.cl (by show 0 < 2; decide) m0 low3; clear hSum) | (refine wpList_store_cl rfl 68 _ _ rfl w.heap.size 0 2 _ rfl rfl rfl M4 (by show 2 ≤ 2; decide) iSz one2 ?_; intro w9 hc9 k9 zz9; clear zz9))
  have hc6 : CL w9 w.heap.size [.int .i64 (s1 : Int), .int .i64 (s2 : Int)] := hc9
  have hrn := run_sz hc6
  refine bodyPost_ret (v := vlV s1 s2) (by rw [results_cell1 rfl]; simp [asAddr, hrn]) rfl ?_
  exact ⟨rfl, SVT.fin V T4 k9⟩
/-- A statement's survey on its way: the box x holds the sum. -/
structure SuT (w : World) (B v me ms : Nat) (own : Option Nat) (x : Nat) (Wr : World) (acc : Nat × Nat) (wr : Bool) (ns : List Bs) (p : Option Addr) (c : Nat) : Prop where
  a : CL Wr x [.int .i64 (acc.1 : Int), .int .i64 (acc.2 : Int)]
  r : CL Wr w.heap.size zZ
  V : SV Wr B v me ms wr ns p c
  kp : Keeps (svS v me ms own) w Wr
  no : ∀ i, (Value.slice p ns.length c).ownBlock = some i → own = some i ∨ x < i
  lo : ∀ i, svS v me ms own i → B ≤ i ∧ i < w.heap.size
  x : w.heap.size < x
section
variable {w : World} {B v me ms : Nat} {own : Option Nat} {x : Nat} {Wr W' : World} {acc acc' : Nat × Nat} {wr wr' : Bool} {ns ns' : List Bs} {p : Option Addr} {c : Nat}
theorem SuT.step (h : SuT w B v me ms own x Wr acc wr ns p c) (q : SVT Wr B v me ms ns p c W' wr' ns') : ∃ p' c', SuT w B v me ms own x W' acc wr' ns' p' c' := by
  obtain ⟨p', c', V', no', k'⟩ := q
  have hz := h.a.lt (by show 0 < 2; decide)
  have hx := h.x
  have nb : ∀ i, w.heap.size ≤ i → i ≤ x → ¬ svS v me ms (Value.slice p ns.length c).ownBlock i := by
    intro i h1 h2 e
    rcases e with e | e | e | e
    · have := (h.lo v (.inl rfl)).2; omega
    · have := (h.lo me (.inr (.inl rfl))).2; omega
    · have := (h.lo ms (.inr (.inr (.inl rfl)))).2; omega
    · rcases h.no i e with e | e
      · have := (h.lo i (.inr (.inr (.inr e)))).2; omega
      · omega
  refine ⟨p', c', h.a.keep (by show 0 < 2; decide) k' (nb _ (by omega) (by omega)), h.r.keep (by show 0 < 2; decide) k' (nb _ (by omega) (by omega)), V', h.kp.trans' k' (fun _ _ e => e) (fun i hi e => ?_), fun i e => ?_, h.lo, h.x⟩
  · rcases e with e | e | e | e
    · exact .inl e
    · exact .inr (.inl e)
    · exact .inr (.inr (.inl e))
    · rcases h.no i e with e | e
      · exact .inr (.inr (.inr e))
      · omega
  · rcases no' i e with e | e
    · exact h.no i e
    · exact .inr (by omega)
theorem SuT.keep0 (h : SuT w B v me ms own x Wr acc wr ns p c) (k : Keeps (fun _ => False) Wr W') : SuT w B v me ms own x W' acc wr ns p c :=
  ⟨h.a.keep (by show 0 < 2; decide) k (fun e => e), h.r.keep (by show 0 < 2; decide) k (fun e => e), h.V.keep0 k, h.kp.trans (k.mono (fun _ _ e => e.elim)), h.no, h.lo, h.x⟩
/-- A box of the call's own is written. -/
theorem SuT.box (h : SuT w B v me ms own x Wr acc wr ns p c) (k : Keeps (fun i => i = x) Wr W') (ca : CL W' x [.int .i64 (acc'.1 : Int), .int .i64 (acc'.2 : Int)]) : SuT w B v me ms own x W' acc' wr ns p c := by
  have hx := h.x
  refine ⟨ca, h.r.keep (by show 0 < 2; decide) k (fun e => by omega), h.V.keep k (fun i hi e => ?_) (fun i hi e => ?_), h.kp.trans' k (fun _ _ e => e) (fun i hi e => by omega), h.no, h.lo, h.x⟩
  · rcases hi with q | q | q | q
    · have := (h.lo v (.inl rfl)).2; omega
    · have := (h.lo me (.inr (.inl rfl))).2; omega
    · have := (h.lo ms (.inr (.inr (.inl rfl)))).2; omega
    · rcases h.no i q with q | q
      · have := (h.lo i (.inr (.inr (.inr q)))).2; omega
      · omega
  · have := h.lo v (.inl rfl); omega
theorem SuT.cell (h : SuT w B v me ms own x Wr acc wr ns p c) {b o : Nat} {u : Value} (e : w.cell? ⟨b, o, none⟩ = some u) (hb : b < B) : Wr.cell? ⟨b, o, none⟩ = some u := h.kp.cell e (fun q => by have := h.lo b q; omega)
theorem SuT.stay (h : SuT w B v me ms own x Wr acc wr ns p c) : Stay (fun g => g < B) w Wr := h.kp.stay (fun i hi _ e => by have := h.lo i e; omega)
end
theorem SuT.fin {w : World} {B v me ms : Nat} {x : Nat} {Wr W' : World} {acc : Nat × Nat} {wr : Bool} {ns ns0 : List Bs} {p p0 : Option Addr} {c c0 : Nat} (h : SuT w B v me ms (Value.slice p0 ns0.length c0).ownBlock x Wr acc wr ns p c) (k : Keeps (fun i => i = w.heap.size) Wr W') : SVT w B v me ms ns0 p0 c0 W' wr ns := by
  have hx := h.x
  refine ⟨p, c, h.V.keep k (fun i hi e => ?_) (fun i hi e => ?_), fun i e => (h.no i e).imp (fun q => q) (fun q => by omega), h.kp.trans' k (fun _ _ e => e) (fun i hi e => by omega)⟩
  · rcases hi with q | q | q | q
    · have := (h.lo v (.inl rfl)).2; omega
    · have := (h.lo me (.inr (.inl rfl))).2; omega
    · have := (h.lo ms (.inr (.inr (.inl rfl)))).2; omega
    · rcases h.no i q with q | q
      · have := (h.lo i (.inr (.inr (.inr q)))).2; omega
      · omega
  · have := h.lo v (.inl rfl); omega
/-- What the last region of a statement reads. -/
structure Y3 (W : World) (x : Nat) (acc : Nat × Nat) (b o : Nat) (qt : Option Addr) (mt ct : Nat) (qe : Option Addr) (me ce : Nat) : Prop where
  a : CL W x [.int .i64 (acc.1 : Int), .int .i64 (acc.2 : Int)]
  t : W.cell? ⟨b, o + 10, none⟩ = some (.slice qt mt ct)
  e : W.cell? ⟨b, o + 11, none⟩ = some (.slice qe me ce)
theorem isZr_zrC {k n : Int} {w : Bs} {ps : List Tr} : isZr (.mk k n w ps) = zrC k n w ps.length := by
  unfold isZr zrC
  cases ps <;> simp
/-- A statement in memory, in its parts. -/
structure SP (w : World) (B b o : Nat) (k : Int) (wd : Bs) (ta tb : Tr) (th el : List St) (ka na : Int) (wa : Bs) (pa : Option Addr) (ma ca : Nat) (kb nb : Int) (wb : Bs) (pb : Option Addr) (mb cb : Nat) (qt : Option Addr) (ct : Nat) (qe : Option Addr) (ce : Nat) (xs ys : List Value) : Prop where
  s : S12 w b o k wd ka na wa pa ma ca kb nb wb pb mb cb qt th.length ct qe el.length ce
  hw : wd.length ≤ 32768
  fa : PtE w B b (o + 2) ta
  fb : PtE w B b (o + 6) tb
  za : isZr ta = zrC ka na wa ma
  zb : isZr tb = zrC kb nb wb mb
  ot : OwnP w (fun g => g < B) 56 12 (.slice qt th.length ct) th.length xs
  lt : SL w (fun g => g < B) 54 56 th xs
  oe : OwnP w (fun g => g < B) 56 12 (.slice qe el.length ce) el.length ys
  le : SL w (fun g => g < B) 54 56 el ys
  lB : b < B
theorem PtS.parts {w : World} {B b o : Nat} {k : Int} {wd : Bs} {ta tb : Tr} {th el : List St} (h : PtS w B b o (.mk k wd ta tb th el)) : ∃ ka na wa pa ma ca kb nb wb pb mb cb qt ct qe ce xs ys, SP w B b o k wd ta tb th el ka na wa pa ma ca kb nb wb pb mb cb qt ct qe ce xs ys := by
  obtain ⟨hb, l, hT, hC⟩ := h
  unfold SC at hT
  obtain ⟨_, hwd, la, lb, tv, ev, xs, ys, rfl, hA, hB, h5, h6, h7, h8⟩ := hT
  obtain ⟨qt, ct, rfl, -⟩ := own_slice h5.1
  obtain ⟨qe, ce, rfl, -⟩ := own_slice h7.1
  obtain ⟨ka, na, wa, psa⟩ := ta
  obtain ⟨kb, nb, wb, psb⟩ := tb
  have hA0 := hA
  have hB0 := hB
  unfold TC at hA hB
  obtain ⟨_, _, _, va, xa, rfl, oa, _⟩ := hA
  obtain ⟨_, _, _, vb, xb, rfl, ob, _⟩ := hB
  obtain ⟨pa, ca, rfl, -⟩ := own_slice oa.1
  obtain ⟨pb, cb, rfl, -⟩ := own_slice ob.1
  have hC := fun (j : Nat) (x : Value) (e : (.int .i64 k :: .string (bs wd) :: ([.int .i64 ka, .int .i64 na, .string (bs wa), .slice pa psa.length ca] ++ ([.int .i64 kb, .int .i64 nb, .string (bs wb), .slice pb psb.length cb] ++ [.slice qt th.length ct, .slice qe el.length ce])) : List Value)[j]? = some x) => hC j x e
  refine ⟨ka, na, wa, pa, psa.length, ca, kb, nb, wb, pb, psb.length, cb, qt, ct, qe, ce, xs, ys, ⟨⟨hC 0 _ rfl, hC 1 _ rfl, ⟨hC 2 _ rfl, hC 3 _ rfl, hC 4 _ rfl, hC 5 _ rfl⟩, ⟨hC 6 _ rfl, hC 7 _ rfl, hC 8 _ rfl, hC 9 _ rfl⟩, hC 10 _ rfl, hC 11 _ rfl⟩, hwd, ⟨hb, _, hA0, fun j x e => ?_⟩, ⟨hb, _, hB0, fun j x e => ?_⟩, isZr_zrC, isZr_zrC, h5, h6, h7, h8, hb⟩⟩
  · match j, e with
    | 0, e => exact hC 2 x e
    | 1, e => exact hC 3 x e
    | 2, e => exact hC 4 x e
    | 3, e => exact hC 5 x e
    | j + 4, e => simp at e
  · match j, e with
    | 0, e => exact hC 6 x e
    | 1, e => exact hC 7 x e
    | 2, e => exact hC 8 x e
    | 3, e => exact hC 9 x e
    | j + 4, e => simp at e
end Go.Proofs.YtdpnknleobobkaaGreatDoor
