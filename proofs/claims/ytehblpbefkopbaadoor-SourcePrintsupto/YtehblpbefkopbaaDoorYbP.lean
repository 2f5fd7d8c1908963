import Derived.Test.YtehblpbefkopbaaDoorXgA
import Derived.Test.YtehblpbefkopbaaDoorXaS
import Derived.Test.YtehblpbefkopbaaDoorRows
import Derived.Deep.Slices
import Derived.ChangeArms
import Derived.ChangeSlices
import Derived.DataReads
import Derived.OpenShut
import Derived.Test.YtehblpbefkopbaaDoorXdB
import Derived.JoinedCond
import Derived.Test.YtehblpbefkopbaaDoorXqC
import Derived.Lib.LaidTab
namespace Go.Proofs.YtehblpbefkopbaaDoor
open Go.RowKit Go.Deep Go.ChangeShapes Go.WideShapes Go.ChangeAt
attribute [local go_sem] Oper.semAt_some run_store_nf run_store_f
section
variable {H : Type} {enc : TypeId × Value → H} {W : World}
theorem bulk_one (d : DataW H) : 1 ≤ Rows.uptoBulk d := by
  cases d with
  | lit l => cases l <;> simp [Rows.uptoBulk]
  | nil => simp [Rows.uptoBulk]
  | ptr d => simp [Rows.uptoBulk]
  | slice elems spare => simp [Rows.uptoBulk]
  | agg parts => simp [Rows.uptoBulk]
  | iface t d => simp [Rows.uptoBulk]
  | map entries => simp [Rows.uptoBulk]
  | held h => simp [Rows.uptoBulk]
theorem bulkAll_app (l m : List (DataW H)) : Rows.uptoBulkAll (l ++ m) = Rows.uptoBulkAll l + Rows.uptoBulkAll m := by
  induction l with
  | nil => simp [Rows.uptoBulkAll]
  | cons x r ih => simp only [List.cons_append, Rows.uptoBulkAll, ih]; omega
theorem bulk_rangeS (D : Nat → DataW H) (m : Nat) : Rows.uptoBulkAll ((List.range (m + 1)).map D) = Rows.uptoBulkAll ((List.range m).map D) + Rows.uptoBulk (D m) := by
  rw [List.range_succ, List.map_append, bulkAll_app]
  simp [Rows.uptoBulkAll]
theorem bulk_rangeP (D : Nat → DataW H) {i : Nat} : ∀ {m : Nat}, i < m → Rows.uptoBulk (D i) ≤ Rows.uptoBulkAll ((List.range m).map D)
  | 0, h => absurd h (Nat.not_lt_zero i)
  | m + 1, h => by
    rw [bulk_rangeS]
    by_cases e : i = m
    · subst e; omega
    · have := bulk_rangeP D (i := i) (m := m) (by omega); omega
/-- A slice that was handed in, element by element. -/
theorem open_each {P : Program} {t e : TypeId} {fuel sz : Nat} {cs : List Value} {x : DataW H × List MemPlace} (ht : P.underlying t = some (.slice e)) (ce : P.cellsOf e = sz) (hsz : 0 < sz) (h : DataW.trod enc P W 0 (fun _ => true) true fuel t cs = some x) :
    ∃ a len cap, cs = [.slice a len cap] ∧ (len = 0 ∨ ∃ b off D ss, a = some ⟨b, off, none⟩ ∧ x.1 = .slice ((List.range len).map D) ss ∧ ∀ i, i < len → ∃ cs n pl, DataW.trod enc P W 0 (fun _ => true) true n e cs = some (D i, pl) ∧ cs.length = sz ∧ ∀ j v, cs[j]? = some v → W.cell? ⟨b, off + i * sz + j, none⟩ = some v) := by
  rcases open_slice ht h with ⟨hcs, _⟩ | ⟨a', len, cap', m, n, D, Pl, hcs, hb, hl, hm, hmm, rfl, hx⟩
  · exact ⟨none, 0, 0, hcs, .inl rfl⟩
  refine ⟨_, _, _, hcs, ?_⟩
  by_cases h0 : len = 0
  · exact .inl h0
  right
  have hlm : len ≤ m := by rw [hmm]; split <;> omega
  obtain ⟨cs0, g1, g2⟩ := hx 0 (by omega)
  rw [ce] at g1
  obtain ⟨_, hlen, hcell⟩ := World.cells?_some g1
  obtain ⟨b, off, spot⟩ := a'
  have hspot : spot = none := by
    have e0 := hcell 0 hsz
    rw [List.getElem?_eq_getElem (by omega)] at e0
    simpa [Addr.add] using World.cell?_spot e0
  subst hspot
  refine ⟨b, off, D, _, rfl, rfl, fun i hi => ?_⟩
  obtain ⟨cs, h1, h2⟩ := hx i (by omega)
  rw [ce] at h1
  obtain ⟨_, hlen, hcell⟩ := World.cells?_some h1
  refine ⟨cs, n, _, h2, hlen, fun j v hv => ?_⟩
  have hj : j < sz := by rw [← hlen]; exact (List.getElem?_eq_some_iff.1 hv).1
  have := hcell j hj
  rw [add_atT, add_atT] at this
  rw [this]
  exact hv
theorem bgL_snoc (t : Tr) : ∀ l : List Tr, bgL (l ++ [t]) = bgL l + bgE t
  | [] => by rw [List.nil_append]; unfold bgL; unfold bgL; omega
  | a :: r => by rw [List.cons_append]; unfold bgL; rw [bgL_snoc t r]; omega
theorem bgSL_snoc (t : St) : ∀ l : List St, bgSL (l ++ [t]) = bgSL l + bgS t
  | [] => by rw [List.nil_append]; unfold bgSL; unfold bgSL; omega
  | a :: r => by rw [List.cons_append]; unfold bgSL; rw [bgSL_snoc t r]; omega
theorem il_gatherB {w : World} {b o : Nat} (D : Nat → DataW H) : ∀ (m : Nat), (∀ i, i < m → ∃ t cs, IE w t cs ∧ bgE t ≤ Rows.uptoBulk (D i) ∧ ∀ j v, cs[j]? = some v → w.cell? ⟨b, o + i * 4 + j, none⟩ = some v) → ∃ ts xs, ts.length = m ∧ xs.length = m * 4 ∧ IL w ts xs ∧ bgL ts ≤ Rows.uptoBulkAll ((List.range m).map D) ∧ Rd w (some ⟨b, o, none⟩) xs
  | 0, _ => ⟨[], [], rfl, rfl, by unfold IL; rfl, by unfold bgL; omega, fun j u e => by cases e⟩
  | m + 1, h => by
    obtain ⟨ts, xs, h1, h2, h3, h4, h5⟩ := il_gatherB D m (fun i hi => h i (by omega))
    obtain ⟨t, cs, k1, k2, k3⟩ := h m (by omega)
    exact ⟨ts ++ [t], xs ++ cs, by simp [h1], by rw [List.length_append, h2, k1.len]; omega, h3.snoc k1, by rw [bgL_snoc, bulk_rangeS]; omega, h5.app (by rw [h2]; exact k3)⟩
theorem isl_gatherB {w : World} {b o : Nat} (D : Nat → DataW H) : ∀ (m : Nat), (∀ i, i < m → ∃ t cs, IS w t cs ∧ bgS t ≤ Rows.uptoBulk (D i) ∧ ∀ j v, cs[j]? = some v → w.cell? ⟨b, o + i * 12 + j, none⟩ = some v) → ∃ ts xs, ts.length = m ∧ xs.length = m * 12 ∧ ISL w ts xs ∧ bgSL ts ≤ Rows.uptoBulkAll ((List.range m).map D) ∧ Rd w (some ⟨b, o, none⟩) xs
  | 0, _ => ⟨[], [], rfl, rfl, by unfold ISL; rfl, by unfold bgSL; omega, fun j u e => by cases e⟩
  | m + 1, h => by
    obtain ⟨ts, xs, h1, h2, h3, h4, h5⟩ := isl_gatherB D m (fun i hi => h i (by omega))
    obtain ⟨t, cs, k1, k2, k3⟩ := h m (by omega)
    exact ⟨ts ++ [t], xs ++ cs, by simp [h1], by rw [List.length_append, h2, k1.len]; omega, h3.snoc k1, by rw [bgSL_snoc, bulk_rangeS]; omega, h5.app (by rw [h2]; exact k3)⟩
theorem cI : Tryd.prog.cellsOf 3 = 1 := by kernel_rfl
theorem cL : Tryd.prog.cellsOf 2 = 1 := by kernel_rfl
theorem cW : Tryd.prog.cellsOf 9 = 1 := by kernel_rfl
theorem cRE : Tryd.prog.cellsOf 40 = 4 := by kernel_rfl
theorem cRS : Tryd.prog.cellsOf 42 = 12 := by kernel_rfl
theorem cRl : Tryd.prog.cellsOf 38 = 1 := by kernel_rfl
theorem cRm : Tryd.prog.cellsOf 22 = 1 := by kernel_rfl
/-- A list of expressions, of such a bulk. -/
theorem open_listE {F fuel : Nat} {v : Value} {x : DataW H × List MemPlace} (IH : ∀ (fuel : Nat) (cs : List Value) (y : DataW H × List MemPlace), Rows.uptoBulk y.1 ≤ F → DataW.trod enc Tryd.prog W 0 (fun _ => true) true fuel 40 cs = some y → ∃ t, IE W t cs ∧ bgE t ≤ Rows.uptoBulk y.1) (hF : Rows.uptoBulk x.1 ≤ F) (h : DataW.trod enc Tryd.prog W 0 (fun _ => true) true fuel 38 [v] = some x) :
    ∃ ts p c xs, v = .slice p ts.length c ∧ IL W ts xs ∧ bgL ts + 1 ≤ Rows.uptoBulk x.1 ∧ Rd W p xs := by
  obtain ⟨a, len, cap, e, hs⟩ := open_each Tryd.underlying38 cRE (by decide) h
  injection e with e _
  subst e
  rcases hs with rfl | ⟨b, o, D, ss, rfl, hx, hi⟩
  · exact ⟨[], a, cap, [], rfl, by unfold IL; rfl, by unfold bgL; exact bulk_one _, fun j u e => by cases e⟩
  · rw [hx] at hF ⊢
    simp only [Rows.uptoBulk] at hF ⊢
    obtain ⟨ts, xs, g1, -, g3, g4, g5⟩ := il_gatherB (w := W) (b := b) (o := o) D len (fun i hl => by
      obtain ⟨cs, n, pl, q1, q2, q3⟩ := hi i hl
      obtain ⟨t, r1, r2⟩ := IH n cs _ (by have := bulk_rangeP D hl; show Rows.uptoBulk (D i) ≤ F; omega) q1
      exact ⟨t, cs, r1, r2, q3⟩)
    exact ⟨ts, _, cap, xs, by rw [g1], g3, by omega, g5⟩
theorem open_listS {F fuel : Nat} {v : Value} {x : DataW H × List MemPlace} (IH : ∀ (fuel : Nat) (cs : List Value) (y : DataW H × List MemPlace), Rows.uptoBulk y.1 ≤ F → DataW.trod enc Tryd.prog W 0 (fun _ => true) true fuel 42 cs = some y → ∃ t, IS W t cs ∧ bgS t ≤ Rows.uptoBulk y.1) (hF : Rows.uptoBulk x.1 ≤ F) (h : DataW.trod enc Tryd.prog W 0 (fun _ => true) true fuel 22 [v] = some x) :
    ∃ ts p c xs, v = .slice p ts.length c ∧ ISL W ts xs ∧ bgSL ts + 1 ≤ Rows.uptoBulk x.1 ∧ Rd W p xs := by
  obtain ⟨a, len, cap, e, hs⟩ := open_each Tryd.underlying22 cRS (by decide) h
  injection e with e _
  subst e
  rcases hs with rfl | ⟨b, o, D, ss, rfl, hx, hi⟩
  · exact ⟨[], a, cap, [], rfl, by unfold ISL; rfl, by unfold bgSL; exact bulk_one _, fun j u e => by cases e⟩
  · rw [hx] at hF ⊢
    simp only [Rows.uptoBulk] at hF ⊢
    obtain ⟨ts, xs, g1, -, g3, g4, g5⟩ := isl_gatherB (w := W) (b := b) (o := o) D len (fun i hl => by
      obtain ⟨cs, n, pl, q1, q2, q3⟩ := hi i hl
      obtain ⟨t, r1, r2⟩ := IH n cs _ (by have := bulk_rangeP D hl; show Rows.uptoBulk (D i) ≤ F; omega) q1
      exact ⟨t, cs, r1, r2, q3⟩)
    exact ⟨ts, _, cap, xs, by rw [g1], g3, by omega, g5⟩
set_option maxRecDepth 100000 in
/-- An expression that was handed in. -/
theorem open_ex : ∀ (F fuel : Nat) (cs : List Value) (x : DataW H × List MemPlace), F ≤ 1048576 → Rows.uptoBulk x.1 ≤ F → DataW.trod enc Tryd.prog W 0 (fun _ => true) true fuel 40 cs = some x → ∃ t, IE W t cs ∧ bgE t ≤ Rows.uptoBulk x.1
  | 0, fuel, cs, x, hM, hF, h => by
    obtain ⟨xs, k, rfl, rfl, hlen, hxl, hf⟩ := DataW.trod_struct Tryd.underlying40 h
    simp only [Rows.uptoBulk] at hF
    omega
  | F + 1, fuel, cs, x, hM, hF, h => by
    obtain ⟨xs, k, rfl, rfl, hlen, hxl, hf⟩ := DataW.trod_struct Tryd.underlying40 h
    rw [cRE] at hlen
    match xs, hxl, cs, hlen with
    | [z0, z1, z2, z3], _, [v0, v1, v2, v3], _ =>
      have h0 : DataW.trod enc Tryd.prog W 0 (fun _ => true) true k 3 (([v0, v1, v2, v3].drop 0).take (Tryd.prog.cellsOf 3)) = some z0 := hf 0 _ rfl
      have h1 : DataW.trod enc Tryd.prog W 0 (fun _ => true) true k 2 (([v0, v1, v2, v3].drop 1).take (Tryd.prog.cellsOf 2)) = some z1 := hf 1 _ rfl
      have h2 : DataW.trod enc Tryd.prog W 0 (fun _ => true) true k 9 (([v0, v1, v2, v3].drop 2).take (Tryd.prog.cellsOf 9)) = some z2 := hf 2 _ rfl
      have h3 : DataW.trod enc Tryd.prog W 0 (fun _ => true) true k 38 (([v0, v1, v2, v3].drop 3).take (Tryd.prog.cellsOf 38)) = some z3 := hf 3 _ rfl
      rw [cI] at h0
      rw [cL] at h1
      rw [cW] at h2
      rw [cRl] at h3
      obtain ⟨n0, e0, x0, w0⟩ := DataW.trod_int Tryd.underlying3 h0
      obtain ⟨n1, e1, x1, w1⟩ := DataW.trod_int Tryd.underlying2 h1
      obtain ⟨s, e2, rfl, -⟩ := DataW.trod_string Tryd.underlying9 h2
      simp only [List.map_cons, List.map_nil, Rows.uptoBulk, Rows.uptoBulkAll] at hF ⊢
      obtain ⟨ts, p, c, xs, e3, g3, g4, g5⟩ := open_listE (F := F) (fun fuel cs y hy hh => open_ex F fuel cs y (by omega) hy hh) (by omega) h3
      simp at e0 e1 e2
      subst e0 e1 e2 e3
      have l2 : s.data.toList.length ≤ 1048576 := by omega
      have b0 := bulk_one z0.1
      have b1 := bulk_one z1.1
      refine ⟨.mk n0 n1 s.data.toList ts, ?_, ?_⟩
      · unfold IE
        exact ⟨i64_of_wf w0, i64_of_wf w1, Nat.le_trans l2 (by decide), p, c, xs, rfl, g5, g3⟩
      · unfold bgE
        omega
set_option maxRecDepth 100000 in
/-- A statement. -/
theorem open_st : ∀ (F fuel : Nat) (cs : List Value) (x : DataW H × List MemPlace), F ≤ 1048576 → Rows.uptoBulk x.1 ≤ F → DataW.trod enc Tryd.prog W 0 (fun _ => true) true fuel 42 cs = some x → ∃ t, IS W t cs ∧ bgS t ≤ Rows.uptoBulk x.1
  | 0, fuel, cs, x, hM, hF, h => by
    obtain ⟨xs, k, rfl, rfl, hlen, hxl, hf⟩ := DataW.trod_struct Tryd.underlying42 h
    simp only [Rows.uptoBulk] at hF
    omega
  | F + 1, fuel, cs, x, hM, hF, h => by
    obtain ⟨xs, k, rfl, rfl, hlen, hxl, hf⟩ := DataW.trod_struct Tryd.underlying42 h
    rw [cRS] at hlen
    match xs, hxl, cs, hlen with
    | [z0, z1, z2, z3, z4, z5], _, [v0, v1, v2, v3, v4, v5, v6, v7, v8, v9, v10, v11], _ =>
      have h0 : DataW.trod enc Tryd.prog W 0 (fun _ => true) true k 3 (([v0, v1, v2, v3, v4, v5, v6, v7, v8, v9, v10, v11].drop 0).take (Tryd.prog.cellsOf 3)) = some z0 := hf 0 _ rfl
      have h1 : DataW.trod enc Tryd.prog W 0 (fun _ => true) true k 9 (([v0, v1, v2, v3, v4, v5, v6, v7, v8, v9, v10, v11].drop 1).take (Tryd.prog.cellsOf 9)) = some z1 := hf 1 _ rfl
      have h2 : DataW.trod enc Tryd.prog W 0 (fun _ => true) true k 40 (([v0, v1, v2, v3, v4, v5, v6, v7, v8, v9, v10, v11].drop 2).take (Tryd.prog.cellsOf 40)) = some z2 := hf 2 _ rfl
      have h3 : DataW.trod enc Tryd.prog W 0 (fun _ => true) true k 40 (([v0, v1, v2, v3, v4, v5, v6, v7, v8, v9, v10, v11].drop 6).take (Tryd.prog.cellsOf 40)) = some z3 := hf 3 _ rfl
      have h4 : DataW.trod enc Tryd.prog W 0 (fun _ => true) true k 22 (([v0, v1, v2, v3, v4, v5, v6, v7, v8, v9, v10, v11].drop 10).take (Tryd.prog.cellsOf 22)) = some z4 := hf 4 _ rfl
      have h5 : DataW.trod enc Tryd.prog W 0 (fun _ => true) true k 22 (([v0, v1, v2, v3, v4, v5, v6, v7, v8, v9, v10, v11].drop 11).take (Tryd.prog.cellsOf 22)) = some z5 := hf 5 _ rfl
      rw [cI] at h0
      rw [cW] at h1
      rw [cRE] at h2 h3
      rw [cRm] at h4 h5
      obtain ⟨n0, e0, x0, w0⟩ := DataW.trod_int Tryd.underlying3 h0
      obtain ⟨s, e1, rfl, -⟩ := DataW.trod_string Tryd.underlying9 h1
      simp only [List.map_cons, List.map_nil, Rows.uptoBulk, Rows.uptoBulkAll] at hF ⊢
      obtain ⟨a, a1, a2⟩ := open_ex (Rows.uptoBulk z2.1) k _ _ (by omega) (Nat.le_refl _) h2
      obtain ⟨b, b1, b2⟩ := open_ex (Rows.uptoBulk z3.1) k _ _ (by omega) (Nat.le_refl _) h3
      obtain ⟨ts, p, c, xs, e4, g3, g4, g5⟩ := open_listS (F := F) (fun fuel cs y hy hh => open_st F fuel cs y (by omega) hy hh) (by omega) h4
      obtain ⟨us, p', c', ys, e5, k3, k4, k5⟩ := open_listS (F := F) (fun fuel cs y hy hh => open_st F fuel cs y (by omega) hy hh) (by omega) h5
      simp at e0 e1
      subst e0 e1 e4 e5
      have l2 : s.data.toList.length ≤ 1048576 := by omega
      have q0 := bulk_one z0.1
      refine ⟨.mk n0 s.data.toList a b ts us, ?_, ?_⟩
      · unfold IS
        exact ⟨i64_of_wf w0, Nat.le_trans l2 (by decide), _, _, p, c, p', c', xs, ys, rfl, a1, b1, g5, g3, k5, k3⟩
      · unfold bgS
        omega
/-- The document's list of statements, handed in, of such a bulk. -/
theorem open_progB {fuel : Nat} {cs : List Value} {x : DataW H × List MemPlace} (h : DataW.trod enc Tryd.prog W 0 (fun _ => true) true fuel 22 cs = some x) (hk : Rows.uptoBulk x.1 ≤ 1048576) :
    ∃ l p c xs, cs = [.slice p l.length c] ∧ bgSL l < 1048576 ∧ ISL W l xs ∧ Rd W p xs := by
  obtain ⟨a, len, cap, e, -⟩ := open_each Tryd.underlying22 cRS (by decide) h
  subst e
  obtain ⟨ts, p, c, xs, e, g3, g4, g5⟩ := open_listS (fun fuel cs y hy hh => open_st (Rows.uptoBulk x.1) fuel cs y hk hy hh) (Nat.le_refl _) h
  exact ⟨ts, p, c, xs, by rw [e], by omega, g3, g5⟩
end
end Go.Proofs.YtehblpbefkopbaaDoor
namespace Go.Proofs.YtehblpbefkopbaaDoor
open Go.RowKit Go.Deep Go.ChangeShapes Go.WideShapes Go.ChangeAt
/-- A row with a condition of its own, laid variables and the world's shape. -/
theorem wrap_cond {H : Type} {enc : TypeId × Value → H} {a : Assume} {C : Checked} {os : Os} {f : FuncId} {fn : Func} {s : OpenSpec} {k : (H : Type) → List (DataW H) → Bool} (hk : s.cond = some k) {F : Stop.Interp} {conds : List PathCond} {apart fresh handsOn again : Bool} {X : World → Array Value → Prop}
    (hX : ∀ (w w' : World) (args : Array Value), w.heap = w'.heap → X w args → X w' args)
    (own : ownKnob C.prog.godebug = none) (started : os.Started) (noInit : C.prog.inits.idxOf? f = none) (hfn : C.prog.funcs[f]? = some fn)
    (witness : ∃ (w : World) (tape : Tape) (i : Input), w.os = os ∧ (w.forCall tape i).Shaped C.prog ∧ i.vars = [] ∧ Input.okWide C.prog (w.forCall tape i) .any w.heap.size f i ∧
      ((s.pre enc C.prog fn conds apart (w.forCall tape i).memory i.args ∧ X (w.forCall tape i).memory i.args) ∧ sizedMet enc C.prog fn s apart (w.forCall tape i).memory i.args) ∧ a.holds C.prog (lone (Frame.enter C.prog f i.args .normal) [] (w.forCall tape i)))
    (contract : ∀ (W : World) (base : Nat) (args : Array Value) (ds gs : List (DataW H)) (before : List MemPlace),
      (∀ (j : Nat) t v, fn.params[j]? = some t → args[j]? = some v → Value.okWide C.prog W .any base t v) →
      DataW.Whole enc C.prog fn.params.toList s.vars apart W args.toList ds gs before → k H (ds ++ gs) = true →
      (DataW.weightsEach C.prog (fn.params.toList ++ s.bare.plain.varTypes C.prog) (ds ++ gs)).all (· ≤ reachBytes) = true → X W args → W.ShapedOpen C.prog →
      Calls C.prog f args W fun e W' => ∃ v, e = .returned v ∧ (s.at F).post enc C.prog fn apart fresh handsOn again W args v W') :
    ReturnsInHanded a C os f .any (fun w args => (s.pre enc C.prog fn conds apart w args ∧ X w args) ∧ sizedMet enc C.prog fn s apart w args) ((s.at F).post enc C.prog fn apart fresh handsOn again) := by
  refine returnsInHanded_of_calls own started noInit witness ?_
  intro w tape i _ hsh _ hok hpre _
  obtain ⟨_, _, _, fn', hfn', _, _, _, _, hval⟩ := hok
  obtain rfl : fn' = fn := Option.some.inj (hfn'.symm.trans hfn)
  obtain ⟨⟨hp, hx⟩, hz⟩ := hpre
  obtain ⟨ds, gs, before, hw, _, hkk⟩ := (OpenSpec.pre_some hk conds apart _ _).1 hp
  refine (contract (w.forCall tape i) w.heap.size i.args ds gs before hval (DataW.Whole.of_heap (by rfl) hw) hkk (hz.weights hw) (hX _ _ _ (by rfl) hx) hsh).mono fun e W' ⟨v, he, hp⟩ => ?_
  subst he
  exact ChangeSpec.post_blind hp
theorem witness_cond {H : Type} {enc : TypeId × Value → H} {C : Checked} {os : Os} {f : FuncId} {fn : Func} {s : OpenSpec} {k : (H : Type) → List (DataW H) → Bool} (hk : s.cond = some k) {conds : List PathCond} {apart : Bool} {X : World → Array Value → Prop} (modest : Bool) (w0 : World) (args : Array Value) (fuel : Nat) (hos : w0.os = os)
    (hsh : (w0.forCall (fun _ _ => 0) ⟨#[], args, []⟩).Shaped C.prog)
    (hok : Input.okWideB C.prog (w0.forCall (fun _ _ => 0) ⟨#[], args, []⟩) f ⟨#[], args, []⟩ = true)
    {x : List (DataW H) × List (DataW H) × List MemPlace} (hx : DataW.whole enc C.prog (w0.forCall (fun _ _ => 0) ⟨#[], args, []⟩).memory fn.params.toList s.vars apart args.toList fuel = some x)
    (hconds : conds.all (PathCond.test C.prog ⟨fn.params.toList, x.1, s.bare.plain.varTypes C.prog, x.2.1⟩) = true) (hkk : k H (x.1 ++ x.2.1) = true)
    (hsz : s.bare.sizedB enc C.prog fn apart (w0.forCall (fun _ _ => 0) ⟨#[], args, []⟩).memory args fuel = true)
    (hX : X (w0.forCall (fun _ _ => 0) ⟨#[], args, []⟩).memory args) :
    ∃ (w : World) (tape : Tape) (i : Input), w.os = os ∧ (w.forCall tape i).Shaped C.prog ∧ i.vars = [] ∧ Input.okWide C.prog (w.forCall tape i) .any w.heap.size f i ∧
      ((s.pre enc C.prog fn conds apart (w.forCall tape i).memory i.args ∧ X (w.forCall tape i).memory i.args) ∧ sizedMet enc C.prog fn s apart (w.forCall tape i).memory i.args) ∧ ({ modest := modest } : Assume).holds C.prog (lone (Frame.enter C.prog f i.args .normal) [] (w.forCall tape i)) :=
  ⟨w0, fun _ _ => 0, ⟨#[], args, []⟩, hos, hsh, (Input.okWide_of_okWideB (base := 0) hok).1, (Input.okWide_of_okWideB hok).2, ⟨⟨(OpenSpec.pre_some hk conds apart _ _).2 ⟨x.1, x.2.1, x.2.2, DataW.Whole_of_whole hx, hconds, hkk⟩, hX⟩, sizedMet_of_sizedB hsz⟩, by
    simp only [Assume.holds]
    exact ⟨by simp, by simp, fun _ => Modest.zero, by simp, by simp⟩⟩
end Go.Proofs.YtehblpbefkopbaaDoor
namespace Go.Proofs.YtehblpbefkopbaaDoor
open Go.ChangeShapes Go.WideShapes Go.ChangeAt Go.RowKit Go.Deep Go.Shelf
/-! The laid variables of a seat that prints alone. -/
def laid6 : List (String × DataW Unit) := [("math/bits.deBruijn32tab", Rows.laid_math_bits_deBruijn32tab), ("math/bits.deBruijn64tab", Rows.laid_math_bits_deBruijn64tab), ("internal/strconv.uint64pow10", Rows.laid_internal_strconv_uint64pow10), ("braid/source.used", Rows.laid_braid_source_used), ("braid/source.bindings", Rows.laid_braid_source_bindings), ("braid/source.keptWords", Rows.laid_braid_source_keptWords)]
theorem gLUs : Tryd.prog.globalNamed "braid/source.used" = some 0 := by kernel_rfl
theorem gLBn : Tryd.prog.globalNamed "braid/source.bindings" = some 1 := by kernel_rfl
theorem gLKw : Tryd.prog.globalNamed "braid/source.keptWords" = some 2 := by kernel_rfl
theorem tLUs : (Tryd.prog.globals[0]?).map (·.type) = some 106 := by kernel_rfl
theorem fLUs : flT Tryd.prog 4 106 = true := by kernel_rfl
theorem dLUs : flD 4 (Rows.laid_braid_source_used : DataW Unit) = some usC := by kernel_rfl
theorem tLBn : (Tryd.prog.globals[1]?).map (·.type) = some 117 := by kernel_rfl
theorem fLBn : flT Tryd.prog 4 117 = true := by kernel_rfl
theorem dLBn : flD 4 (Rows.laid_braid_source_bindings : DataW Unit) = some bndC := by kernel_rfl
theorem tLKw : (Tryd.prog.globals[2]?).map (·.type) = some 127 := by kernel_rfl
theorem fLKw : flT Tryd.prog 4 127 = true := by kernel_rfl
theorem dLKw : flD 4 (Rows.laid_braid_source_keptWords : DataW Unit) = some (kpt.map fun x => Value.string (bs x)) := by kernel_rfl
theorem gLp : Tryd.prog.globalNamed "internal/strconv.uint64pow10" = some 3 := by kernel_rfl
theorem tLp : (Tryd.prog.globals[3]?).map (·.type) = some 130 := by kernel_rfl
/-- What the laid variables give the printing. -/
theorem of_laid6 {W : World} (h : laidMetH Tryd.prog laid6 W) : PG W := by
  rw [MakeChecks.laidMetH_plain _ _ _ (by kernel_rfl)] at h
  obtain ⟨ps, ⟨g0, t0, cs0, f0, p0, q0, hg0, ht0, hv0, hd0, ⟨g1, t1, cs1, f1, p1, q1, hg1, ht1, hv1, hd1, ⟨g2, t2, cs2, f2, p2, q2, hg2, ht2, hv2, hd2, ⟨g3, t3, cs3, f3, p3, q3, hg3, ht3, hv3, hd3, ⟨g4, t4, cs4, f4, p4, q4, hg4, ht4, hv4, hd4, ⟨g5, t5, cs5, f5, p5, q5, hg5, ht5, hv5, hd5, _, _⟩, _⟩, _⟩, _⟩, _⟩, _⟩, _, _⟩ := h
  obtain rfl := Option.some.inj (gLp.symm.trans hg2)
  obtain rfl := Option.some.inj (tLp.symm.trans ht2)
  obtain rfl := Option.some.inj (gLUs.symm.trans hg3)
  obtain rfl := Option.some.inj (tLUs.symm.trans ht3)
  obtain rfl := Option.some.inj (gLBn.symm.trans hg4)
  obtain rfl := Option.some.inj (tLBn.symm.trans ht4)
  obtain rfl := Option.some.inj (gLKw.symm.trans hg5)
  obtain rfl := Option.some.inj (tLKw.symm.trans ht5)
  refine ⟨⟨?_, ?_, ?_⟩, ?_, ?_⟩
  · exact laid_cells 4 fLKw dLKw gLKw hv5 hd5
  · exact laid_cells 4 fLBn dLBn gLBn hv4 hd4
  · exact laid_cells 4 fLUs dLUs gLUs hv3 hd3
  · have g64 : Tryd.prog.globalNamed "math/bits.deBruijn64tab" = some 5 := by kernel_rfl
    have hlt : 5 < W.heap.size := by
      rcases Nat.lt_or_ge 5 W.heap.size with h' | h'
      · exact h'
      · unfold World.var? at hv1
        rw [g64] at hv1
        simp only [Option.bind_some] at hv1
        rw [Array.getElem?_eq_none h'] at hv1; cases hv1
    omega
  · have cU : Tryd.prog.cellsOf 97 = 1 := by kernel_rfl
    have cT : Tryd.prog.cellsOf 130 = 20 := by kernel_rfl
    have hd2' : DataW.trod (fun _ => ()) Tryd.prog W 0 (fun _ => true) false f2 130 cs2.toList = some (Lib.tabData .u64 Lib.pow10Tab, p2) := hd2
    have e := Lib.cells_of_tab Tryd.underlying130 Tryd.underlying97 cU cT hd2'
    unfold Lib.TabIs
    rw [hv2, ← e]
end Go.Proofs.YtehblpbefkopbaaDoor
