import Derived.Test.YtanmpioplckgbaaDoorLgL
import Derived.Test.YtanmpioplckgbaaDoorLgM
import Derived.Test.YtanmpioplckgbaaDoorPtZ
import Derived.HandedShaped
import Derived.Shelf.Vars
import Derived.FnData
import Derived.Lib.LaidTab
namespace Go.Proofs.YtanmpioplckgbaaDoor
open Go.ChangeShapes Go.WideShapes Go.ChangeAt Go.RowKit Go.Deep Go.Shelf
def laid6 : List (String × DataW Unit) := [("math/bits.deBruijn32tab", Rows.laid_math_bits_deBruijn32tab), ("math/bits.deBruijn64tab", Rows.laid_math_bits_deBruijn64tab), ("internal/strconv.uint64pow10", Rows.laid_internal_strconv_uint64pow10), ("braid/word.opNames", Rows.laid_braid_word_opNames), ("braid/word.relNames", Rows.laid_braid_word_relNames), ("braid/lang.shapes", Rows.laid_braid_lang_shapes)]
theorem shp_name {P : Program} {W : World} {H : Type} {enc : TypeId × Value → H} {spare : Nat → Bool} {held : Bool} {fuel : Nat} {t e : TypeId} {n g : Nat} {cs : Array Value} {name : String} {bs : List (DataW H)} {f0 f1 : Field} {q : List MemPlace}
    (ht : P.underlying t = some (.array n e)) (hs : P.underlying e = some (.struct #[f0, f1])) (ce : P.cellsOf e = 2) (o0 : f0.offset = 0) (c0 : P.cellsOf f0.type = 1) (hst : P.underlying f0.type = some .string) (hg : P.globalNamed name = some g) (hv : W.var? P name = some cs)
    (hd : DataW.trod enc P W 0 spare held fuel t cs.toList = some (.agg bs, q)) (i : Nat) (hi : i < n) {b : List UInt8} {d1 : DataW H} (hb : bs[i]? = some (.agg [.lit (.string b), d1])) : W.cell? ⟨g, i * 2, none⟩ = some (.string ⟨b.toArray⟩) := by
  obtain ⟨xs, m, _, hx, hlen, hn, hel⟩ := DataW.trod_array ht hd
  simp only [Prod.mk.injEq, DataW.agg.injEq] at hx
  have h1 := hel i hi
  rw [ce] at h1
  have hxi : i < xs.length := by omega
  rw [List.getElem?_eq_getElem hxi] at h1
  obtain ⟨y0, y1, k, e1, e2, e3, _⟩ := trod_struct2 hs h1
  rw [o0, c0] at e3
  have ed : y0.1 = .lit (.string b) := by
    have hb2 := hb
    rw [hx.1, List.getElem?_map, List.getElem?_eq_getElem hxi, e1] at hb2
    simp at hb2
    exact hb2.1
  have e5 : (((cs.toList.drop (i * 2)).take 2).drop 0).take 1 = (cs.toList.drop (i * 2)).take 1 := by
    rw [List.drop_zero, List.take_take]; simp
  rw [e5, List.take_one, List.head?_drop] at e3
  cases hc : cs.toList[i * 2]? with
  | none =>
    exfalso
    rw [ce] at e2
    have : cs.toList.length ≤ i * 2 := List.getElem?_eq_none_iff.1 hc
    simp at e2 this
    omega
  | some v =>
    rw [hc] at e3
    obtain ⟨s, s1, s2, _⟩ := DataW.trod_string hst e3
    have e6 : v = .string s := by simpa using s1
    rw [World.var?_cell hg hv (i * 2)]
    have e7 : s.data.toList = b := by
      rw [s2] at ed
      simpa using ed
    rw [← e7]
    have e8 : cs[i * 2]? = some v := by simpa using hc
    rw [e8, e6]
/-- What the laid variables and the world's shape give the walk. -/
theorem tPw : (Tryd.prog.globals[3]?).map (·.type) = some 133 := by kernel_rfl
theorem of_laid6 {W : World} (h : laidMetH Tryd.prog laid6 W) : PT W ∧ NT W ∧ PW W := by
  rw [MakeChecks.laidMetH_plain _ _ _ (by kernel_rfl)] at h
  obtain ⟨ps, ⟨g0, t0, cs0, f0, p0, q0, hg0, ht0, hv0, hd0, ⟨g1, t1, cs1, f1, p1, q1, hg1, ht1, hv1, hd1, ⟨g2, t2, cs2, f2, p2, q2, hg2, ht2, hv2, hd2, ⟨g3, t3, cs3, f3, p3, q3, hg3, ht3, hv3, hd3, ⟨g4, t4, cs4, f4, p4, q4, hg4, ht4, hv4, hd4, ⟨g5, t5, cs5, f5, p5, q5, hg5, ht5, hv5, hd5, _, _⟩, _⟩, _⟩, _⟩, _⟩, _⟩, _, _⟩ := h
  obtain rfl := Option.some.inj (gPw.symm.trans hg2)
  obtain rfl := Option.some.inj (tPw.symm.trans ht2)
  obtain rfl := Option.some.inj (gOps.symm.trans hg3)
  obtain rfl := Option.some.inj (gRels.symm.trans hg4)
  obtain rfl := Option.some.inj (gShp.symm.trans hg5)
  obtain rfl := Option.some.inj (tOps.symm.trans ht3)
  obtain rfl := Option.some.inj (tRels.symm.trans ht4)
  obtain rfl := Option.some.inj (tShp.symm.trans ht5)
  refine ⟨⟨?_⟩, ?_, ?_⟩
  · have cS : Tryd.prog.cellsOf 9 = 1 := by kernel_rfl
    refine ⟨fun i hi => ?_, fun i hi => ?_, fun c h1 h2 => ?_⟩
    · have := strs_cells (bs := [[], [97, 100, 100], [115, 117, 98], [109, 117, 108], [100, 105, 118], [114, 101, 109], [97, 110, 100], [111, 114], [120, 111, 114], [115, 104, 108], [115, 104, 114], [109, 105, 110], [109, 97, 120]]) Tryd.underlying93 Tryd.underlying9 cS gOps hv3 hd3 i hi
      rw [this]
      have h13 : i = 0 ∨ i = 1 ∨ i = 2 ∨ i = 3 ∨ i = 4 ∨ i = 5 ∨ i = 6 ∨ i = 7 ∨ i = 8 ∨ i = 9 ∨ i = 10 ∨ i = 11 ∨ i = 12 := by omega
      rcases h13 with h | h | h | h | h | h | h | h | h | h | h | h | h <;> subst h <;> rfl
    · have := strs_cells (bs := [[], [61, 61], [33, 61], [60], [60, 61], [62], [62, 61]]) Tryd.underlying116 Tryd.underlying9 cS gRels hv4 hd4 i hi
      rw [this]
      have h7 : i = 0 ∨ i = 1 ∨ i = 2 ∨ i = 3 ∨ i = 4 ∨ i = 5 ∨ i = 6 := by omega
      rcases h7 with h | h | h | h | h | h | h <;> subst h <;> rfl
    · have cE : Tryd.prog.cellsOf 72 = 2 := by kernel_rfl
      have cI : Tryd.prog.cellsOf 75 = 1 := by kernel_rfl
      have sc := fun i hi d0 d1 hb => shp_cells (d0 := d0) (d1 := d1) Tryd.underlying73 Tryd.underlying72 cE rfl (by kernel_rfl) gShp hv5 hd5 i hi hb
      rcases (by omega : c = 1 ∨ c = 2 ∨ c = 3 ∨ c = 4 ∨ c = 5 ∨ c = 6 ∨ c = 7 ∨ c = 8 ∨ c = 9 ∨ c = 10) with rfl | rfl | rfl | rfl | rfl | rfl | rfl | rfl | rfl | rfl
      · obtain ⟨v, k, p, hv, ht⟩ := sc 1 (by decide) _ _ rfl
        exact ⟨v, hv, sli_of (l := [1, 2]) Tryd.underlying70 Tryd.underlying75 cI ht⟩
      · obtain ⟨v, k, p, hv, ht⟩ := sc 2 (by decide) _ _ rfl
        exact ⟨v, hv, sli_of (l := [1, 2]) Tryd.underlying70 Tryd.underlying75 cI ht⟩
      · obtain ⟨v, k, p, hv, ht⟩ := sc 3 (by decide) _ _ rfl
        exact ⟨v, hv, sli_of (l := [2, 3]) Tryd.underlying70 Tryd.underlying75 cI ht⟩
      · obtain ⟨v, k, p, hv, ht⟩ := sc 4 (by decide) _ _ rfl
        exact ⟨v, hv, sli_of (l := [2]) Tryd.underlying70 Tryd.underlying75 cI ht⟩
      · obtain ⟨v, k, p, hv, ht⟩ := sc 5 (by decide) _ _ rfl
        exact ⟨v, hv, sli_of (l := [1, 3]) Tryd.underlying70 Tryd.underlying75 cI ht⟩
      · obtain ⟨v, k, p, hv, ht⟩ := sc 6 (by decide) _ _ rfl
        exact ⟨v, hv, sli_of (l := [1, 3, 4]) Tryd.underlying70 Tryd.underlying75 cI ht⟩
      · obtain ⟨v, k, p, hv, ht⟩ := sc 7 (by decide) _ _ rfl
        exact ⟨v, hv, sli_of (l := [3, 5, 4, 6]) Tryd.underlying70 Tryd.underlying75 cI ht⟩
      · obtain ⟨v, k, p, hv, ht⟩ := sc 8 (by decide) _ _ rfl
        exact ⟨v, hv, sli_of (l := [6]) Tryd.underlying70 Tryd.underlying75 cI ht⟩
      · obtain ⟨v, k, p, hv, ht⟩ := sc 9 (by decide) _ _ rfl
        exact ⟨v, hv, sli_nil Tryd.underlying70 ht⟩
      · obtain ⟨v, k, p, hv, ht⟩ := sc 10 (by decide) _ _ rfl
        exact ⟨v, hv, sli_of (l := [3]) Tryd.underlying70 Tryd.underlying75 cI ht⟩
  · intro c h1 h2
    have cE : Tryd.prog.cellsOf 72 = 2 := by kernel_rfl
    have sc := fun i hi b d1 hb => shp_name (b := b) (d1 := d1) Tryd.underlying73 Tryd.underlying72 cE rfl (by kernel_rfl) (by kernel_rfl) gShp hv5 hd5 i hi hb
    rcases (by omega : c = 1 ∨ c = 2 ∨ c = 3 ∨ c = 4 ∨ c = 5 ∨ c = 6 ∨ c = 7 ∨ c = 8 ∨ c = 9 ∨ c = 10) with rfl | rfl | rfl | rfl | rfl | rfl | rfl | rfl | rfl | rfl
    · exact sc 1 (by decide) [103, 101, 116] _ rfl
    · exact sc 2 (by decide) [116, 97, 107, 101] _ rfl
    · exact sc 3 (by decide) [112, 117, 116] _ rfl
    · exact sc 4 (by decide) [100, 114, 111, 112] _ rfl
    · exact sc 5 (by decide) [108, 101, 116] _ rfl
    · exact sc 6 (by decide) [] _ rfl
    · exact sc 7 (by decide) [105, 102] _ rfl
    · exact sc 8 (by decide) [103, 111, 116, 111] _ rfl
    · exact sc 9 (by decide) [113, 117, 105, 116] _ rfl
    · exact sc 10 (by decide) [100, 111, 110, 101] _ rfl
  · have cU : Tryd.prog.cellsOf 100 = 1 := by kernel_rfl
    have cT : Tryd.prog.cellsOf 133 = 20 := by kernel_rfl
    have hd2' : DataW.trod (fun _ => ()) Tryd.prog W 0 (fun _ => true) false f2 133 cs2.toList = some (Lib.tabData .u64 Lib.pow10Tab, p2) := hd2
    have e := Lib.cells_of_tab Tryd.underlying133 Tryd.underlying100 cU cT hd2'
    unfold PW Lib.TabIs
    rw [hv2, ← e]
theorem open_opd64 {H : Type} {enc : TypeId × Value → H} {P : Program} {W : World} {spare : Nat → Bool} {held : Bool} {e : TypeId} {g0 g1 : Field} {fuel : Nat} {v0 v1 : Value} {x : DataW H × List MemPlace}
    (hs : P.underlying e = some (.struct #[g0, g1])) (o0 : g0.offset = 0) (o1 : g1.offset = 1) (c0 : P.cellsOf g0.type = 1) (c1 : P.cellsOf g1.type = 1) (u0 : P.underlying g0.type = some .bool) (u1 : P.underlying g1.type = some (.int .i64))
    (h : DataW.trod enc P W 0 spare held fuel e [v0, v1] = some x) : ∃ (r : Bool) (n : Int), v0 = .bool r ∧ v1 = .int .i64 n ∧ In64 n := by
  obtain ⟨y0, y1, k, _, _, G0, G1⟩ := trod_struct2 hs h
  simp [o0, o1, c0, c1] at G0 G1
  obtain ⟨b, r0, _⟩ := DataW.trod_bool u0 G0
  obtain ⟨q, r1, _, wq⟩ := DataW.trod_int u1 G1
  simp at r0 r1
  exact ⟨b, q, r0, r1, i64_of_wf wq⟩
theorem open_ins64 {H : Type} {enc : TypeId × Value → H} {P : Program} {W : World} {spare : Nat → Bool} {held : Bool} {t e eo : TypeId} {f0 f1 f2 f3 f4 f5 f6 f7 g0 g1 : Field} {fuel : Nat} {a : Option Addr} {len cap : Nat} {x : DataW H × List MemPlace}
    (ht : P.underlying t = some (.slice e)) (hs : P.underlying e = some (.struct #[f0, f1, f2, f3, f4, f5, f6, f7])) (ho : P.underlying eo = some (.struct #[g0, g1])) (ce : P.cellsOf e = 11)
    (o0 : f0.offset = 0) (o1 : f1.offset = 1) (o2 : f2.offset = 2) (o3 : f3.offset = 4) (o4 : f4.offset = 6) (o5 : f5.offset = 8) (o6 : f6.offset = 9) (o7 : f7.offset = 10) (c0 : P.cellsOf f0.type = 1) (c1 : P.cellsOf f1.type = 1) (c2 : P.cellsOf f2.type = 2) (c3 : P.cellsOf f3.type = 2) (c4 : P.cellsOf f4.type = 2) (c5 : P.cellsOf f5.type = 1) (c6 : P.cellsOf f6.type = 1) (c7 : P.cellsOf f7.type = 1) (t2 : f2.type = eo) (t3 : f3.type = eo) (t4 : f4.type = eo) (u0 : P.underlying f0.type = some (.int .i64)) (u1 : P.underlying f1.type = some (.int .i64)) (u5 : P.underlying f5.type = some (.int .i64)) (u6 : P.underlying f6.type = some (.int .i64)) (u7 : P.underlying f7.type = some (.int .i64))
    (p0 : g0.offset = 0) (p1 : g1.offset = 1) (d0 : P.cellsOf g0.type = 1) (d1 : P.cellsOf g1.type = 1) (v0 : P.underlying g0.type = some .bool) (v1 : P.underlying g1.type = some (.int .i64))
    (h : DataW.trod enc P W 0 spare held fuel t [.slice a len cap] = some x) : ∃ l : List Ins, l.length = len ∧ ISL W a l ∧ (∀ q ∈ l, n64 q) ∧ (len = 0 ∨ ∃ es ss, x.1 = .slice es ss ∧ len ≤ es.length + ss.length) := by
  by_cases h0 : len = 0
  · subst h0
    exact ⟨[], rfl, fun i hi => (by simp at hi), fun q hq => absurd hq (by simp), .inl rfl⟩
  rcases open_slice ht h with ⟨hcs, _⟩ | ⟨a', len', cap', m, n, D, Pl, hcs, hb, hl, hm, hmm, rfl, hx⟩
  · simp at hcs; omega
  simp at hcs
  obtain ⟨rfl, rfl, rfl⟩ := hcs
  have hlm : len ≤ m := by rw [hmm]; split <;> omega
  have each : ∀ i, i < len → ∃ q : Ins, n64 q ∧ ∀ j v, q.cells[j]? = some v → W.cell? (a'.add (i * 11 + j)) = some v := by
    intro i hi
    obtain ⟨cs', h1, h2⟩ := hx i (by omega)
    rw [ce] at h1
    obtain ⟨_, hlen, hcell⟩ := World.cells?_some h1
    obtain ⟨xs, k, hk, hxy, _, hxl, hf⟩ := DataW.trod_struct hs h2
    match xs, hxl, cs', hlen with
    | [y0, y1, y2, y3, y4, y5, y6, y7], _, [z0, z1, z2, z3, z4, z5, z6, z7, z8, z9, z10], _ =>
      have G0 := hf 0 f0 rfl
      have G1 := hf 1 f1 rfl
      have G2 := hf 2 f2 rfl
      have G3 := hf 3 f3 rfl
      have G4 := hf 4 f4 rfl
      have G5 := hf 5 f5 rfl
      have G6 := hf 6 f6 rfl
      have G7 := hf 7 f7 rfl
      simp [o0, o1, o2, o3, o4, o5, o6, o7, c0, c1, c2, c3, c4, c5, c6, c7] at G0 G1 G2 G3 G4 G5 G6 G7
      rw [t2] at G2
      rw [t3] at G3
      rw [t4] at G4
      obtain ⟨q0, r0, _, _⟩ := DataW.trod_int u0 G0
      obtain ⟨q1, r1, _, _⟩ := DataW.trod_int u1 G1
      obtain ⟨b2, q2, r2, r3, m2⟩ := open_opd64 ho p0 p1 d0 d1 v0 v1 G2
      obtain ⟨b4, q4, r4, r5, m4⟩ := open_opd64 ho p0 p1 d0 d1 v0 v1 G3
      obtain ⟨b6, q6, r6, r7, m6⟩ := open_opd64 ho p0 p1 d0 d1 v0 v1 G4
      obtain ⟨q8, r8, _, _⟩ := DataW.trod_int u5 G5
      obtain ⟨q9, r9, _, _⟩ := DataW.trod_int u6 G6
      obtain ⟨q10, r10, _, _⟩ := DataW.trod_int u7 G7
      simp at r0 r1 r8 r9 r10
      refine ⟨⟨q0, q1, b2, q2, b4, q4, b6, q6, q8, q9, q10⟩, ⟨m2, m4, m6⟩, fun j v hv => ?_⟩
      have hj : j < 11 := (List.getElem?_eq_some_iff.1 hv).1
      have cj := hcell j (by omega)
      rw [add_add] at cj
      rw [cj]
      have g := ins_cells_get _ j v hv
      simp only at g
      rcases g with ⟨rfl, rfl⟩ | ⟨rfl, rfl⟩ | ⟨rfl, rfl⟩ | ⟨rfl, rfl⟩ | ⟨rfl, rfl⟩ | ⟨rfl, rfl⟩ | ⟨rfl, rfl⟩ | ⟨rfl, rfl⟩ | ⟨rfl, rfl⟩ | ⟨rfl, rfl⟩ | ⟨rfl, rfl⟩ <;> simp [r0, r1, r2, r3, r4, r5, r6, r7, r8, r9, r10]
  obtain ⟨b, off, spot⟩ := a'
  obtain ⟨q00, _, z00⟩ := each 0 (by omega)
  have z0 := z00 1 _ rfl
  have z0' := z00 0 _ rfl
  have hspot : spot = none := by simpa [Addr.add] using World.cell?_spot z0'
  subst hspot
  obtain ⟨V, hV⟩ := choose_lt each
  have ha : ∀ i, i < len → ((List.range len).map V).getD i ins0 = V i := fun i hi => by simp [List.getD_eq_getElem?_getD, hi]
  refine ⟨(List.range len).map V, by simp, fun i hi => ⟨b, off, rfl, fun j v hv => ?_⟩, fun q hq => by obtain ⟨i, hi, rfl⟩ := List.mem_map.1 hq; exact (hV i (List.mem_range.1 hi)).1, .inr ⟨_, _, rfl, by simp⟩⟩
  simp at hi
  rw [ha i hi] at hv
  have := (hV i hi).2 j v hv
  rw [add_at] at this
  rw [Nat.add_assoc]
  exact this
/-- The wrap with laid variables and the world's shape. -/
theorem wrap_both {H : Type} {enc : TypeId × Value → H} {a : Assume} {C : Checked} {os : Os} {f : FuncId} {fn : Func} {s : ChangeSpec} {conds : List PathCond} {apart fresh handsOn again : Bool} {X : World → Array Value → Prop}
    (hX : ∀ (w w' : World) (args : Array Value), w.heap = w'.heap → X w args → X w' args)
    (own : ownKnob C.prog.godebug = none) (started : os.Started) (noInit : C.prog.inits.idxOf? f = none) (hfn : C.prog.funcs[f]? = some fn)
    (witness : ∃ (w : World) (tape : Tape) (i : Input), w.os = os ∧ (w.forCall tape i).Shaped C.prog ∧ i.vars = [] ∧ Input.okWide C.prog (w.forCall tape i) .any w.heap.size f i ∧
      ((s.pre enc C.prog fn conds apart (w.forCall tape i).memory i.args ∧ X (w.forCall tape i).memory i.args) ∧ sizedMet enc C.prog fn (OpenSpec.ofChange s) apart (w.forCall tape i).memory i.args) ∧ a.holds C.prog (lone (Frame.enter C.prog f i.args .normal) [] (w.forCall tape i)))
    (contract : ∀ (W : World) (base : Nat) (args : Array Value) (ds gs : List (DataW H)) (before : List MemPlace),
      (∀ (j : Nat) t v, fn.params[j]? = some t → args[j]? = some v → Value.okWide C.prog W .any base t v) →
      DataW.Whole enc C.prog fn.params.toList s.vars apart W args.toList ds gs before →
      (DataW.weightsEach C.prog (fn.params.toList ++ s.plain.varTypes C.prog) (ds ++ gs)).all (· ≤ reachBytes) = true → X W args → W.ShapedOpen C.prog →
      Calls C.prog f args W fun e W' => ∃ v, e = .returned v ∧ s.post enc C.prog fn apart fresh handsOn again W args v W') :
    ReturnsInHanded a C os f .any (fun w args => (s.pre enc C.prog fn conds apart w args ∧ X w args) ∧ sizedMet enc C.prog fn (OpenSpec.ofChange s) apart w args) (s.post enc C.prog fn apart fresh handsOn again) := by
  refine returnsInHanded_of_calls own started noInit witness ?_
  intro w tape i _ hsh _ hok hpre _
  obtain ⟨_, _, _, fn', hfn', _, _, _, _, hval⟩ := hok
  obtain rfl : fn' = fn := Option.some.inj (hfn'.symm.trans hfn)
  obtain ⟨⟨⟨ds, gs, before, hw, _⟩, hx⟩, hz⟩ := hpre
  refine (contract (w.forCall tape i) w.heap.size i.args ds gs before hval (DataW.Whole.of_heap (by rfl) hw) (hz.weights hw) (hX _ _ _ (by rfl) hx) hsh).mono fun e W' ⟨v, he, hp⟩ => ?_
  subst he
  exact ChangeSpec.post_blind hp
end Go.Proofs.YtanmpioplckgbaaDoor
