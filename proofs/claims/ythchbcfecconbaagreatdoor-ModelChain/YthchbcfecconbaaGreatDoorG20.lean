import Derived.Test.YthchbcfecconbaaGreatDoorG19
import Derived.Test.YthchbcfecconbaaGreatDoorG16
import Derived.HandedShaped
import Derived.Shelf.Vars
import Derived.FnData
namespace Go.Proofs.YthchbcfecconbaaGreatDoor
open Go.ChangeShapes Go.WideShapes Go.ChangeAt Go.RowKit Go.Deep Go.Shelf
theorem gErr : Tryz.prog.globalNamed "strconv.ErrRange" = some 7 := by kernel_rfl
theorem tErr : (Tryz.prog.globals[7]?).map (·.type) = some 191 := by kernel_rfl
def laid10 : List (String × DataW Unit) := [("math/bits.deBruijn32tab", Rows.laid_math_bits_deBruijn32tab), ("math/bits.deBruijn64tab", Rows.laid_math_bits_deBruijn64tab), ("internal/strconv.uint64pow10", Rows.laid_internal_strconv_uint64pow10), ("unicode/utf8.acceptRanges", Rows.laid_unicode_utf8_acceptRanges), ("strconv.ErrRange", Rows.laid_strconv_ErrRange), ("strconv.ErrSyntax", Rows.laid_strconv_ErrSyntax), ("braid/word.opNames", Rows.laid_braid_word_opNames), ("braid/word.relNames", Rows.laid_braid_word_relNames), ("braid/lang.shapes", Rows.laid_braid_lang_shapes), ("unicode/utf8.first", Rows.laid_unicode_utf8_first)]
theorem iface_of' {H : Type} {enc : TypeId × Value → H} {P : Program} {W : World} {base fuel : Nat} {spare : Nat → Bool} {held : Bool} {t : TypeId} {ms : Array (String × TypeId)} {cs : Array Value} {nm : String} {d : DataW H} {q : List MemPlace}
    (ht : P.underlying t = some (.interface ms)) (h : DataW.trod enc P W base spare held fuel t cs.toList = some (.iface nm d, q)) : ∃ tp p, cs = #[.iface tp p] := by
  cases fuel with
  | zero => simp [DataW.trod] at h
  | succ n =>
    obtain ⟨l⟩ := cs
    simp only at h
    match l, h with
    | [], h => simp [DataW.trod, ht] at h
    | [v], h =>
      cases v <;> first | exact ⟨_, _, rfl⟩ | (exfalso; simp [DataW.trod, ht] at h; done) | (exfalso; cases held <;> simp [DataW.trod, ht] at h)
    | a :: b :: r, h => simp [DataW.trod, ht] at h
theorem shp_name {P : Program} {W : World} {H : Type} {enc : TypeId × Value → H} {spare : Nat → Bool} {held : Bool} {fuel : Nat} {t e : TypeId} {n g : Nat} {cs : Array Value} {name : String} {bs : List (DataW H)} {f0 f1 : Field} {q : List MemPlace}
    (ht : P.underlying t = some (.array n e)) (hs : P.underlying e = some (.struct #[f0, f1])) (ce : P.cellsOf e = 2) (o0 : f0.offset = 0) (c0 : P.cellsOf f0.type = 1) (hst : P.underlying f0.type = some .string) (hg : P.globalNamed name = some g) (hv : W.var? P name = some cs)
    (hd : DataW.trod enc P W 0 spare held fuel t cs.toList = some (.agg bs, q)) (i : Nat) (hi : i < n) {b : List UInt8} {d1 : DataW H} (hb : bs[i]? = some (.agg [.lit (.string b), d1])) : W.cell? ⟨g, i * 2, none⟩ = some (.string ⟨b.toArray⟩) := by
  obtain ⟨xs, m, _, hx, hlen, hn, hel⟩ := DataW.trod_array ht hd
  simp only [Prod.mk.injEq, DataW.agg.injEq] at hx
  have h1 := hel i hi
  rw [ce] at h1
  have hxi : i < xs.length := by omega
  rw [List.getElem?_eq_getElem hxi] at h1
  obtain ⟨y0, y1, k, e1, e2, e3, _⟩ := trod_struct2 hs h1
  rw [o0, c0] at e3
  have ed : y0.1 = .lit (.string b) := by
    have hb2 := hb
    rw [hx.1, List.getElem?_map, List.getElem?_eq_getElem hxi, e1] at hb2
    simp at hb2
    exact hb2.1
  have e5 : (((cs.toList.drop (i * 2)).take 2).drop 0).take 1 = (cs.toList.drop (i * 2)).take 1 := by
    rw [List.drop_zero, List.take_take]; simp
  rw [e5, List.take_one, List.head?_drop] at e3
  cases hc : cs.toList[i * 2]? with
  | none =>
    exfalso
    rw [ce] at e2
    have : cs.toList.length ≤ i * 2 := List.getElem?_eq_none_iff.1 hc
    simp at e2 this
    omega
  | some v =>
    rw [hc] at e3
    obtain ⟨s, s1, s2, _⟩ := DataW.trod_string hst e3
    have e6 : v = .string s := by simpa using s1
    rw [World.var?_cell hg hv (i * 2)]
    have e7 : s.data.toList = b := by
      rw [s2] at ed
      simpa using ed
    rw [← e7]
    have e8 : cs[i * 2]? = some v := by simpa using hc
    rw [e8, e6]
theorem of_laid10 {W : World} (h : laidMetH Tryz.prog laid10 W) (hsh : W.ShapedOpen Tryz.prog) : PT W ∧ NT W := by
  rw [MakeChecks.laidMetH_plain _ _ _ (by kernel_rfl)] at h
  obtain ⟨ps, ⟨g0, t0, cs0, f0, p0, q0, hg0, ht0, hv0, hd0, ⟨g1, t1, cs1, f1, p1, q1, hg1, ht1, hv1, hd1, ⟨g2, t2, cs2, f2, p2, q2, hg2, ht2, hv2, hd2, ⟨g3, t3, cs3, f3, p3, q3, hg3, ht3, hv3, hd3, ⟨g4, t4, cs4, f4, p4, q4, hg4, ht4, hv4, hd4, ⟨g5, t5, cs5, f5, p5, q5, hg5, ht5, hv5, hd5, ⟨g6, t6, cs6, f6, p6, q6, hg6, ht6, hv6, hd6, ⟨g7, t7, cs7, f7, p7, q7, hg7, ht7, hv7, hd7, ⟨g8, t8, cs8, f8, p8, q8, hg8, ht8, hv8, hd8, ⟨g9, t9, cs9, f9, p9, q9, hg9, ht9, hv9, hd9, _, _⟩, _⟩, _⟩, _⟩, _⟩, _⟩, _⟩, _⟩, _⟩, _⟩, _, _⟩ := h
  obtain rfl := Option.some.inj (gErr.symm.trans hg4)
  obtain rfl := Option.some.inj (tErr.symm.trans ht4)
  obtain rfl := Option.some.inj (gOps.symm.trans hg6)
  obtain rfl := Option.some.inj (gRels.symm.trans hg7)
  obtain rfl := Option.some.inj (gShp.symm.trans hg8)
  obtain rfl := Option.some.inj (tOps.symm.trans ht6)
  obtain rfl := Option.some.inj (tRels.symm.trans ht7)
  obtain rfl := Option.some.inj (tShp.symm.trans ht8)
  refine ⟨⟨?_, ?_, ?_⟩, ?_⟩
  · clear hd0 hd1 hd2 hd3 hd4 hd5 hd9
    have cS : Tryz.prog.cellsOf 9 = 1 := by kernel_rfl
    refine ⟨fun i hi => ?_, fun i hi => ?_, fun c h1 h2 => ?_⟩
    · have := strs_cells (bs := [[], [97, 100, 100], [115, 117, 98], [109, 117, 108], [100, 105, 118], [114, 101, 109], [97, 110, 100], [111, 114], [120, 111, 114], [115, 104, 108], [115, 104, 114], [109, 105, 110], [109, 97, 120]]) Tryz.underlying152 Tryz.underlying9 cS gOps hv6 hd6 i hi
      rw [this]
      have h13 : i = 0 ∨ i = 1 ∨ i = 2 ∨ i = 3 ∨ i = 4 ∨ i = 5 ∨ i = 6 ∨ i = 7 ∨ i = 8 ∨ i = 9 ∨ i = 10 ∨ i = 11 ∨ i = 12 := by omega
      rcases h13 with h | h | h | h | h | h | h | h | h | h | h | h | h <;> subst h <;> rfl
    · have := strs_cells (bs := [[], [61, 61], [33, 61], [60], [60, 61], [62], [62, 61]]) Tryz.underlying168 Tryz.underlying9 cS gRels hv7 hd7 i hi
      rw [this]
      have h7 : i = 0 ∨ i = 1 ∨ i = 2 ∨ i = 3 ∨ i = 4 ∨ i = 5 ∨ i = 6 := by omega
      rcases h7 with h | h | h | h | h | h | h <;> subst h <;> rfl
    · have cE : Tryz.prog.cellsOf 112 = 2 := by kernel_rfl
      have cI : Tryz.prog.cellsOf 114 = 1 := by kernel_rfl
      have sc := fun i hi d0 d1 hb => shp_cells (d0 := d0) (d1 := d1) Tryz.underlying113 Tryz.underlying112 cE rfl (by kernel_rfl) gShp hv8 hd8 i hi hb
      rcases (by omega : c = 1 ∨ c = 2 ∨ c = 3 ∨ c = 4 ∨ c = 5 ∨ c = 6 ∨ c = 7 ∨ c = 8 ∨ c = 9 ∨ c = 10) with rfl | rfl | rfl | rfl | rfl | rfl | rfl | rfl | rfl | rfl
      · obtain ⟨v, k, p, hv, ht⟩ := sc 1 (by decide) _ _ rfl
        exact ⟨v, hv, sli_of (l := [1, 2]) Tryz.underlying110 Tryz.underlying114 cI ht⟩
      · obtain ⟨v, k, p, hv, ht⟩ := sc 2 (by decide) _ _ rfl
        exact ⟨v, hv, sli_of (l := [1, 2]) Tryz.underlying110 Tryz.underlying114 cI ht⟩
      · obtain ⟨v, k, p, hv, ht⟩ := sc 3 (by decide) _ _ rfl
        exact ⟨v, hv, sli_of (l := [2, 3]) Tryz.underlying110 Tryz.underlying114 cI ht⟩
      · obtain ⟨v, k, p, hv, ht⟩ := sc 4 (by decide) _ _ rfl
        exact ⟨v, hv, sli_of (l := [2]) Tryz.underlying110 Tryz.underlying114 cI ht⟩
      · obtain ⟨v, k, p, hv, ht⟩ := sc 5 (by decide) _ _ rfl
        exact ⟨v, hv, sli_of (l := [1, 3]) Tryz.underlying110 Tryz.underlying114 cI ht⟩
      · obtain ⟨v, k, p, hv, ht⟩ := sc 6 (by decide) _ _ rfl
        exact ⟨v, hv, sli_of (l := [1, 3, 4]) Tryz.underlying110 Tryz.underlying114 cI ht⟩
      · obtain ⟨v, k, p, hv, ht⟩ := sc 7 (by decide) _ _ rfl
        exact ⟨v, hv, sli_of (l := [3, 5, 4, 6]) Tryz.underlying110 Tryz.underlying114 cI ht⟩
      · obtain ⟨v, k, p, hv, ht⟩ := sc 8 (by decide) _ _ rfl
        exact ⟨v, hv, sli_of (l := [6]) Tryz.underlying110 Tryz.underlying114 cI ht⟩
      · obtain ⟨v, k, p, hv, ht⟩ := sc 9 (by decide) _ _ rfl
        exact ⟨v, hv, sli_nil Tryz.underlying110 ht⟩
      · obtain ⟨v, k, p, hv, ht⟩ := sc 10 (by decide) _ _ rfl
        exact ⟨v, hv, sli_of (l := [3]) Tryz.underlying110 Tryz.underlying114 cI ht⟩
  · obtain ⟨tp, p, rfl⟩ := iface_of' Tryz.underlying191 hd4
    exact ⟨tp, p, hv4⟩
  · exact cell_of_shapedOpen_int (P := Tryz.prog) (g := 3) (t := 3) (zero := #[.int .i64 0]) hsh (of_decide_eq_true (by kernel_rfl)) (by kernel_rfl) rfl (by kernel_rfl) (by kernel_rfl) Tryz.underlying3
  · intro c h1 h2
    have cE : Tryz.prog.cellsOf 112 = 2 := by kernel_rfl
    have sc := fun i hi b d1 hb => shp_name (b := b) (d1 := d1) Tryz.underlying113 Tryz.underlying112 cE rfl (by kernel_rfl) (by kernel_rfl) gShp hv8 hd8 i hi hb
    rcases (by omega : c = 1 ∨ c = 2 ∨ c = 3 ∨ c = 4 ∨ c = 5 ∨ c = 6 ∨ c = 7 ∨ c = 8 ∨ c = 9 ∨ c = 10) with rfl | rfl | rfl | rfl | rfl | rfl | rfl | rfl | rfl | rfl
    · exact sc 1 (by decide) [103, 101, 116] _ rfl
    · exact sc 2 (by decide) [116, 97, 107, 101] _ rfl
    · exact sc 3 (by decide) [112, 117, 116] _ rfl
    · exact sc 4 (by decide) [100, 114, 111, 112] _ rfl
    · exact sc 5 (by decide) [108, 101, 116] _ rfl
    · exact sc 6 (by decide) [] _ rfl
    · exact sc 7 (by decide) [105, 102] _ rfl
    · exact sc 8 (by decide) [103, 111, 116, 111] _ rfl
    · exact sc 9 (by decide) [113, 117, 105, 116] _ rfl
    · exact sc 10 (by decide) [100, 111, 110, 101] _ rfl
theorem wrap_both {H : Type} {enc : TypeId × Value → H} {a : Assume} {C : Checked} {os : Os} {f : FuncId} {fn : Func} {s : ChangeSpec} {conds : List PathCond} {apart fresh handsOn again : Bool} {X : World → Array Value → Prop}
    (hX : ∀ (w w' : World) (args : Array Value), w.heap = w'.heap → X w args → X w' args)
    (own : ownKnob C.prog.godebug = none) (started : os.Started) (noInit : C.prog.inits.idxOf? f = none) (hfn : C.prog.funcs[f]? = some fn)
    (witness : ∃ (w : World) (tape : Tape) (i : Input), w.os = os ∧ (w.forCall tape i).Shaped C.prog ∧ i.vars = [] ∧ Input.okWide C.prog (w.forCall tape i) .any w.heap.size f i ∧
      ((s.pre enc C.prog fn conds apart (w.forCall tape i).memory i.args ∧ X (w.forCall tape i).memory i.args) ∧ sizedMet enc C.prog fn (OpenSpec.ofChange s) apart (w.forCall tape i).memory i.args) ∧ a.holds C.prog (lone (Frame.enter C.prog f i.args .normal) [] (w.forCall tape i)))
    (contract : ∀ (W : World) (base : Nat) (args : Array Value) (ds gs : List (DataW H)) (before : List MemPlace),
      (∀ (j : Nat) t v, fn.params[j]? = some t → args[j]? = some v → Value.okWide C.prog W .any base t v) →
      DataW.Whole enc C.prog fn.params.toList s.vars apart W args.toList ds gs before →
      (DataW.weightsEach C.prog (fn.params.toList ++ s.plain.varTypes C.prog) (ds ++ gs)).all (· ≤ reachBytes) = true → X W args → W.ShapedOpen C.prog →
      Calls C.prog f args W fun e W' => ∃ v, e = .returned v ∧ s.post enc C.prog fn apart fresh handsOn again W args v W') :
    ReturnsInHanded a C os f .any (fun w args => (s.pre enc C.prog fn conds apart w args ∧ X w args) ∧ sizedMet enc C.prog fn (OpenSpec.ofChange s) apart w args) (s.post enc C.prog fn apart fresh handsOn again) := by
  refine returnsInHanded_of_calls own started noInit witness ?_
  intro w tape i _ hsh _ hok hpre _
  obtain ⟨_, _, _, fn', hfn', _, _, _, _, hval⟩ := hok
  obtain rfl : fn' = fn := Option.some.inj (hfn'.symm.trans hfn)
  obtain ⟨⟨⟨ds, gs, before, hw, _⟩, hx⟩, hz⟩ := hpre
  refine (contract (w.forCall tape i) w.heap.size i.args ds gs before hval (DataW.Whole.of_heap (by rfl) hw) (hz.weights hw) (hX _ _ _ (by rfl) hx) hsh).mono fun e W' ⟨v, he, hp⟩ => ?_
  subst he
  exact ChangeSpec.post_blind hp
end Go.Proofs.YthchbcfecconbaaGreatDoor

