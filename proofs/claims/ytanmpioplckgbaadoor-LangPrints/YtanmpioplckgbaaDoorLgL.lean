import Derived.Test.YtanmpioplckgbaaDoorLgI
import Derived.Test.YtanmpioplckgbaaDoorTie
import Derived.Test.YtanmpioplckgbaaDoorCards
import Derived.ProofKit
import Derived.LaidMore
import Derived.OpenShut
import Derived.ChangeArms
import Derived.ChangeSlices
import Derived.DataReads
import Derived.SizedLaws
import Derived.Deep.Slices
import Derived.Stop.Joined
import Derived.SevenTiedAt
import Derived.FnData
import Derived.ShutString
namespace Go.Proofs.YtanmpioplckgbaaDoor
open Go.RowKit Go.Deep Go.ChangeShapes Go.WideShapes Go.ChangeAt
theorem own : ownKnob Tryd.prog.godebug = none := by kernel_rfl
theorem gShp : Tryd.prog.globalNamed "braid/lang.shapes" = some 0 := by kernel_rfl
theorem gOps : Tryd.prog.globalNamed "braid/word.opNames" = some 1 := by kernel_rfl
theorem gRels : Tryd.prog.globalNamed "braid/word.relNames" = some 2 := by kernel_rfl
theorem tShp : (Tryd.prog.globals[0]?).map (·.type) = some 73 := by kernel_rfl
theorem tOps : (Tryd.prog.globals[1]?).map (·.type) = some 93 := by kernel_rfl
theorem tRels : (Tryd.prog.globals[2]?).map (·.type) = some 116 := by kernel_rfl
def laid1 : List (String × DataW Unit) := [("braid/word.opNames", Rows.laid_braid_word_opNames), ("braid/word.relNames", Rows.laid_braid_word_relNames), ("braid/lang.shapes", Rows.laid_braid_lang_shapes)]
theorem door_met (os : Os) (args : Array Value) : laidMetH Tryd.prog laid1 ((World.doorLaid Tryd.prog 400 os).forCall (fun _ _ => 0) ⟨#[], args, []⟩).memory :=
  laidMetH_of_parts3 (fuel := 8) (laidMet_of_run' 8 (by kernel_rfl) (by kernel_rfl)) (by kernel_rfl) (by kernel_rfl)
/-- A table of texts that is laid: its cells. -/
theorem strs_cells {P : Program} {W : World} {H : Type} {enc : TypeId × Value → H} {spare : Nat → Bool} {held : Bool} {fuel : Nat} {t e : TypeId} {n g : Nat} {cs : Array Value} {name : String} {bs : List (List UInt8)} {q : List MemPlace}
    (ht : P.underlying t = some (.array n e)) (hs : P.underlying e = some .string) (ce : P.cellsOf e = 1) (hg : P.globalNamed name = some g) (hv : W.var? P name = some cs)
    (hd : DataW.trod enc P W 0 spare held fuel t cs.toList = some (.agg (bs.map fun b => .lit (.string b)), q)) (i : Nat) (hi : i < n) : W.cell? ⟨g, i, none⟩ = some (.string ⟨(bs.getD i []).toArray⟩) := by
  obtain ⟨xs, m, _, hx, hlen, hn, hel⟩ := DataW.trod_array ht hd
  simp only [Prod.mk.injEq, DataW.agg.injEq] at hx
  have h1 := hel i hi
  rw [ce, Nat.mul_one] at h1
  have hxi : i < xs.length := by omega
  rw [List.getElem?_eq_getElem hxi] at h1
  obtain ⟨s, e1, e2, _⟩ := DataW.trod_string hs h1
  rw [World.var?_cell hg hv i]
  have e3 : cs.toList[i]? = some (.string s) := by
    have : (cs.toList.drop i).take 1 = [.string s] := e1
    rw [List.take_one, List.head?_drop] at this
    cases h : cs.toList[i]? with
    | none => rw [h] at this; simp at this
    | some v => rw [h] at this; simpa using this
  have hb : (bs.map fun b => (DataW.lit (.string b) : DataW H))[i]? = some (.lit (.string s.data.toList)) := by
    rw [hx.1, List.getElem?_map, List.getElem?_eq_getElem hxi, e2]; rfl
  rw [List.getElem?_map] at hb
  cases hbi : bs[i]? with
  | none => rw [hbi] at hb; simp at hb
  | some b =>
    rw [hbi] at hb
    simp at hb
    have e4 : bs.getD i [] = s.data.toList := by rw [List.getD_eq_getElem?_getD, hbi, ← hb]; rfl
    rw [e4]
    simpa using e3

/-- Numbers that are laid as a slice. -/
theorem sli_of {P : Program} {W : World} {H : Type} {enc : TypeId × Value → H} {spare : Nat → Bool} {held : Bool} {fuel : Nat} {t e : TypeId} {v : Value} {l : List Int} {ss : List (DataW H)} {q : List MemPlace}
    (ht : P.underlying t = some (.slice e)) (he : P.underlying e = some (.int .i64)) (ce : P.cellsOf e = 1) (h : DataW.trod enc P W 0 spare held fuel t [v] = some (.slice (l.map fun x => .lit (.int .i64 x)) ss, q)) : SLI W v l := by
  rcases open_slice ht h with ⟨_, hx⟩ | ⟨a, len, cap, m, n, D, Pl, hcs, _, hl, _, hmm, hx, hel⟩
  · cases hx
  · simp at hcs
    subst hcs
    simp only [Prod.mk.injEq, DataW.slice.injEq] at hx
    obtain ⟨⟨hD, _⟩, _⟩ := hx
    have hlen : l.length = len := by simpa using congrArg List.length hD
    refine ⟨_, cap, by rw [hlen], fun j x hj => ?_⟩
    have hjl : j < l.length := (List.getElem?_eq_some_iff.1 hj).1
    have hjm : j < m := by rw [hmm]; split <;> omega
    obtain ⟨cs', h1, h2⟩ := hel j hjm
    rw [ce] at h1
    obtain ⟨_, hlc, hcell⟩ := World.cells?_some h1
    obtain ⟨n', r1, r2, _⟩ := DataW.trod_int he h2
    have hDj : D j = .lit (.int .i64 x) := by
      have := congrArg (fun k => k[j]?) hD
      simp [hj, show j < len by omega] at this
      exact this.symm
    have e2 : D j = .lit (.int .i64 n') := (show D j = .lit (.int .i64 n') ∧ Pl j = [] by simpa using r2).1
    have en : n' = x := by
      rw [hDj] at e2
      simpa using e2.symm
    subst r1
    have c0 := hcell 0 (by omega)
    rw [add_add] at c0
    simp at c0
    obtain ⟨cs0, g1, g2⟩ := hel 0 (by omega)
    rw [ce] at g1
    obtain ⟨_, _, hcell0⟩ := World.cells?_some g1
    obtain ⟨n0, s1, _, _⟩ := DataW.trod_int he g2
    subst s1
    have c00 := hcell0 0 (by omega)
    rw [add_add] at c00
    simp at c00
    obtain ⟨b, off, spot⟩ := a
    have hspot : spot = none := by simpa [Addr.add] using World.cell?_spot c00
    subst hspot
    rw [add_at] at c0
    exact ⟨b, off, rfl, by rw [c0, en]⟩
theorem sli_nil {P : Program} {W : World} {H : Type} {enc : TypeId × Value → H} {spare : Nat → Bool} {held : Bool} {fuel : Nat} {t e : TypeId} {v : Value} {q : List MemPlace}
    (ht : P.underlying t = some (.slice e)) (h : DataW.trod enc P W 0 spare held fuel t [v] = some (.nil, q)) : SLI W v [] := by
  rcases open_slice ht h with ⟨hv, _⟩ | ⟨a, len, cap, m, n, D, Pl, hcs, _, _, _, _, hx, _⟩
  · simp at hv
    subst hv
    exact ⟨none, 0, rfl, fun j x hj => by simp at hj⟩
  · cases hx
/-- A table of shapes that is laid. -/
theorem shp_cells {P : Program} {W : World} {H : Type} {enc : TypeId × Value → H} {spare : Nat → Bool} {held : Bool} {fuel : Nat} {t e : TypeId} {n g : Nat} {cs : Array Value} {name : String} {bs : List (DataW H)} {f0 f1 : Field} {q : List MemPlace}
    (ht : P.underlying t = some (.array n e)) (hs : P.underlying e = some (.struct #[f0, f1])) (ce : P.cellsOf e = 2) (o1 : f1.offset = 1) (c1 : P.cellsOf f1.type = 1) (hg : P.globalNamed name = some g) (hv : W.var? P name = some cs)
    (hd : DataW.trod enc P W 0 spare held fuel t cs.toList = some (.agg bs, q)) (i : Nat) (hi : i < n) {d0 d1 : DataW H} (hb : bs[i]? = some (.agg [d0, d1])) : ∃ v k p, W.cell? ⟨g, i * 2 + 1, none⟩ = some v ∧ DataW.trod enc P W 0 spare held k f1.type [v] = some (d1, p) := by
  obtain ⟨xs, m, _, hx, hlen, hn, hel⟩ := DataW.trod_array ht hd
  simp only [Prod.mk.injEq, DataW.agg.injEq] at hx
  have h1 := hel i hi
  rw [ce] at h1
  have hxi : i < xs.length := by omega
  rw [List.getElem?_eq_getElem hxi] at h1
  obtain ⟨y0, y1, k, e1, e2, _, e4⟩ := trod_struct2 hs h1
  rw [o1, c1] at e4
  have ed : y1.1 = d1 := by
    have hb2 := hb
    rw [hx.1, List.getElem?_map, List.getElem?_eq_getElem hxi, e1] at hb2
    simp at hb2
    exact hb2.2
  have e5 : (((cs.toList.drop (i * 2)).take 2).drop 1).take 1 = (cs.toList.drop (i * 2 + 1)).take 1 := by
    rw [List.drop_take, List.drop_drop, List.take_take]; simp
  rw [e5, List.take_one, List.head?_drop] at e4
  cases hc : cs.toList[i * 2 + 1]? with
  | none =>
    exfalso
    rw [ce] at e2
    have : cs.toList.length ≤ i * 2 + 1 := List.getElem?_eq_none_iff.1 hc
    simp at e2 this
    omega
  | some v =>
    rw [hc] at e4
    refine ⟨v, k, y1.2, ?_, ?_⟩
    · rw [World.var?_cell hg hv (i * 2 + 1)]
      simpa using hc
    · rw [← ed]; simpa using e4
/-- What the laid tables give the walk. -/
theorem of_laid {W : World} (h : laidMetH Tryd.prog laid1 W) : LT W := by
  rw [MakeChecks.laidMetH_plain _ _ _ (by kernel_rfl)] at h
  obtain ⟨ps, ⟨g0, t0, cs0, f0, p0, q0, hg0, ht0, hv0, hd0, ⟨g1, t1, cs1, f1, p1, q1, hg1, ht1, hv1, hd1, ⟨g2, t2, cs2, f2, p2, q2, hg2, ht2, hv2, hd2, _, _⟩, _⟩, _⟩, _, _⟩ := h
  obtain rfl := Option.some.inj (gOps.symm.trans hg0)
  obtain rfl := Option.some.inj (gRels.symm.trans hg1)
  obtain rfl := Option.some.inj (gShp.symm.trans hg2)
  obtain rfl := Option.some.inj (tOps.symm.trans ht0)
  obtain rfl := Option.some.inj (tRels.symm.trans ht1)
  obtain rfl := Option.some.inj (tShp.symm.trans ht2)
  have cS : Tryd.prog.cellsOf 9 = 1 := by kernel_rfl
  refine ⟨fun i hi => ?_, fun i hi => ?_, fun c h1 h2 => ?_⟩
  · have := strs_cells (bs := [[], [97, 100, 100], [115, 117, 98], [109, 117, 108], [100, 105, 118], [114, 101, 109], [97, 110, 100], [111, 114], [120, 111, 114], [115, 104, 108], [115, 104, 114], [109, 105, 110], [109, 97, 120]]) Tryd.underlying93 Tryd.underlying9 cS gOps hv0 hd0 i hi
    rw [this]
    have h13 : i = 0 ∨ i = 1 ∨ i = 2 ∨ i = 3 ∨ i = 4 ∨ i = 5 ∨ i = 6 ∨ i = 7 ∨ i = 8 ∨ i = 9 ∨ i = 10 ∨ i = 11 ∨ i = 12 := by omega
    rcases h13 with h | h | h | h | h | h | h | h | h | h | h | h | h <;> subst h <;> rfl
  · have := strs_cells (bs := [[], [61, 61], [33, 61], [60], [60, 61], [62], [62, 61]]) Tryd.underlying116 Tryd.underlying9 cS gRels hv1 hd1 i hi
    rw [this]
    have h7 : i = 0 ∨ i = 1 ∨ i = 2 ∨ i = 3 ∨ i = 4 ∨ i = 5 ∨ i = 6 := by omega
    rcases h7 with h | h | h | h | h | h | h <;> subst h <;> rfl
  · have cE : Tryd.prog.cellsOf 72 = 2 := by kernel_rfl
    have cI : Tryd.prog.cellsOf 75 = 1 := by kernel_rfl
    have sc := fun i hi d0 d1 hb => shp_cells (d0 := d0) (d1 := d1) Tryd.underlying73 Tryd.underlying72 cE rfl (by kernel_rfl) gShp hv2 hd2 i hi hb
    rcases (by omega : c = 1 ∨ c = 2 ∨ c = 3 ∨ c = 4 ∨ c = 5 ∨ c = 6 ∨ c = 7 ∨ c = 8 ∨ c = 9 ∨ c = 10) with rfl | rfl | rfl | rfl | rfl | rfl | rfl | rfl | rfl | rfl
    · obtain ⟨v, k, p, hv, ht⟩ := sc 1 (by decide) _ _ rfl
      exact ⟨v, hv, sli_of (l := [1, 2]) Tryd.underlying70 Tryd.underlying75 cI ht⟩
    · obtain ⟨v, k, p, hv, ht⟩ := sc 2 (by decide) _ _ rfl
      exact ⟨v, hv, sli_of (l := [1, 2]) Tryd.underlying70 Tryd.underlying75 cI ht⟩
    · obtain ⟨v, k, p, hv, ht⟩ := sc 3 (by decide) _ _ rfl
      exact ⟨v, hv, sli_of (l := [2, 3]) Tryd.underlying70 Tryd.underlying75 cI ht⟩
    · obtain ⟨v, k, p, hv, ht⟩ := sc 4 (by decide) _ _ rfl
      exact ⟨v, hv, sli_of (l := [2]) Tryd.underlying70 Tryd.underlying75 cI ht⟩
    · obtain ⟨v, k, p, hv, ht⟩ := sc 5 (by decide) _ _ rfl
      exact ⟨v, hv, sli_of (l := [1, 3]) Tryd.underlying70 Tryd.underlying75 cI ht⟩
    · obtain ⟨v, k, p, hv, ht⟩ := sc 6 (by decide) _ _ rfl
      exact ⟨v, hv, sli_of (l := [1, 3, 4]) Tryd.underlying70 Tryd.underlying75 cI ht⟩
    · obtain ⟨v, k, p, hv, ht⟩ := sc 7 (by decide) _ _ rfl
      exact ⟨v, hv, sli_of (l := [3, 5, 4, 6]) Tryd.underlying70 Tryd.underlying75 cI ht⟩
    · obtain ⟨v, k, p, hv, ht⟩ := sc 8 (by decide) _ _ rfl
      exact ⟨v, hv, sli_of (l := [6]) Tryd.underlying70 Tryd.underlying75 cI ht⟩
    · obtain ⟨v, k, p, hv, ht⟩ := sc 9 (by decide) _ _ rfl
      exact ⟨v, hv, sli_nil Tryd.underlying70 ht⟩
    · obtain ⟨v, k, p, hv, ht⟩ := sc 10 (by decide) _ _ rfl
      exact ⟨v, hv, sli_of (l := [3]) Tryd.underlying70 Tryd.underlying75 cI ht⟩
end Go.Proofs.YtanmpioplckgbaaDoor
