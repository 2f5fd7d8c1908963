import Derived.Test.YtchbhmolnoggfaaGreatDoorG20
import Derived.Test.YtchbhmolnoggfaaGreatDoorG05
import Derived.Test.YtchbhmolnoggfaaGreatDoorG21
import Derived.Test.YtchbhmolnoggfaaGreatDoorG01
import Derived.Test.YtchbhmolnoggfaaGreatDoorTie
import Derived.Test.YtchbhmolnoggfaaGreatDoorCards
import Derived.ProofKit
import Derived.LaidMore
import Derived.OpenShut
import Derived.ChangeArms
import Derived.ChangeSlices
import Derived.DataReads
import Derived.SizedLaws
import Derived.Deep.Slices
import Derived.Stop.Joined
import Derived.SevenTiedAt
import Derived.FnData
import Derived.ShutString
import Derived.Test.YtchbhmolnoggfaaGreatDoorG03
import Derived.HandedShaped
import Derived.Shelf.Vars
namespace Go.Proofs.YtchbhmolnoggfaaGreatDoor
open Go.RowKit Go.Deep Go.ChangeShapes Go.WideShapes Go.ChangeAt
attribute [local go_sem] Oper.semAt_some run_store_nf run_store_f
theorem isl_of_owns_q {W : World} {base n : Nat} {v : Value} {l : List Ins} (h : W.ownsRow base 59 11 v n (icl l)) (hn : l.length = n) : ∃ a cap, v = .slice a n cap ∧ ISL W a l := by
  rcases h.2 with ⟨rfl, h0⟩ | ⟨g, cap, cur, rfl, _⟩
  · have hz : n = 0 := by first | exact h0.1 | omega
    subst hz
    exact ⟨none, 0, rfl, fun i hi => by omega⟩
  · refine ⟨_, cap, rfl, fun i hi => ⟨g, 0, rfl, fun j v hv => ?_⟩⟩
    have e := icl_get l i j v hi hv
    have hc := h.cells (g := g) rfl (i * 11 + j) v e
    rw [add_at] at hc
    rw [Nat.zero_add] at hc ⊢
    exact hc
theorem back_q {W : World} {base : Nat} {v : Value} {l : List Ins} (h : W.ownsRow base 65 11 v l.length (icl l)) (hb : l.length * 88 ≤ 140737488355328) : Calls Tryz.prog 7 #[v] W fun e w' => ∃ a cap, e = .returned (.slice a l.length cap) ∧ ISL w' a l ∧ Keeps (fun _ => False) W w' := by
  obtain ⟨a, cap, rfl, hI⟩ := isl_of_owns h rfl
  refine (backs_any hI hb).mono (fun e w' ⟨v, e1, ho, k⟩ => ?_)
  obtain ⟨a', cap', rfl, hI'⟩ := isl_of_owns_q ho rfl
  exact ⟨a', cap', e1, hI', k⟩
set_option maxHeartbeats 2000000 in
set_option maxRecDepth 1000000 in
theorem parses_any {w : World} (hT : PT w) (hNT : NT w) (s : ByteArray) (hs : s.size ≤ 9223372036854775807) :
    Calls Tryz.prog 3 #[.string s] w fun e w' => e = .returned (.bool true) ∧ Below w.heap.size w w' := by
  have HFx : Hid (∀ W, Keeps (fun _ => False) w W → Calls Tryz.prog 8 #[] W fun e w' => e = .returned (.bool true) ∧ Keeps (fun _ => False) W w') := fun W k => fixed_ok (hT.keep k) (hNT.keep k)
  obtain ⟨l, hl⟩ : ∃ l, prL (prsR s) = l := ⟨_, rfl⟩
  obtain ⟨⟨F1, F2, F3⟩, hF⟩ : ∃ F, prF (prsR s) = F := ⟨_, rfl⟩
  have HPa : Hid (∀ W, Keeps (fun _ => False) w W → Calls Tryz.prog 4 #[.string s] W fun e w' => ∃ v, e = .returned (.tuple #[v, .agg #[.int .i64 F1, .int .i64 F2, .int .i64 F3]]) ∧ w'.ownsRow W.heap.size 65 11 v l.length (icl l) ∧ Keeps (fun _ => False) W w' ∧ l.length ≤ 64) := fun W k => by
    have := parse_all (w := W) s hs (hT.keep k) (hNT.keep k)
    rw [hl, hF] at this
    exact this
  have HRp : Hid (∀ W, Calls Tryz.prog 5 #[.string s] W fun e w' => ∃ a cap, e = .returned (.tuple #[.slice a l.length cap, .agg #[.int .i64 F1, .int .i64 F2, .int .i64 F3]]) ∧ ISL w' a l ∧ Keeps (fun _ => False) W w') := fun W => by
    have := rparse_T (w := W) s hs
    rw [hl, hF] at this
    refine this.mono (fun e w' ⟨v, e1, ho, k⟩ => ?_)
    obtain ⟨a', cap', rfl, hI'⟩ := isl_of_owns_q ho rfl
    exact ⟨a', cap', e1, hI', k⟩
  have HBk : Hid (∀ W base v, l.length ≤ 64 → W.ownsRow base 65 11 v l.length (icl l) → Calls Tryz.prog 7 #[v] W fun e w' => ∃ a cap, e = .returned (.slice a l.length cap) ∧ ISL w' a l ∧ Keeps (fun _ => False) W w') := fun W base v h64 h => back_q h (by omega)
  have HSm : Hid (∀ W a1 c1 a2 c2, l.length ≤ 64 → ISL W a1 l → ISL W a2 l → Calls Tryz.prog 6 #[.slice a1 l.length c1, .slice a2 l.length c2] W fun e w' => e = .returned (.bool true) ∧ Keeps (fun _ => False) W w') := fun W a1 c1 a2 c2 h64 h1 h2 => same_any h1 h2 (by omega)
  clear hT hNT hs hl hF
  generalize l.length = N at *
  go_enter Tryz.func3, Tryz.ntmps3
  go_wp2_with (first | (go_at_call 4; refine (HPa.out _ (Keeps.refl _ w)).mono ?_; clear HPa; rintro e w2 ⟨v2, rfl, ho2, k2, h64⟩; have H64 : Hid (N ≤ 64) := h64; clear h64; have ho3 := ((Keeps.refl (fun _ => False) w2).alloc (.cells #[.int .i64 F1, .int .i64 F2, .int .i64 F3] 25)).owns ho2 (fun _ _ e => e); have K3 : Keeps (fun _ => False) w (w2.alloc (.cells #[.int .i64 F1, .int .i64 F2, .int .i64 F3] 25)) := k2.alloc _) | (go_at_call 5; refine (HRp.out _).mono ?_; clear HRp; rintro e w4 ⟨a4, c4, rfl, hI4, k4⟩; have K5 : Keeps (fun _ => False) w (w4.alloc (.cells #[.int .i64 F1, .int .i64 F2, .int .i64 F3] 30)) := (K3.trans k4).alloc _; have ho5 := (k4.alloc (.cells #[.int .i64 F1, .int .i64 F2, .int .i64 F3] 30)).owns ho3 (fun _ _ e => e); have hI5 := hI4.keep ((Keeps.refl (fun _ => False) w4).alloc (.cells #[.int .i64 F1, .int .i64 F2, .int .i64 F3] 30)); have m5 := ((CL.made w2 [.int .i64 F1, .int .i64 F2, .int .i64 F3] 25).keep (by show 0 < 3; decide) k4 (fun e => e)).alloc (by show 0 < 3; decide) (.cells #[.int .i64 F1, .int .i64 F2, .int .i64 F3] 30); have z0 := m5.c 0 _ rfl; have z1 := m5.c 1 _ rfl; have z2 := m5.c 2 _ rfl) | (go_at_call 7; refine (HBk.out _ _ _ H64.out ho5).mono ?_; clear HBk; rintro e w6 ⟨a6, c6, rfl, hI6, k6⟩; have hI6' := hI5.keep k6) | (go_at_call 6; refine (HSm.out _ _ _ _ _ H64.out hI6 hI6').mono ?_; clear HSm; rintro e w7 ⟨rfl, k7⟩; have K7 := (K5.trans k6).trans k7) | (go_at_call 8; refine (HFx.out _ K7).mono ?_; clear HFx; rintro e w8 ⟨rfl, k8⟩))
  go_ret
  exact ⟨rfl, (K7.trans k8).below (Nat.le_refl _) (fun _ _ e => e)⟩
end Go.Proofs.YtchbhmolnoggfaaGreatDoor

namespace Go.Proofs.YtchbhmolnoggfaaGreatDoor
open Go.RowKit Go.Deep Go.ChangeShapes Go.WideShapes Go.ChangeAt
theorem own : ownKnob Tryz.prog.godebug = none := by kernel_rfl
theorem gShp : Tryz.prog.globalNamed "braid/lang.shapes" = some 0 := by kernel_rfl
theorem gOps : Tryz.prog.globalNamed "braid/word.opNames" = some 1 := by kernel_rfl
theorem gRels : Tryz.prog.globalNamed "braid/word.relNames" = some 3 := by kernel_rfl
theorem tShp : (Tryz.prog.globals[0]?).map (·.type) = some 96 := by kernel_rfl
theorem tOps : (Tryz.prog.globals[1]?).map (·.type) = some 121 := by kernel_rfl
theorem tRels : (Tryz.prog.globals[3]?).map (·.type) = some 137 := by kernel_rfl
def laid1 : List (String × DataW Unit) := [("braid/word.opNames", Rows.laid_braid_word_opNames), ("braid/word.relNames", Rows.laid_braid_word_relNames), ("braid/lang.shapes", Rows.laid_braid_lang_shapes)]
theorem strs_cells {P : Program} {W : World} {H : Type} {enc : TypeId × Value → H} {spare : Nat → Bool} {held : Bool} {fuel : Nat} {t e : TypeId} {n g : Nat} {cs : Array Value} {name : String} {bs : List (List UInt8)} {q : List MemPlace}
    (ht : P.underlying t = some (.array n e)) (hs : P.underlying e = some .string) (ce : P.cellsOf e = 1) (hg : P.globalNamed name = some g) (hv : W.var? P name = some cs)
    (hd : DataW.trod enc P W 0 spare held fuel t cs.toList = some (.agg (bs.map fun b => .lit (.string b)), q)) (i : Nat) (hi : i < n) : W.cell? ⟨g, i, none⟩ = some (.string ⟨(bs.getD i []).toArray⟩) := by
  obtain ⟨xs, m, _, hx, hlen, hn, hel⟩ := DataW.trod_array ht hd
  simp only [Prod.mk.injEq, DataW.agg.injEq] at hx
  have h1 := hel i hi
  rw [ce, Nat.mul_one] at h1
  have hxi : i < xs.length := by omega
  rw [List.getElem?_eq_getElem hxi] at h1
  obtain ⟨s, e1, e2, _⟩ := DataW.trod_string hs h1
  rw [World.var?_cell hg hv i]
  have e3 : cs.toList[i]? = some (.string s) := by
    have : (cs.toList.drop i).take 1 = [.string s] := e1
    rw [List.take_one, List.head?_drop] at this
    cases h : cs.toList[i]? with
    | none => rw [h] at this; simp at this
    | some v => rw [h] at this; simpa using this
  have hb : (bs.map fun b => (DataW.lit (.string b) : DataW H))[i]? = some (.lit (.string s.data.toList)) := by
    rw [hx.1, List.getElem?_map, List.getElem?_eq_getElem hxi, e2]; rfl
  rw [List.getElem?_map] at hb
  cases hbi : bs[i]? with
  | none => rw [hbi] at hb; simp at hb
  | some b =>
    rw [hbi] at hb
    simp at hb
    have e4 : bs.getD i [] = s.data.toList := by rw [List.getD_eq_getElem?_getD, hbi, ← hb]; rfl
    rw [e4]
    simpa using e3
theorem sli_of {P : Program} {W : World} {H : Type} {enc : TypeId × Value → H} {spare : Nat → Bool} {held : Bool} {fuel : Nat} {t e : TypeId} {v : Value} {l : List Int} {ss : List (DataW H)} {q : List MemPlace}
    (ht : P.underlying t = some (.slice e)) (he : P.underlying e = some (.int .i64)) (ce : P.cellsOf e = 1) (h : DataW.trod enc P W 0 spare held fuel t [v] = some (.slice (l.map fun x => .lit (.int .i64 x)) ss, q)) : SLI W v l := by
  rcases open_slice ht h with ⟨_, hx⟩ | ⟨a, len, cap, m, n, D, Pl, hcs, _, hl, _, hmm, hx, hel⟩
  · cases hx
  · simp at hcs
    subst hcs
    simp only [Prod.mk.injEq, DataW.slice.injEq] at hx
    obtain ⟨⟨hD, _⟩, _⟩ := hx
    have hlen : l.length = len := by simpa using congrArg List.length hD
    refine ⟨_, cap, by rw [hlen], fun j x hj => ?_⟩
    have hjl : j < l.length := (List.getElem?_eq_some_iff.1 hj).1
    have hjm : j < m := by rw [hmm]; split <;> omega
    obtain ⟨cs', h1, h2⟩ := hel j hjm
    rw [ce] at h1
    obtain ⟨_, hlc, hcell⟩ := World.cells?_some h1
    obtain ⟨n', r1, r2, _⟩ := DataW.trod_int he h2
    have hDj : D j = .lit (.int .i64 x) := by
      have := congrArg (fun k => k[j]?) hD
      simp [hj, show j < len by omega] at this
      exact this.symm
    have e2 : D j = .lit (.int .i64 n') := (show D j = .lit (.int .i64 n') ∧ Pl j = [] by simpa using r2).1
    have en : n' = x := by
      rw [hDj] at e2
      simpa using e2.symm
    subst r1
    have c0 := hcell 0 (by omega)
    rw [add_add] at c0
    simp at c0
    obtain ⟨cs0, g1, g2⟩ := hel 0 (by omega)
    rw [ce] at g1
    obtain ⟨_, _, hcell0⟩ := World.cells?_some g1
    obtain ⟨n0, s1, _, _⟩ := DataW.trod_int he g2
    subst s1
    have c00 := hcell0 0 (by omega)
    rw [add_add] at c00
    simp at c00
    obtain ⟨b, off, spot⟩ := a
    have hspot : spot = none := by simpa [Addr.add] using World.cell?_spot c00
    subst hspot
    rw [add_at] at c0
    exact ⟨b, off, rfl, by rw [c0, en]⟩
theorem sli_nil {P : Program} {W : World} {H : Type} {enc : TypeId × Value → H} {spare : Nat → Bool} {held : Bool} {fuel : Nat} {t e : TypeId} {v : Value} {q : List MemPlace}
    (ht : P.underlying t = some (.slice e)) (h : DataW.trod enc P W 0 spare held fuel t [v] = some (.nil, q)) : SLI W v [] := by
  rcases open_slice ht h with ⟨hv, _⟩ | ⟨a, len, cap, m, n, D, Pl, hcs, _, _, _, _, hx, _⟩
  · simp at hv
    subst hv
    exact ⟨none, 0, rfl, fun j x hj => by simp at hj⟩
  · cases hx
theorem shp_cells {P : Program} {W : World} {H : Type} {enc : TypeId × Value → H} {spare : Nat → Bool} {held : Bool} {fuel : Nat} {t e : TypeId} {n g : Nat} {cs : Array Value} {name : String} {bs : List (DataW H)} {f0 f1 : Field} {q : List MemPlace}
    (ht : P.underlying t = some (.array n e)) (hs : P.underlying e = some (.struct #[f0, f1])) (ce : P.cellsOf e = 2) (o1 : f1.offset = 1) (c1 : P.cellsOf f1.type = 1) (hg : P.globalNamed name = some g) (hv : W.var? P name = some cs)
    (hd : DataW.trod enc P W 0 spare held fuel t cs.toList = some (.agg bs, q)) (i : Nat) (hi : i < n) {d0 d1 : DataW H} (hb : bs[i]? = some (.agg [d0, d1])) : ∃ v k p, W.cell? ⟨g, i * 2 + 1, none⟩ = some v ∧ DataW.trod enc P W 0 spare held k f1.type [v] = some (d1, p) := by
  obtain ⟨xs, m, _, hx, hlen, hn, hel⟩ := DataW.trod_array ht hd
  simp only [Prod.mk.injEq, DataW.agg.injEq] at hx
  have h1 := hel i hi
  rw [ce] at h1
  have hxi : i < xs.length := by omega
  rw [List.getElem?_eq_getElem hxi] at h1
  obtain ⟨y0, y1, k, e1, e2, _, e4⟩ := trod_struct2 hs h1
  rw [o1, c1] at e4
  have ed : y1.1 = d1 := by
    have hb2 := hb
    rw [hx.1, List.getElem?_map, List.getElem?_eq_getElem hxi, e1] at hb2
    simp at hb2
    exact hb2.2
  have e5 : (((cs.toList.drop (i * 2)).take 2).drop 1).take 1 = (cs.toList.drop (i * 2 + 1)).take 1 := by
    rw [List.drop_take, List.drop_drop, List.take_take]; simp
  rw [e5, List.take_one, List.head?_drop] at e4
  cases hc : cs.toList[i * 2 + 1]? with
  | none =>
    exfalso
    rw [ce] at e2
    have : cs.toList.length ≤ i * 2 + 1 := List.getElem?_eq_none_iff.1 hc
    simp at e2 this
    omega
  | some v =>
    rw [hc] at e4
    refine ⟨v, k, y1.2, ?_, ?_⟩
    · rw [World.var?_cell hg hv (i * 2 + 1)]
      simpa using hc
    · rw [← ed]; simpa using e4
end Go.Proofs.YtchbhmolnoggfaaGreatDoor

namespace Go.Proofs.YtchbhmolnoggfaaGreatDoor
open Go.RowKit Go.Deep Go.ChangeShapes Go.WideShapes Go.ChangeAt
end Go.Proofs.YtchbhmolnoggfaaGreatDoor

namespace Go.Proofs.YtchbhmolnoggfaaGreatDoor
open Go.ChangeShapes Go.WideShapes Go.ChangeAt Go.RowKit Go.Deep Go.Shelf
theorem gErr : Tryz.prog.globalNamed "strconv.ErrRange" = some 7 := by kernel_rfl
theorem tErr : (Tryz.prog.globals[7]?).map (·.type) = some 134 := by kernel_rfl
def laid10 : List (String × DataW Unit) := [("math/bits.deBruijn32tab", Rows.laid_math_bits_deBruijn32tab), ("math/bits.deBruijn64tab", Rows.laid_math_bits_deBruijn64tab), ("internal/strconv.uint64pow10", Rows.laid_internal_strconv_uint64pow10), ("unicode/utf8.acceptRanges", Rows.laid_unicode_utf8_acceptRanges), ("strconv.ErrRange", Rows.laid_strconv_ErrRange), ("strconv.ErrSyntax", Rows.laid_strconv_ErrSyntax), ("braid/word.opNames", Rows.laid_braid_word_opNames), ("braid/word.relNames", Rows.laid_braid_word_relNames), ("braid/lang.shapes", Rows.laid_braid_lang_shapes), ("unicode/utf8.first", Rows.laid_unicode_utf8_first)]
theorem iface_of' {H : Type} {enc : TypeId × Value → H} {P : Program} {W : World} {base fuel : Nat} {spare : Nat → Bool} {held : Bool} {t : TypeId} {ms : Array (String × TypeId)} {cs : Array Value} {nm : String} {d : DataW H} {q : List MemPlace}
    (ht : P.underlying t = some (.interface ms)) (h : DataW.trod enc P W base spare held fuel t cs.toList = some (.iface nm d, q)) : ∃ tp p, cs = #[.iface tp p] := by
  cases fuel with
  | zero => simp [DataW.trod] at h
  | succ n =>
    obtain ⟨l⟩ := cs
    simp only at h
    match l, h with
    | [], h => simp [DataW.trod, ht] at h
    | [v], h =>
      cases v <;> first | exact ⟨_, _, rfl⟩ | (exfalso; simp [DataW.trod, ht] at h; done) | (exfalso; cases held <;> simp [DataW.trod, ht] at h)
    | a :: b :: r, h => simp [DataW.trod, ht] at h
theorem shp_name {P : Program} {W : World} {H : Type} {enc : TypeId × Value → H} {spare : Nat → Bool} {held : Bool} {fuel : Nat} {t e : TypeId} {n g : Nat} {cs : Array Value} {name : String} {bs : List (DataW H)} {f0 f1 : Field} {q : List MemPlace}
    (ht : P.underlying t = some (.array n e)) (hs : P.underlying e = some (.struct #[f0, f1])) (ce : P.cellsOf e = 2) (o0 : f0.offset = 0) (c0 : P.cellsOf f0.type = 1) (hst : P.underlying f0.type = some .string) (hg : P.globalNamed name = some g) (hv : W.var? P name = some cs)
    (hd : DataW.trod enc P W 0 spare held fuel t cs.toList = some (.agg bs, q)) (i : Nat) (hi : i < n) {b : List UInt8} {d1 : DataW H} (hb : bs[i]? = some (.agg [.lit (.string b), d1])) : W.cell? ⟨g, i * 2, none⟩ = some (.string ⟨b.toArray⟩) := by
  obtain ⟨xs, m, _, hx, hlen, hn, hel⟩ := DataW.trod_array ht hd
  simp only [Prod.mk.injEq, DataW.agg.injEq] at hx
  have h1 := hel i hi
  rw [ce] at h1
  have hxi : i < xs.length := by omega
  rw [List.getElem?_eq_getElem hxi] at h1
  obtain ⟨y0, y1, k, e1, e2, e3, _⟩ := trod_struct2 hs h1
  rw [o0, c0] at e3
  have ed : y0.1 = .lit (.string b) := by
    have hb2 := hb
    rw [hx.1, List.getElem?_map, List.getElem?_eq_getElem hxi, e1] at hb2
    simp at hb2
    exact hb2.1
  have e5 : (((cs.toList.drop (i * 2)).take 2).drop 0).take 1 = (cs.toList.drop (i * 2)).take 1 := by
    rw [List.drop_zero, List.take_take]; simp
  rw [e5, List.take_one, List.head?_drop] at e3
  cases hc : cs.toList[i * 2]? with
  | none =>
    exfalso
    rw [ce] at e2
    have : cs.toList.length ≤ i * 2 := List.getElem?_eq_none_iff.1 hc
    simp at e2 this
    omega
  | some v =>
    rw [hc] at e3
    obtain ⟨s, s1, s2, _⟩ := DataW.trod_string hst e3
    have e6 : v = .string s := by simpa using s1
    rw [World.var?_cell hg hv (i * 2)]
    have e7 : s.data.toList = b := by
      rw [s2] at ed
      simpa using ed
    rw [← e7]
    have e8 : cs[i * 2]? = some v := by simpa using hc
    rw [e8, e6]
theorem of_laid10 {W : World} (h : laidMetH Tryz.prog laid10 W) (hsh : W.ShapedOpen Tryz.prog) : PT W ∧ NT W := by
  rw [MakeChecks.laidMetH_plain _ _ _ (by kernel_rfl)] at h
  obtain ⟨ps, ⟨g0, t0, cs0, f0, p0, q0, hg0, ht0, hv0, hd0, ⟨g1, t1, cs1, f1, p1, q1, hg1, ht1, hv1, hd1, ⟨g2, t2, cs2, f2, p2, q2, hg2, ht2, hv2, hd2, ⟨g3, t3, cs3, f3, p3, q3, hg3, ht3, hv3, hd3, ⟨g4, t4, cs4, f4, p4, q4, hg4, ht4, hv4, hd4, ⟨g5, t5, cs5, f5, p5, q5, hg5, ht5, hv5, hd5, ⟨g6, t6, cs6, f6, p6, q6, hg6, ht6, hv6, hd6, ⟨g7, t7, cs7, f7, p7, q7, hg7, ht7, hv7, hd7, ⟨g8, t8, cs8, f8, p8, q8, hg8, ht8, hv8, hd8, ⟨g9, t9, cs9, f9, p9, q9, hg9, ht9, hv9, hd9, _, _⟩, _⟩, _⟩, _⟩, _⟩, _⟩, _⟩, _⟩, _⟩, _⟩, _, _⟩ := h
  obtain rfl := Option.some.inj (gErr.symm.trans hg4)
  obtain rfl := Option.some.inj (tErr.symm.trans ht4)
  obtain rfl := Option.some.inj (gOps.symm.trans hg6)
  obtain rfl := Option.some.inj (gRels.symm.trans hg7)
  obtain rfl := Option.some.inj (gShp.symm.trans hg8)
  obtain rfl := Option.some.inj (tOps.symm.trans ht6)
  obtain rfl := Option.some.inj (tRels.symm.trans ht7)
  obtain rfl := Option.some.inj (tShp.symm.trans ht8)
  refine ⟨⟨?_, ?_, ?_⟩, ?_⟩
  · clear hd0 hd1 hd2 hd3 hd4 hd5 hd9
    have cS : Tryz.prog.cellsOf 9 = 1 := by kernel_rfl
    refine ⟨fun i hi => ?_, fun i hi => ?_, fun c h1 h2 => ?_⟩
    · have := strs_cells (bs := [[], [97, 100, 100], [115, 117, 98], [109, 117, 108], [100, 105, 118], [114, 101, 109], [97, 110, 100], [111, 114], [120, 111, 114], [115, 104, 108], [115, 104, 114], [109, 105, 110], [109, 97, 120]]) Tryz.underlying121 Tryz.underlying9 cS gOps hv6 hd6 i hi
      rw [this]
      have h13 : i = 0 ∨ i = 1 ∨ i = 2 ∨ i = 3 ∨ i = 4 ∨ i = 5 ∨ i = 6 ∨ i = 7 ∨ i = 8 ∨ i = 9 ∨ i = 10 ∨ i = 11 ∨ i = 12 := by omega
      rcases h13 with h | h | h | h | h | h | h | h | h | h | h | h | h <;> subst h <;> rfl
    · have := strs_cells (bs := [[], [61, 61], [33, 61], [60], [60, 61], [62], [62, 61]]) Tryz.underlying137 Tryz.underlying9 cS gRels hv7 hd7 i hi
      rw [this]
      have h7 : i = 0 ∨ i = 1 ∨ i = 2 ∨ i = 3 ∨ i = 4 ∨ i = 5 ∨ i = 6 := by omega
      rcases h7 with h | h | h | h | h | h | h <;> subst h <;> rfl
    · have cE : Tryz.prog.cellsOf 95 = 2 := by kernel_rfl
      have cI : Tryz.prog.cellsOf 97 = 1 := by kernel_rfl
      have sc := fun i hi d0 d1 hb => shp_cells (d0 := d0) (d1 := d1) Tryz.underlying96 Tryz.underlying95 cE rfl (by kernel_rfl) gShp hv8 hd8 i hi hb
      rcases (by omega : c = 1 ∨ c = 2 ∨ c = 3 ∨ c = 4 ∨ c = 5 ∨ c = 6 ∨ c = 7 ∨ c = 8 ∨ c = 9 ∨ c = 10) with rfl | rfl | rfl | rfl | rfl | rfl | rfl | rfl | rfl | rfl
      · obtain ⟨v, k, p, hv, ht⟩ := sc 1 (by decide) _ _ rfl
        exact ⟨v, hv, sli_of (l := [1, 2]) Tryz.underlying93 Tryz.underlying97 cI ht⟩
      · obtain ⟨v, k, p, hv, ht⟩ := sc 2 (by decide) _ _ rfl
        exact ⟨v, hv, sli_of (l := [1, 2]) Tryz.underlying93 Tryz.underlying97 cI ht⟩
      · obtain ⟨v, k, p, hv, ht⟩ := sc 3 (by decide) _ _ rfl
        exact ⟨v, hv, sli_of (l := [2, 3]) Tryz.underlying93 Tryz.underlying97 cI ht⟩
      · obtain ⟨v, k, p, hv, ht⟩ := sc 4 (by decide) _ _ rfl
        exact ⟨v, hv, sli_of (l := [2]) Tryz.underlying93 Tryz.underlying97 cI ht⟩
      · obtain ⟨v, k, p, hv, ht⟩ := sc 5 (by decide) _ _ rfl
        exact ⟨v, hv, sli_of (l := [1, 3]) Tryz.underlying93 Tryz.underlying97 cI ht⟩
      · obtain ⟨v, k, p, hv, ht⟩ := sc 6 (by decide) _ _ rfl
        exact ⟨v, hv, sli_of (l := [1, 3, 4]) Tryz.underlying93 Tryz.underlying97 cI ht⟩
      · obtain ⟨v, k, p, hv, ht⟩ := sc 7 (by decide) _ _ rfl
        exact ⟨v, hv, sli_of (l := [3, 5, 4, 6]) Tryz.underlying93 Tryz.underlying97 cI ht⟩
      · obtain ⟨v, k, p, hv, ht⟩ := sc 8 (by decide) _ _ rfl
        exact ⟨v, hv, sli_of (l := [6]) Tryz.underlying93 Tryz.underlying97 cI ht⟩
      · obtain ⟨v, k, p, hv, ht⟩ := sc 9 (by decide) _ _ rfl
        exact ⟨v, hv, sli_nil Tryz.underlying93 ht⟩
      · obtain ⟨v, k, p, hv, ht⟩ := sc 10 (by decide) _ _ rfl
        exact ⟨v, hv, sli_of (l := [3]) Tryz.underlying93 Tryz.underlying97 cI ht⟩
  · obtain ⟨tp, p, rfl⟩ := iface_of' Tryz.underlying134 hd4
    exact ⟨tp, p, hv4⟩
  · exact cell_of_shapedOpen_int (P := Tryz.prog) (g := 2) (t := 3) (zero := #[.int .i64 0]) hsh (of_decide_eq_true (by kernel_rfl)) (by kernel_rfl) rfl (by kernel_rfl) (by kernel_rfl) Tryz.underlying3
  · intro c h1 h2
    have cE : Tryz.prog.cellsOf 95 = 2 := by kernel_rfl
    have sc := fun i hi b d1 hb => shp_name (b := b) (d1 := d1) Tryz.underlying96 Tryz.underlying95 cE rfl (by kernel_rfl) (by kernel_rfl) gShp hv8 hd8 i hi hb
    rcases (by omega : c = 1 ∨ c = 2 ∨ c = 3 ∨ c = 4 ∨ c = 5 ∨ c = 6 ∨ c = 7 ∨ c = 8 ∨ c = 9 ∨ c = 10) with rfl | rfl | rfl | rfl | rfl | rfl | rfl | rfl | rfl | rfl
    · exact sc 1 (by decide) [103, 101, 116] _ rfl
    · exact sc 2 (by decide) [116, 97, 107, 101] _ rfl
    · exact sc 3 (by decide) [112, 117, 116] _ rfl
    · exact sc 4 (by decide) [100, 114, 111, 112] _ rfl
    · exact sc 5 (by decide) [108, 101, 116] _ rfl
    · exact sc 6 (by decide) [] _ rfl
    · exact sc 7 (by decide) [105, 102] _ rfl
    · exact sc 8 (by decide) [103, 111, 116, 111] _ rfl
    · exact sc 9 (by decide) [113, 117, 105, 116] _ rfl
    · exact sc 10 (by decide) [100, 111, 110, 101] _ rfl
theorem wrap_both {H : Type} {enc : TypeId × Value → H} {a : Assume} {C : Checked} {os : Os} {f : FuncId} {fn : Func} {s : ChangeSpec} {conds : List PathCond} {apart fresh handsOn again : Bool} {X : World → Array Value → Prop}
    (hX : ∀ (w w' : World) (args : Array Value), w.heap = w'.heap → X w args → X w' args)
    (own : ownKnob C.prog.godebug = none) (started : os.Started) (noInit : C.prog.inits.idxOf? f = none) (hfn : C.prog.funcs[f]? = some fn)
    (witness : ∃ (w : World) (tape : Tape) (i : Input), w.os = os ∧ (w.forCall tape i).Shaped C.prog ∧ i.vars = [] ∧ Input.okWide C.prog (w.forCall tape i) .any w.heap.size f i ∧
      ((s.pre enc C.prog fn conds apart (w.forCall tape i).memory i.args ∧ X (w.forCall tape i).memory i.args) ∧ sizedMet enc C.prog fn (OpenSpec.ofChange s) apart (w.forCall tape i).memory i.args) ∧ a.holds C.prog (lone (Frame.enter C.prog f i.args .normal) [] (w.forCall tape i)))
    (contract : ∀ (W : World) (base : Nat) (args : Array Value) (ds gs : List (DataW H)) (before : List MemPlace),
      (∀ (j : Nat) t v, fn.params[j]? = some t → args[j]? = some v → Value.okWide C.prog W .any base t v) →
      DataW.Whole enc C.prog fn.params.toList s.vars apart W args.toList ds gs before →
      (DataW.weightsEach C.prog (fn.params.toList ++ s.plain.varTypes C.prog) (ds ++ gs)).all (· ≤ reachBytes) = true → X W args → W.ShapedOpen C.prog →
      Calls C.prog f args W fun e W' => ∃ v, e = .returned v ∧ s.post enc C.prog fn apart fresh handsOn again W args v W') :
    ReturnsInHanded a C os f .any (fun w args => (s.pre enc C.prog fn conds apart w args ∧ X w args) ∧ sizedMet enc C.prog fn (OpenSpec.ofChange s) apart w args) (s.post enc C.prog fn apart fresh handsOn again) := by
  refine returnsInHanded_of_calls own started noInit witness ?_
  intro w tape i _ hsh _ hok hpre _
  obtain ⟨_, _, _, fn', hfn', _, _, _, _, hval⟩ := hok
  obtain rfl : fn' = fn := Option.some.inj (hfn'.symm.trans hfn)
  obtain ⟨⟨⟨ds, gs, before, hw, _⟩, hx⟩, hz⟩ := hpre
  refine (contract (w.forCall tape i) w.heap.size i.args ds gs before hval (DataW.Whole.of_heap (by rfl) hw) (hz.weights hw) (hX _ _ _ (by rfl) hx) hsh).mono fun e W' ⟨v, he, hp⟩ => ?_
  subst he
  exact ChangeSpec.post_blind hp
end Go.Proofs.YtchbhmolnoggfaaGreatDoor

