import Derived.Test.YthmoimilhbmagabDoorCalled
import Derived.Test.YthmoimilhbmagabDoorRows
import Derived.Test.YthmoimilhbmagabDoorTie
import Derived.Test.YthmoimilhbmagabDoorCards
import Derived.ProofKit
import Derived.LaidMore
import Derived.OpenShut
import Derived.Stop.Joined
import Derived.SevenTiedAt
import Derived.FnData
import Derived.ShutString
namespace Go.Proofs.YthmoimilhbmagabDoor
open Go.ChangeShapes Go.WideShapes Go.ChangeAt Go.RowKit
open Go.ChangeMaps (open_string shut_string)

theorem own : ownKnob Tryd.prog.godebug = none := by kernel_rfl
theorem gOps : Tryd.prog.globalNamed "braid/word.opNames" = some 0 := by kernel_rfl
theorem gRels : Tryd.prog.globalNamed "braid/word.relNames" = some 1 := by kernel_rfl
theorem tOps : (Tryd.prog.globals[0]?).map (·.type) = some 36 := by kernel_rfl
theorem tRels : (Tryd.prog.globals[1]?).map (·.type) = some 37 := by kernel_rfl
def laid2 : List (String × DataW Unit) := [("braid/word.opNames", Rows.laid_braid_word_opNames), ("braid/word.relNames", Rows.laid_braid_word_relNames)]

theorem door_met (os : Os) (args : Array Value) : laidMetH Tryd.prog laid2 ((World.doorLaid Tryd.prog 400 os).forCall (fun _ _ => 0) ⟨#[], args, []⟩).memory :=
  laidMetH_of_parts3 (fuel := 8) (laidMet_of_run' 8 (by kernel_rfl) (by kernel_rfl)) (by kernel_rfl) (by kernel_rfl)

/-- A table of texts that is laid: its cells. -/
theorem strs_cells {P : Program} {W : World} {H : Type} {enc : TypeId × Value → H} {spare : Nat → Bool} {held : Bool} {fuel : Nat} {t e : TypeId} {n g : Nat} {cs : Array Value} {name : String} {bs : List (List UInt8)} {q : List MemPlace}
    (ht : P.underlying t = some (.array n e)) (hs : P.underlying e = some .string) (ce : P.cellsOf e = 1) (hg : P.globalNamed name = some g) (hv : W.var? P name = some cs)
    (hd : DataW.trod enc P W 0 spare held fuel t cs.toList = some (.agg (bs.map fun b => .lit (.string b)), q)) (i : Nat) (hi : i < n) : W.cell? ⟨g, i, none⟩ = some (.string ⟨(bs.getD i []).toArray⟩) := by
  obtain ⟨xs, m, _, hx, hlen, hn, hel⟩ := DataW.trod_array ht hd
  simp only [Prod.mk.injEq, DataW.agg.injEq] at hx
  have h1 := hel i hi
  rw [ce, Nat.mul_one] at h1
  have hxi : i < xs.length := by omega
  rw [List.getElem?_eq_getElem hxi] at h1
  obtain ⟨s, e1, e2, _⟩ := DataW.trod_string hs h1
  rw [World.var?_cell hg hv i]
  have e3 : cs.toList[i]? = some (.string s) := by
    have : (cs.toList.drop i).take 1 = [.string s] := e1
    rw [List.take_one, List.head?_drop] at this
    cases h : cs.toList[i]? with
    | none => rw [h] at this; simp at this
    | some v => rw [h] at this; simpa using this
  have hb : (bs.map fun b => (DataW.lit (.string b) : DataW H))[i]? = some (.lit (.string s.data.toList)) := by
    rw [hx.1, List.getElem?_map, List.getElem?_eq_getElem hxi, e2]; rfl
  rw [List.getElem?_map] at hb
  cases hbi : bs[i]? with
  | none => rw [hbi] at hb; simp at hb
  | some b =>
    rw [hbi] at hb
    simp at hb
    have e4 : bs.getD i [] = s.data.toList := by rw [List.getD_eq_getElem?_getD, hbi, ← hb]; rfl
    rw [e4]
    simpa using e3

/-- What the laid tables give the walk. -/
theorem of_laid {W : World} (h : laidMetH Tryd.prog laid2 W) : (∀ i, i < 13 → W.cell? ⟨0, i, none⟩ = some (.string (opT i))) ∧ (∀ i, i < 7 → W.cell? ⟨1, i, none⟩ = some (.string (relT i))) := by
  rw [MakeChecks.laidMetH_plain _ _ _ (by kernel_rfl)] at h
  obtain ⟨ps, ⟨g0, t0, cs0, f0, p0, q0, hg0, ht0, hv0, hd0, ⟨g1, t1, cs1, f1, p1, q1, hg1, ht1, hv1, hd1, _, _⟩, _⟩, _, _⟩ := h
  obtain rfl := Option.some.inj (gOps.symm.trans hg0)
  obtain rfl := Option.some.inj (gRels.symm.trans hg1)
  obtain rfl := Option.some.inj (tOps.symm.trans ht0)
  obtain rfl := Option.some.inj (tRels.symm.trans ht1)
  have cS : Tryd.prog.cellsOf 9 = 1 := by kernel_rfl
  refine ⟨fun i hi => ?_, fun i hi => ?_⟩
  · have := strs_cells (bs := [[], [97, 100, 100], [115, 117, 98], [109, 117, 108], [100, 105, 118], [114, 101, 109], [97, 110, 100], [111, 114], [120, 111, 114], [115, 104, 108], [115, 104, 114], [109, 105, 110], [109, 97, 120]]) Tryd.underlying36 Tryd.underlying9 cS gOps hv0 hd0 i hi
    rw [this]
    have h13 : i = 0 ∨ i = 1 ∨ i = 2 ∨ i = 3 ∨ i = 4 ∨ i = 5 ∨ i = 6 ∨ i = 7 ∨ i = 8 ∨ i = 9 ∨ i = 10 ∨ i = 11 ∨ i = 12 := by omega
    rcases h13 with h | h | h | h | h | h | h | h | h | h | h | h | h <;> subst h <;> rfl
  · have := strs_cells (bs := [[], [61, 61], [33, 61], [60], [60, 61], [62], [62, 61]]) Tryd.underlying37 Tryd.underlying9 cS gRels hv1 hd1 i hi
    rw [this]
    have h7 : i = 0 ∨ i = 1 ∨ i = 2 ∨ i = 3 ∨ i = 4 ∨ i = 5 ∨ i = 6 := by omega
    rcases h7 with h | h | h | h | h | h | h <;> subst h <;> rfl

set_option maxRecDepth 100000 in
theorem lifted (os : Os) (started : os.Started) (H : Type) (enc : TypeId × Value → H) :
    ReturnsInHanded {} Tryd.checked os 3 .any (fun w args => (Rows.wordCalledSpec.pre enc Tryd.prog Tryd.f3 [] false w args ∧ laidMetH Tryd.prog laid2 w) ∧ sizedMet enc Tryd.prog Tryd.f3 (OpenSpec.ofChange Rows.wordCalledSpec) false w args)
      (Rows.wordCalledSpec.post enc Tryd.prog Tryd.f3 false true false false) := by
  refine returnsInHanded_of_change_and (C := Tryd.checked) (X := fun w _ => laidMetH Tryd.prog laid2 w) (fun _ _ _ hh h => h.of_heap hh) own started (by kernel_rfl) Tryd.func3
    (ChangeSpec.witness_shaped (enc := enc) (C := Tryd.checked) (os := os) (X := fun w _ => laidMetH Tryd.prog laid2 w) false (World.doorLaid Tryd.prog 400 os) #[.int .i64 0, .string ⟨#[]⟩] 8 rfl (World.shaped_of_RefB (by kernel_rfl) (by kernel_rfl)) (by kernel_rfl) (by kernel_rfl) (by kernel_rfl) (door_met os _)) ?_
  intro W base args ds gs before hval0 hW _ _ hL _
  have hval : ∀ (j : Nat) t v, Tryd.f3.params[j]? = some t → args[j]? = some v → Value.okWide Tryd.prog W .any base t v := hval0
  have hW' := hW
  obtain ⟨p, q, hA0, hV, rfl, hfz, hnd⟩ := hW
  have hA : DataW.TrodAll enc Tryd.prog W 0 (fun _ => true) true Tryd.f3.params.toList args.toList ds p := hA0
  rw [Tryd.params3] at hA hval
  obtain ⟨v0, v1, d0, d1, p0, p1, rfl, rfl, rfl, h0, h1⟩ := trodAll_two hA
  obtain ⟨rfl, rfl⟩ := trodVars_none hV
  obtain ⟨a0, rfl, rfl, rfl, w0⟩ := open_int Tryd.underlying3 (hval 0 3 v0 rfl rfl) h0
  obtain ⟨s1, rfl, rfl, rfl, w1⟩ := open_string Tryd.underlying9 (hval 1 9 v1 rfl rfl) h1
  obtain ⟨hO, hR⟩ := of_laid hL
  clear hA0 hval0
  simp only [List.append_nil] at hW'
  refine (called_walk a0 s1 W hO hR).mono fun e W' ⟨he, hw⟩ => ?_
  subst he; subst hw
  exact ⟨_, rfl, post_of_same (pa := []) (pv := []) hW' (fun _ _ _ => trodAll_mk1 (shut_bool Tryd.underlying4 _)) (fun sp _ => trodAll_mk2 (shut_int Tryd.underlying3 w0) (shut_string Tryd.underlying9 w1)) (fun _ _ => rfl) rfl
    (World.keptBut_refl _ _) (fun _ => rfl) (ok_one (by kernel_rfl) rfl (okWide_bool_mk Tryd.underlying4 _))⟩

theorem wordCalled_row : Rows.WordCalledSaid :=
  OpenClaim.holds_of_wide 3 Tryd.f3 rfl rfl rfl rfl rfl rfl rfl ⟨rfl, rfl, rfl, rfl, rfl⟩ rfl rfl rfl rfl rfl (by kernel_rfl) Tryd.func3 (by kernel_rfl)
    (of_decide_eq_true (by kernel_rfl)) (by unfold Func.isWrapper; first | (rw [if_pos (by decide +kernel)]; kernel_rfl) | (rw [if_neg (by decide +kernel)]; exact ⟨rfl, rfl⟩))
    (fun os started H enc _ => lifted os started H enc)

theorem wordCalled_holds : Rows.WordCalledCardSaid :=
  Claim7.holds_tied_plain_at .later [] [.data, .data] true Rows.wordCalledCard.stood.harness false
    wordCalled_row (fun _ h => by cases h) (by kernel_rfl) (fun _ h => by cases h) wordCalled_row_tie rfl ⟨rfl, rfl⟩ (by kernel_rfl) rfl
    (fun f fn hf hfn => by
      obtain rfl : f = 3 := Option.some.inj ((show Tryd.prog.funcNamed "braid/braidlaw01.WordCalled" = some 3 by kernel_rfl).symm.trans hf) |>.symm
      obtain rfl : fn = Tryd.f3 := (Option.some.inj (Tryd.func3.symm.trans hfn)).symm
      exact ⟨by kernel_rfl, fun j t ht => by
        rw [Tryd.params3] at ht
        have hm : t ∈ [3, 9] := by simpa using Array.mem_of_getElem? ht
        have hall : ([3, 9].all fun u => !Tryd.prog.wantsStandIn u) = true := by kernel_rfl
        exact (show Tryd.prog.wantsStandIn t = false by simpa using List.all_eq_true.1 hall t hm)⟩)
    (by kernel_rfl)
#print axioms wordCalled_holds
end Go.Proofs.YthmoimilhbmagabDoor
