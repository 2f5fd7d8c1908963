import Derived.Test.YthchbcfecconbaaGreatDoorSg
import Derived.Test.YthchbcfecconbaaGreatDoorSh
import Derived.Test.YthchbcfecconbaaGreatDoorG19
import Derived.Test.YthchbcfecconbaaGreatDoorG20
import Derived.Lay
import Derived.Test.YthchbcfecconbaaGreatDoorTie
import Derived.Test.YthchbcfecconbaaGreatDoorCards
import Derived.SevenTiedAt
import Derived.ShutString
import Derived.Stop.Joined
import Derived.Below
import Derived.ChangeOld
namespace Go.Proofs.YthchbcfecconbaaGreatDoor.modelSeriesLaw
open Go.ChangeShapes Go.WideShapes Go.ChangeAt Go.RowKit
open Go.ChangeMaps (open_string shut_string)

theorem laidOut : laidOutB Tryz.prog = true := by kernel_rfl
set_option maxRecDepth 100000 in
theorem lifted (os : Os) (started : os.Started) (H : Type) (enc : TypeId × Value → H) (F : Stop.Interp) :
    ReturnsInHanded {} Tryz.checked os 4 .any (fun w args => ((Rows.OpenSpec.upto Rows.modelSeriesSpec).pre enc Tryz.prog Tryz.f4 [] false w args ∧ laidMetH Tryz.prog laid10 w) ∧ sizedMet enc Tryz.prog Tryz.f4 (Rows.OpenSpec.upto Rows.modelSeriesSpec) false w args)
      (((Rows.OpenSpec.upto Rows.modelSeriesSpec).at F).post enc Tryz.prog Tryz.f4 false true false false) := by
  refine wrap_cond (C := Tryz.checked) (s := (Rows.OpenSpec.upto Rows.modelSeriesSpec)) (k := Rows.uptoSmall) rfl (X := fun w _ => laidMetH Tryz.prog laid10 w) (fun _ _ _ hh h => h.of_heap hh) own started (by kernel_rfl) Tryz.func4
    (witness_cond (enc := enc) (C := Tryz.checked) (os := os) (s := (Rows.OpenSpec.upto Rows.modelSeriesSpec)) (k := Rows.uptoSmall) rfl (X := fun w _ => laidMetH Tryz.prog laid10 w) false (World.laidAll Tryz.prog os laid10) #[.slice none 0 0, .slice none 0 0, .int .i64 0] 8 (World.laidAll_os _ _ _) (World.shaped_of_ZipB (by kernel_rfl) (by kernel_rfl)) (by kernel_rfl) (x := ([.nil, .nil, .lit (.int .i64 0)], [], [])) (by kernel_rfl) rfl (by kernel_rfl) (by kernel_rfl) (by rw [MakeChecks.laidMetH_plain _ _ _ (by kernel_rfl)]; exact laidMet_laidAll _ (by kernel_rfl) (by kernel_rfl))) ?_
  intro W base args ds gs before hval0 hW hkk hsz0 hL hsh
  have hval : ∀ (j : Nat) t v, Tryz.f4.params[j]? = some t → args[j]? = some v → Value.okWide Tryz.prog W .any base t v := hval0
  have hsz : (DataW.weightsEach Tryz.prog (Tryz.f4.params.toList ++ Rows.modelSeriesSpec.plain.varTypes Tryz.prog) (ds ++ gs)).all (· ≤ reachBytes) = true := hsz0
  have hW' := hW
  obtain ⟨p, q, hA0, hV, rfl, hfz, hnd⟩ := hW
  have hA : DataW.TrodAll enc Tryz.prog W 0 (fun _ => true) true Tryz.f4.params.toList args.toList ds p := hA0
  rw [Tryz.params4] at hA hval hsz
  obtain ⟨v0, vs0, d0, ds0, p0, q0, hargs, rfl, rfl, h0, r0⟩ := trodAll_cons hA
  obtain ⟨v1, vs1, d1, ds1, p1, q1, rfl, rfl, rfl, h1, r1⟩ := trodAll_cons r0
  obtain ⟨v2, vs2, d2, ds2, p2, q2, rfl, rfl, rfl, h2, r2⟩ := trodAll_cons r1
  obtain ⟨rfl, rfl, rfl⟩ := trodAll_nil r2
  obtain rfl : args = #[v0, v1, v2] := by cases args; simp_all
  obtain ⟨rfl, rfl⟩ := trodVars_none hV
  obtain ⟨a0, len0, cap0, rfl⟩ := okWide_slice Tryz.underlying44 (hval 0 44 v0 rfl rfl)
  have k0 := h0
  have lt0 : ∀ x ∈ p0, x.block < W.heap.size := by obtain ⟨m, hm⟩ := k0; exact DataW.trod_lt m _ _ _ hm
  obtain ⟨l0, hx0, w0, nn0, s0⟩ : ∃ ps : List (List Ins), ps.length = len0 ∧ PLL W a0 ps ∧ (∀ p ∈ ps, ∀ q ∈ p, n64 q) ∧ (len0 = 0 ∨ ∃ es ss, d0 = .slice es ss ∧ len0 ≤ es.length + ss.length ∧ ∀ p ∈ ps, p.length = 0 ∨ ∃ d ∈ es, ∃ es1 ss1, d = .slice es1 ss1 ∧ p.length ≤ es1.length + ss1.length) := by
    obtain ⟨fuel, hf⟩ := h0
    exact open_pll Tryz.underlying44 (by kernel_rfl) Tryz.underlying22 Tryz.underlying62 Tryz.underlying60 (by kernel_rfl) rfl rfl rfl rfl rfl rfl rfl rfl (by kernel_rfl) (by kernel_rfl) (by kernel_rfl) (by kernel_rfl) (by kernel_rfl) (by kernel_rfl) (by kernel_rfl) (by kernel_rfl) rfl rfl rfl (by kernel_rfl) (by kernel_rfl) (by kernel_rfl) (by kernel_rfl) (by kernel_rfl) rfl rfl (by kernel_rfl) (by kernel_rfl) (by kernel_rfl) (by kernel_rfl) hf
  have n0 : ∀ p ∈ l0, ∀ i, i < p.length → In64 (p.getD i ins0).xN ∧ In64 (p.getD i ins0).yN := fun p hp => n64_get (nn0 p hp)
  have b0 : len0 ≤ 1048576 := bulk_bound hkk (d := d0) (by simp) (s0.imp id (fun ⟨es, ss, e1, e2, _⟩ => ⟨es, ss, e1, e2⟩))
  have c0 : ∀ p ∈ l0, p.length * 88 ≤ 140737488355328 := fun p hp => by
    rcases s0 with e | ⟨es, ss, e1, _, e3⟩
    · rw [e] at hx0; rw [List.eq_nil_of_length_eq_zero hx0] at hp; simp at hp
    · rcases e3 p hp with e | ⟨d, hd, es1, ss1, e4, e5⟩
      · omega
      · have g1 := bulk_part hd
        have g2 := bulk_slice es1 ss1
        rw [← e4] at g2
        have g3 := bulk_part (d := d0) (l := [d0, d1, d2] ++ []) (by simp)
        have g4 : Rows.uptoBulkAll ([d0, d1, d2] ++ []) ≤ 1048576 := of_decide_eq_true hkk
        rw [e1] at g3
        simp only [Rows.uptoBulk] at g3
        rw [e1] at g4
        omega
  clear s0
  subst hx0
  obtain ⟨a1, len1, cap1, rfl⟩ := okWide_slice Tryz.underlying23 (hval 1 23 v1 rfl rfl)
  have k1 := h1
  have lt1 : ∀ x ∈ p1, x.block < W.heap.size := by obtain ⟨m, hm⟩ := k1; exact DataW.trod_lt m _ _ _ hm
  obtain ⟨l1, hx1, w1, i1, s1⟩ : ∃ l : List Int, l.length = len1 ∧ NUM W a1 l ∧ (∀ i, In64 (l.getD i 0)) ∧ (len1 = 0 ∨ ∃ es ss, d1 = .slice es ss ∧ len1 ≤ es.length + ss.length) := by
    obtain ⟨fuel, hf⟩ := h1
    exact open_nums64 Tryz.underlying23 Tryz.underlying2 (by kernel_rfl) hf
  have z1 : a1 = none → cap1 = 0 := by
    obtain ⟨fuel, hf⟩ := k1
    exact (open_cap2 Tryz.underlying23 hf).2
  have b1 : (len1 + 2) * 8 ≤ 140737488355328 := by
    rcases s1 with s | ⟨es, ss, e1, hle⟩
    · omega
    · have hm : (es.length + ss.length) * Tryz.prog.bytesOf 2 ∈ d1.weights Tryz.prog 23 := by rw [e1]; simp [DataW.weights, Tryz.underlying23]
      have g := List.all_eq_true.1 hsz _ (DataW.weights_mem_each (j := 1) (t := 23) (d := d1) rfl rfl _ hm)
      have by8 : Tryz.prog.bytesOf 2 = 8 := by kernel_rfl
      rw [by8] at g
      have r8 : reachBytes = 140737488351232 := by decide
      simp at g
      omega
  clear s1
  subst hx1
  obtain ⟨a2, rfl, rfl, rfl, w2⟩ := open_int Tryz.underlying3 (hval 2 3 v2 rfl rfl) h2
  have hE := of_laid10 hL hsh
  clear hA0 hval0 hsz hsz0
  refine (mseries_any hE.1 hE.2 w0 n0 c0 b0 w1 i1 b1 z1 a2).mono fun e W' ⟨he, bel⟩ => ?_
  subst he
  exact ⟨_, rfl, _, _, _, [], _, [], hW', trodAll_mk1 (shut_bool Tryz.underlying4 _), (trodAll_cons_mk (Below.trod laidOut (by kernel_rfl) (of_decide_eq_true (by kernel_rfl)) k0 bel lt0) (trodAll_cons_mk (Below.trod laidOut (by kernel_rfl) (of_decide_eq_true (by kernel_rfl)) k1 bel lt1) (trodAll_cons_mk (shut_int Tryz.underlying3 w2) trodAll_mk0))), rfl, bel.frame _, fun h => by cases h⟩

theorem row : Rows.ModelSeriesUptoSaid :=
  OpenClaim.holds_of_cond 4 Tryz.f4 rfl rfl rfl rfl rfl rfl rfl ⟨rfl, rfl, rfl, rfl, rfl⟩ rfl rfl rfl rfl rfl (by kernel_rfl) Tryz.func4 (by kernel_rfl)
    (of_decide_eq_true (by kernel_rfl)) (by unfold Func.isWrapper; first | (rw [if_pos (by decide +kernel)]; kernel_rfl) | (rw [if_neg (by decide +kernel)]; exact ⟨rfl, rfl⟩))
    (fun os started H enc _ F => lifted os started H enc F)
end Go.Proofs.YthchbcfecconbaaGreatDoor.modelSeriesLaw
namespace Go.Proofs.YthchbcfecconbaaGreatDoor
theorem modelSeries_holds : Rows.ModelSeriesUptoCardSaid :=
  Claim7.holds_tied_plain_at .later [] [.data, .data, .data, .data, .sentinel, .sentinel, .data, .data, .data, .pinned] true Rows.modelSeriesUptoCard.stood.harness Rows.modelSeriesUptoCard.stood.looks
    modelSeriesLaw.row (fun _ h => by cases h) (by kernel_rfl) (fun _ h => by cases h) modelSeriesUpto_row_tie rfl ⟨rfl, rfl⟩ (by kernel_rfl) rfl
    (fun f fn hf hfn => by
      obtain rfl : f = 4 := Option.some.inj ((show Tryz.prog.funcNamed "braid/braidlaw11.ModelSeries" = some 4 by kernel_rfl).symm.trans hf) |>.symm
      obtain rfl : fn = Tryz.f4 := (Option.some.inj (Tryz.func4.symm.trans hfn)).symm
      exact ⟨by kernel_rfl, fun j t ht => by
        rw [Tryz.params4] at ht
        have hm : t ∈ [44, 23, 3] := by simpa using Array.mem_of_getElem? ht
        have hall : ([44, 23, 3].all fun u => !Tryz.prog.wantsStandIn u) = true := by kernel_rfl
        exact (show Tryz.prog.wantsStandIn t = false by simpa using List.all_eq_true.1 hall t hm)⟩)
    (by kernel_rfl)
#print axioms modelSeries_holds
end Go.Proofs.YthchbcfecconbaaGreatDoor
