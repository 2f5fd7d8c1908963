import Derived.Test.YthchbcfecconbaaGreatDoorSl
import Derived.Test.YthchbcfecconbaaGreatDoorSh
import Derived.Test.YthchbcfecconbaaGreatDoorG19
import Derived.Test.YthchbcfecconbaaGreatDoorG20
import Derived.Lay
import Derived.Test.YthchbcfecconbaaGreatDoorTie
import Derived.Test.YthchbcfecconbaaGreatDoorCards
import Derived.SevenTiedAt
import Derived.ShutString
import Derived.Stop.Joined
import Derived.Below
import Derived.ChangeOld
namespace Go.Proofs.YthchbcfecconbaaGreatDoor.modelChainLaw
open Go.ChangeShapes Go.WideShapes Go.ChangeAt Go.RowKit
open Go.ChangeMaps (open_string shut_string)

theorem laidOut : laidOutB Tryz.prog = true := by kernel_rfl
set_option maxRecDepth 100000 in
theorem lifted (os : Os) (started : os.Started) (H : Type) (enc : TypeId × Value → H) :
    ReturnsInHanded {} Tryz.checked os 5 .any (fun w args => (Rows.modelChainSpec.pre enc Tryz.prog Tryz.f5 [] false w args ∧ laidMetH Tryz.prog laid10 w) ∧ sizedMet enc Tryz.prog Tryz.f5 (OpenSpec.ofChange Rows.modelChainSpec) false w args)
      (Rows.modelChainSpec.post enc Tryz.prog Tryz.f5 false true false false) := by
  refine wrap_both (C := Tryz.checked) (X := fun w _ => laidMetH Tryz.prog laid10 w) (fun _ _ _ hh h => h.of_heap hh) own started (by kernel_rfl) Tryz.func5
    (ChangeSpec.witness_shaped (enc := enc) (C := Tryz.checked) (os := os) (X := fun w _ => laidMetH Tryz.prog laid10 w) false (World.laidAll Tryz.prog os laid10) #[.slice none 0 0, .slice none 0 0, .int .i64 0] 8 (World.laidAll_os _ _ _) (World.shaped_of_ZipB (by kernel_rfl) (by kernel_rfl)) (by kernel_rfl) (by kernel_rfl) (by kernel_rfl) (by rw [MakeChecks.laidMetH_plain _ _ _ (by kernel_rfl)]; exact laidMet_laidAll _ (by kernel_rfl) (by kernel_rfl))) ?_
  intro W base args ds gs before hval0 hW hsz0 hL hsh
  have hval : ∀ (j : Nat) t v, Tryz.f5.params[j]? = some t → args[j]? = some v → Value.okWide Tryz.prog W .any base t v := hval0
  have hsz : (DataW.weightsEach Tryz.prog (Tryz.f5.params.toList ++ Rows.modelChainSpec.plain.varTypes Tryz.prog) (ds ++ gs)).all (· ≤ reachBytes) = true := hsz0
  have hW' := hW
  obtain ⟨p, q, hA0, hV, rfl, hfz, hnd⟩ := hW
  have hA : DataW.TrodAll enc Tryz.prog W 0 (fun _ => true) true Tryz.f5.params.toList args.toList ds p := hA0
  rw [Tryz.params5] at hA hval hsz
  obtain ⟨v0, vs0, d0, ds0, p0, q0, hargs, rfl, rfl, h0, r0⟩ := trodAll_cons hA
  obtain ⟨v1, vs1, d1, ds1, p1, q1, rfl, rfl, rfl, h1, r1⟩ := trodAll_cons r0
  obtain ⟨v2, vs2, d2, ds2, p2, q2, rfl, rfl, rfl, h2, r2⟩ := trodAll_cons r1
  obtain ⟨rfl, rfl, rfl⟩ := trodAll_nil r2
  obtain rfl : args = #[v0, v1, v2] := by cases args; simp_all
  obtain ⟨rfl, rfl⟩ := trodVars_none hV
  obtain ⟨a0, len0, cap0, rfl⟩ := okWide_slice Tryz.underlying44 (hval 0 44 v0 rfl rfl)
  have k0 := h0
  have lt0 : ∀ x ∈ p0, x.block < W.heap.size := by obtain ⟨m, hm⟩ := k0; exact DataW.trod_lt m _ _ _ hm
  obtain ⟨l0, hx0, w0, nn0, s0⟩ : ∃ ps : List (List Ins), ps.length = len0 ∧ PLL W a0 ps ∧ (∀ p ∈ ps, ∀ q ∈ p, n64 q) ∧ (len0 = 0 ∨ ∃ es ss, d0 = .slice es ss ∧ len0 ≤ es.length + ss.length ∧ ∀ p ∈ ps, p.length = 0 ∨ ∃ d ∈ es, ∃ es1 ss1, d = .slice es1 ss1 ∧ p.length ≤ es1.length + ss1.length) := by
    obtain ⟨fuel, hf⟩ := h0
    exact open_pll Tryz.underlying44 (by kernel_rfl) Tryz.underlying22 Tryz.underlying62 Tryz.underlying60 (by kernel_rfl) rfl rfl rfl rfl rfl rfl rfl rfl (by kernel_rfl) (by kernel_rfl) (by kernel_rfl) (by kernel_rfl) (by kernel_rfl) (by kernel_rfl) (by kernel_rfl) (by kernel_rfl) rfl rfl rfl (by kernel_rfl) (by kernel_rfl) (by kernel_rfl) (by kernel_rfl) (by kernel_rfl) rfl rfl (by kernel_rfl) (by kernel_rfl) (by kernel_rfl) (by kernel_rfl) hf
  have r8 : reachBytes = 140737488351232 := by decide
  have b0 : (len0 + 1) * 24 ≤ 140737488355328 := by
    rcases s0 with s | ⟨es, ss, e1, hle, _⟩
    · omega
    · have hm : (es.length + ss.length) * Tryz.prog.bytesOf 22 ∈ d0.weights Tryz.prog 44 := by rw [e1]; simp [DataW.weights, Tryz.underlying44]
      have g := List.all_eq_true.1 hsz _ (DataW.weights_mem_each (j := 0) (t := 44) (d := d0) rfl rfl _ hm)
      have by8 : Tryz.prog.bytesOf 22 = 24 := by kernel_rfl
      rw [by8] at g
      simp at g
      omega
  have c0 : ∀ p ∈ l0, p.length * 88 ≤ 140737488355328 := fun p hp => by
    rcases s0 with e | ⟨es, ss, e1, _, e3⟩
    · rw [e] at hx0; rw [List.eq_nil_of_length_eq_zero hx0] at hp; simp at hp
    · rcases e3 p hp with e | ⟨d, hd, es1, ss1, e4, e5⟩
      · omega
      · have hm1 : (es1.length + ss1.length) * Tryz.prog.bytesOf 62 ∈ d.weights Tryz.prog 22 := by rw [e4]; simp [DataW.weights, Tryz.underlying22]
        have hm : (es1.length + ss1.length) * Tryz.prog.bytesOf 62 ∈ d0.weights Tryz.prog 44 := by
          rw [e1]
          simp only [DataW.weights, Tryz.underlying44]
          exact List.mem_cons_of_mem _ (List.mem_append_left _ (weights_all hd hm1))
        have g := List.all_eq_true.1 hsz _ (DataW.weights_mem_each (j := 0) (t := 44) (d := d0) rfl rfl _ hm)
        have by8 : Tryz.prog.bytesOf 62 = 88 := by kernel_rfl
        rw [by8] at g
        simp at g
        omega
  clear s0
  subst hx0
  obtain ⟨a1, len1, cap1, rfl⟩ := okWide_slice Tryz.underlying23 (hval 1 23 v1 rfl rfl)
  have k1 := h1
  have lt1 : ∀ x ∈ p1, x.block < W.heap.size := by obtain ⟨m, hm⟩ := k1; exact DataW.trod_lt m _ _ _ hm
  obtain ⟨l1, hx1, w1, -⟩ : ∃ l : List Int, l.length = len1 ∧ NUM W a1 l ∧ (∀ i, In64 (l.getD i 0)) ∧ (len1 = 0 ∨ ∃ es ss, d1 = .slice es ss ∧ len1 ≤ es.length + ss.length) := by
    obtain ⟨fuel, hf⟩ := h1
    exact open_nums64 Tryz.underlying23 Tryz.underlying2 (by kernel_rfl) hf
  have z1 : a1 = none → cap1 = 0 := by
    obtain ⟨fuel, hf⟩ := k1
    exact (open_cap2 Tryz.underlying23 hf).2
  subst hx1
  obtain ⟨a2, rfl, rfl, rfl, w2⟩ := open_int Tryz.underlying3 (hval 2 3 v2 rfl rfl) h2
  have hE := of_laid10 hL hsh
  clear hA0 hval0 hsz hsz0
  refine (chain_any hE.1 hE.2 w0 c0 b0 w1 z1 a2).mono fun e W' ⟨he, bel⟩ => ?_
  subst he
  exact ⟨_, rfl, _, _, _, [], _, [], hW', trodAll_mk1 (shut_bool Tryz.underlying4 _), (trodAll_cons_mk (Below.trod laidOut (by kernel_rfl) (of_decide_eq_true (by kernel_rfl)) k0 bel lt0) (trodAll_cons_mk (Below.trod laidOut (by kernel_rfl) (of_decide_eq_true (by kernel_rfl)) k1 bel lt1) (trodAll_cons_mk (shut_int Tryz.underlying3 w2) trodAll_mk0))), rfl, bel.frame _, fun h => by cases h⟩

theorem row : Rows.ModelChainSaid :=
  OpenClaim.holds_of_wide 5 Tryz.f5 rfl rfl rfl rfl rfl rfl rfl ⟨rfl, rfl, rfl, rfl, rfl⟩ rfl rfl rfl rfl rfl (by kernel_rfl) Tryz.func5 (by kernel_rfl)
    (of_decide_eq_true (by kernel_rfl)) (by unfold Func.isWrapper; first | (rw [if_pos (by decide +kernel)]; kernel_rfl) | (rw [if_neg (by decide +kernel)]; exact ⟨rfl, rfl⟩))
    (fun os started H enc _ => lifted os started H enc)
end Go.Proofs.YthchbcfecconbaaGreatDoor.modelChainLaw
namespace Go.Proofs.YthchbcfecconbaaGreatDoor
theorem modelChain_holds : Rows.ModelChainCardSaid :=
  Claim7.holds_tied_plain_at .later [] [.data, .data, .data, .data, .sentinel, .sentinel, .data, .data, .data, .pinned] true Rows.modelChainCard.stood.harness Rows.modelChainCard.stood.looks
    modelChainLaw.row (fun _ h => by cases h) (by kernel_rfl) (fun _ h => by cases h) modelChain_row_tie rfl ⟨rfl, rfl⟩ (by kernel_rfl) rfl
    (fun f fn hf hfn => by
      obtain rfl : f = 5 := Option.some.inj ((show Tryz.prog.funcNamed "braid/braidlaw11.ModelChain" = some 5 by kernel_rfl).symm.trans hf) |>.symm
      obtain rfl : fn = Tryz.f5 := (Option.some.inj (Tryz.func5.symm.trans hfn)).symm
      exact ⟨by kernel_rfl, fun j t ht => by
        rw [Tryz.params5] at ht
        have hm : t ∈ [44, 23, 3] := by simpa using Array.mem_of_getElem? ht
        have hall : ([44, 23, 3].all fun u => !Tryz.prog.wantsStandIn u) = true := by kernel_rfl
        exact (show Tryz.prog.wantsStandIn t = false by simpa using List.all_eq_true.1 hall t hm)⟩)
    (by kernel_rfl)
#print axioms modelChain_holds
end Go.Proofs.YthchbcfecconbaaGreatDoor
