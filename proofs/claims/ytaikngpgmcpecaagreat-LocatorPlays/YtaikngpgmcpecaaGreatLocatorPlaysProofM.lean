import Derived.Test.YtaikngpgmcpecaaGreatMK
import Derived.Test.YtaikngpgmcpecaaGreatLocOpen
import Derived.Test.YtaikngpgmcpecaaGreatRows
import Derived.WalkKit
import Derived.ProofKit
import Derived.OpenShut
import Derived.ChangeOld
import Derived.Below
import Derived.JoinedCond
import Derived.SizedLaws
namespace Go.Proofs.YtaikngpgmcpecaaGreat.locatorPlaysLaw
open Go.ChangeShapes Go.WideShapes Go.ChangeAt Go.RowKit

theorem own : ownKnob Tryz.prog.godebug = none := by kernel_rfl
theorem laidOut : laidOutB Tryz.prog = true := by kernel_rfl

set_option maxRecDepth 100000 in
theorem lifted (os : Os) (started : os.Started) (H : Type) (enc : TypeId × Value → H) :
    ReturnsInHanded {} Tryz.checked os 3 .any (Rows.locatorPlaysSpec.pre6 enc Tryz.prog Tryz.f3 Rows.locatorPlaysRow.domain false) (Rows.locatorPlaysSpec.post enc Tryz.prog Tryz.f3 false true false false) := by
  refine returnsInHanded_of_change_sized (C := Tryz.checked) own started (by kernel_rfl) Tryz.func3
    (ChangeSpec.witness6 (enc := enc) (C := Tryz.checked) false ⟨#[], #[.int .i64 0, .slice none 0 0, .slice none 0 0], []⟩ 8 (by kernel_rfl) (by kernel_rfl) (by kernel_rfl) (by kernel_rfl)) ?_
  intro W base args ds gs before hval0 hW hcnd hsz0 _
  have hsz : (DataW.weightsEach Tryz.prog (Tryz.f3.params.toList ++ Rows.locatorPlaysSpec.plain.varTypes Tryz.prog) (ds ++ gs)).all (· ≤ reachBytes) = true := hsz0
  clear hsz0
  have hval : ∀ (j : Nat) t v, Tryz.f3.params[j]? = some t → args[j]? = some v → Value.okWide Tryz.prog W .any base t v := hval0
  have hW' := hW
  obtain ⟨p, q, hA0, hV, rfl, hfz, hnd⟩ := hW
  have hA : DataW.TrodAll enc Tryz.prog W 0 (fun _ => true) true Tryz.f3.params.toList args.toList ds p := hA0
  rw [Tryz.params3] at hA hval hsz
  obtain ⟨v0, vs0, d0, ds0, p0, q0, hargs, rfl, rfl, h0, r0⟩ := trodAll_cons hA
  obtain ⟨v1, vs1, d1, ds1, p1, q1, rfl, rfl, rfl, h1, r1⟩ := trodAll_cons r0
  obtain ⟨v2, vs2, d2, ds2, p2, q2, rfl, rfl, rfl, h2, r2⟩ := trodAll_cons r1
  obtain ⟨rfl, rfl, rfl⟩ := trodAll_nil r2
  obtain rfl : args = #[v0, v1, v2] := by cases args; simp_all
  obtain ⟨rfl, rfl⟩ := trodVars_none hV
  obtain ⟨a0, rfl, rfl, rfl, w0⟩ := open_int Tryz.underlying3 (hval 0 3 v0 rfl rfl) h0
  obtain ⟨a1, len1, cap1, rfl⟩ := okWide_slice Tryz.underlying22 (hval 1 22 v1 rfl rfl)
  have k1 := h1
  have lt1 : ∀ x ∈ p1, x.block < W.heap.size := by obtain ⟨m, hm⟩ := k1; exact DataW.trod_lt m _ _ _ hm
  obtain ⟨l1, hx1, w1, s1⟩ : ∃ l : List Vl, l.length = len1 ∧ VB W a1 l ∧ (len1 = 0 ∨ ∃ es ss, d1 = .slice es ss ∧ len1 ≤ es.length + ss.length) := by
    obtain ⟨fuel, hf⟩ := h1
    exact open_valb Tryz.underlying22 Tryz.underlying37 (by kernel_rfl) rfl rfl rfl (by kernel_rfl) (by kernel_rfl) (by kernel_rfl) (by kernel_rfl) (by kernel_rfl) (by kernel_rfl) hf
  have z1 : a1 = none → cap1 = 0 := by
    obtain ⟨fuel, hf⟩ := k1
    exact (open_cap2 Tryz.underlying22 hf).2
  have b1 : len1 ≤ 5864062014805 := by
    rcases s1 with g | ⟨es, ss, hd, hle⟩
    · omega
    · have g := sized_slice hsz (j := 1) (t := 22) (e := 37) (elems := es) (spare := ss) rfl (by rw [hd]; rfl) Tryz.underlying22
      rw [show Tryz.prog.bytesOf 37 = 24 from by kernel_rfl] at g
      have r8 : reachBytes = 140737488351232 := by decide
      omega
  subst hx1
  obtain ⟨a2, len2, cap2, rfl⟩ := okWide_slice Tryz.underlying23 (hval 2 23 v2 rfl rfl)
  have k2 := h2
  have lt2 : ∀ x ∈ p2, x.block < W.heap.size := by obtain ⟨m, hm⟩ := k2; exact DataW.trod_lt m _ _ _ hm
  obtain ⟨l2, hx2, w2, n2, s2⟩ : ∃ l : List Oq, l.length = len2 ∧ OL W a2 l ∧ (∀ q ∈ l, q.ok) ∧ (len2 = 0 ∨ ∃ es ss, d2 = .slice es ss ∧ len2 ≤ es.length + ss.length) := by
    obtain ⟨fuel, hf⟩ := h2
    exact open_ops5 Tryz.underlying23 Tryz.underlying39 (by kernel_rfl) Tryz.underlying37 rfl rfl rfl rfl rfl rfl rfl rfl rfl (by kernel_rfl) (by kernel_rfl) (by kernel_rfl) (by kernel_rfl) (by kernel_rfl) (by kernel_rfl) (by kernel_rfl) (by kernel_rfl) (by kernel_rfl) (by kernel_rfl) (by kernel_rfl) (by kernel_rfl) (by kernel_rfl) (by kernel_rfl) (by kernel_rfl) (by kernel_rfl) (by kernel_rfl) hf
  have b2 : len2 ≤ 2199023255488 := by
    rcases s2 with g | ⟨es, ss, hd, hle⟩
    · omega
    · have g := sized_slice hsz (j := 2) (t := 23) (e := 39) (elems := es) (spare := ss) rfl (by rw [hd]; rfl) Tryz.underlying23
      rw [show Tryz.prog.bytesOf 39 = 64 from by kernel_rfl] at g
      have r8 : reachBytes = 140737488351232 := by decide
      omega
  subst hx2
  clear hA0 hval0
  refine (plaw_all a0 (i64_of_wf w0) w1 b1 z1 w2 n2 b2 cap2).mono fun e W' ⟨he, bel⟩ => ?_
  subst he
  exact ⟨_, rfl, _, _, _, [], _, [], hW', trodAll_mk1 (shut_bool Tryz.underlying4 _), (trodAll_cons_mk (shut_int Tryz.underlying3 w0) (trodAll_cons_mk (Below.trod laidOut (by kernel_rfl) (of_decide_eq_true (by kernel_rfl)) k1 bel lt1) (trodAll_cons_mk (Below.trod laidOut (by kernel_rfl) (of_decide_eq_true (by kernel_rfl)) k2 bel lt2) trodAll_mk0))), rfl, bel.frame _, fun h => by cases h⟩

theorem over : Rows.locatorPlaysRow.holds Tryz.pinned (OpenSpec.ofChange Rows.locatorPlaysSpec) :=
  OpenClaim.holds_of_wide 3 Tryz.f3 rfl rfl rfl rfl rfl rfl rfl ⟨rfl, rfl, rfl, rfl, rfl⟩ rfl rfl rfl rfl rfl (by kernel_rfl) Tryz.func3 (by kernel_rfl)
    (of_decide_eq_true (by kernel_rfl)) (by unfold Func.isWrapper; first | (rw [if_pos (by decide +kernel)]; kernel_rfl) | (rw [if_neg (by decide +kernel)]; exact ⟨rfl, rfl⟩))
    (fun os started H enc _ => lifted os started H enc)
end Go.Proofs.YtaikngpgmcpecaaGreat.locatorPlaysLaw
namespace Go.Proofs.YtaikngpgmcpecaaGreat
theorem locatorPlays_holds : Rows.LocatorPlaysSaid := locatorPlaysLaw.over
#print axioms locatorPlays_holds
end Go.Proofs.YtaikngpgmcpecaaGreat
