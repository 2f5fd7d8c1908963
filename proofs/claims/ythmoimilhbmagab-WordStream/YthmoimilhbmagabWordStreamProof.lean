import Derived.Test.YthmoimilhbmagabStream
import Derived.Test.YthmoimilhbmagabStreamOpen
import Derived.Test.YthmoimilhbmagabRows
import Derived.WalkKit
import Derived.ProofKit
import Derived.OpenShut
import Derived.ChangeOld
import Derived.Below
import Derived.SizedLaws
namespace Go.Proofs.Ythmoimilhbmagab.wordStreamLaw
open Go.ChangeShapes Go.WideShapes Go.ChangeAt Go.RowKit

theorem own : ownKnob Try.prog.godebug = none := by kernel_rfl
theorem laidOut : laidOutB Try.prog = true := by kernel_rfl

set_option maxRecDepth 100000 in
theorem lifted (os : Os) (started : os.Started) (H : Type) (enc : TypeId × Value → H) :
    ReturnsInHanded {} Try.checked os 3 .any (Rows.wordStreamSpec.pre6 enc Try.prog Try.f3 Rows.wordStreamRow.domain false) (Rows.wordStreamSpec.post enc Try.prog Try.f3 false true false false) := by
  refine returnsInHanded_of_change_sized (C := Try.checked) own started (by kernel_rfl) Try.func3
    (ChangeSpec.witness6 (enc := enc) (C := Try.checked) false ⟨#[], #[.slice none 0 0, .slice none 0 0], []⟩ 8 (by kernel_rfl) (by kernel_rfl) (by kernel_rfl) (by kernel_rfl)) ?_
  intro W base args ds gs before hval0 hW hcnd hsz0 _
  have hsz : (DataW.weightsEach Try.prog (Try.f3.params.toList ++ Rows.wordStreamSpec.plain.varTypes Try.prog) (ds ++ gs)).all (· ≤ reachBytes) = true := hsz0
  clear hsz0
  have hval : ∀ (j : Nat) t v, Try.f3.params[j]? = some t → args[j]? = some v → Value.okWide Try.prog W .any base t v := hval0
  have hW' := hW
  obtain ⟨p, q, hA0, hV, rfl, hfz, hnd⟩ := hW
  have hA : DataW.TrodAll enc Try.prog W 0 (fun _ => true) true Try.f3.params.toList args.toList ds p := hA0
  rw [Try.params3] at hA hval hsz
  obtain ⟨v0, vs0, d0, ds0, p0, q0, hargs, rfl, rfl, h0, r0⟩ := trodAll_cons hA
  obtain ⟨v1, vs1, d1, ds1, p1, q1, rfl, rfl, rfl, h1, r1⟩ := trodAll_cons r0
  obtain ⟨rfl, rfl, rfl⟩ := trodAll_nil r1
  obtain rfl : args = #[v0, v1] := by cases args; simp_all
  obtain ⟨rfl, rfl⟩ := trodVars_none hV
  obtain ⟨a0, len0, cap0, rfl⟩ := okWide_slice Try.underlying22 (hval 0 22 v0 rfl rfl)
  have k0 := h0
  have lt0 : ∀ x ∈ p0, x.block < W.heap.size := by obtain ⟨m, hm⟩ := k0; exact DataW.trod_lt m _ _ _ hm
  obtain ⟨z0, w0, i0, s0⟩ : ∃ z : Nat → Int, IsRaw W a0 len0 z ∧ (∀ i, i < len0 → In64 (z i)) ∧ (len0 = 0 ∨ ∃ es ss, d0 = .slice es ss ∧ len0 ≤ es.length + ss.length) := by
    obtain ⟨fuel, hf⟩ := h0
    exact open_raw Try.underlying22 Try.underlying2 (by kernel_rfl) hf
  have b0 : len0 ≤ 17592186044416 := by
    rcases s0 with g | ⟨es, ss, hd, hle⟩
    · omega
    · have g := sized_slice hsz (j := 0) (t := 22) (e := 2) (elems := es) (spare := ss) rfl (by rw [hd]; rfl) Try.underlying22
      rw [show Try.prog.bytesOf 2 = 8 from by kernel_rfl] at g
      have r8 : reachBytes = 140737488351232 := by decide
      omega
  obtain ⟨a1, len1, cap1, rfl⟩ := okWide_slice Try.underlying22 (hval 1 22 v1 rfl rfl)
  have k1 := h1
  have lt1 : ∀ x ∈ p1, x.block < W.heap.size := by obtain ⟨m, hm⟩ := k1; exact DataW.trod_lt m _ _ _ hm
  obtain ⟨z1, w1, i1, s1⟩ : ∃ z : Nat → Int, IsRaw W a1 len1 z ∧ (∀ i, i < len1 → In64 (z i)) ∧ (len1 = 0 ∨ ∃ es ss, d1 = .slice es ss ∧ len1 ≤ es.length + ss.length) := by
    obtain ⟨fuel, hf⟩ := h1
    exact open_raw Try.underlying22 Try.underlying2 (by kernel_rfl) hf
  have b1 : len1 ≤ 17592186044416 := by
    rcases s1 with g | ⟨es, ss, hd, hle⟩
    · omega
    · have g := sized_slice hsz (j := 1) (t := 22) (e := 2) (elems := es) (spare := ss) rfl (by rw [hd]; rfl) Try.underlying22
      rw [show Try.prog.bytesOf 2 = 8 from by kernel_rfl] at g
      have r8 : reachBytes = 140737488351232 := by decide
      omega
  clear hA0 hval0
  refine (stream_walk a0 a1 len0 cap0 len1 cap1 z0 z1 W w0 w1 i1 b0 b1).mono fun e W' ⟨he, bel⟩ => ?_
  subst he
  exact ⟨_, rfl, _, _, _, [], _, [], hW', trodAll_mk1 (shut_bool Try.underlying4 _), (trodAll_cons_mk (Below.trod laidOut (by kernel_rfl) (of_decide_eq_true (by kernel_rfl)) k0 bel lt0) (trodAll_cons_mk (Below.trod laidOut (by kernel_rfl) (of_decide_eq_true (by kernel_rfl)) k1 bel lt1) trodAll_mk0)), rfl, bel.frame _, fun h => by cases h⟩

theorem over : Rows.wordStreamRow.holds Try.pinned (OpenSpec.ofChange Rows.wordStreamSpec) :=
  OpenClaim.holds_of_wide 3 Try.f3 rfl rfl rfl rfl rfl rfl rfl ⟨rfl, rfl, rfl, rfl, rfl⟩ rfl rfl rfl rfl rfl (by kernel_rfl) Try.func3 (by kernel_rfl)
    (of_decide_eq_true (by kernel_rfl)) (by unfold Func.isWrapper; first | (rw [if_pos (by decide +kernel)]; kernel_rfl) | (rw [if_neg (by decide +kernel)]; exact ⟨rfl, rfl⟩))
    (fun os started H enc _ => lifted os started H enc)
end Go.Proofs.Ythmoimilhbmagab.wordStreamLaw
namespace Go.Proofs.Ythmoimilhbmagab
theorem wordStream_holds : Rows.WordStreamSaid := wordStreamLaw.over
#print axioms wordStream_holds
end Go.Proofs.Ythmoimilhbmagab
