import Derived.Test.YtmnmphkkcabkiaaG20
import Derived.Test.YtmnmphkkcabkiaaRows
import Derived.WalkKit
import Derived.ProofKit
import Derived.OpenShut
import Derived.ChangeOld
import Derived.Below
import Derived.JoinedCond
import Derived.SizedLaws
namespace Go.Proofs.Ytmnmphkkcabkiaa.historyAtLaw
open Go.ChangeShapes Go.WideShapes Go.ChangeAt Go.RowKit
theorem own : ownKnob Try.prog.godebug = none := by kernel_rfl
theorem laidOut : laidOutB Try.prog = true := by kernel_rfl
set_option maxRecDepth 100000 in
theorem lifted (os : Os) (started : os.Started) (H : Type) (enc : TypeId × Value → H) :
    ReturnsInHanded {} Try.checked os 3 .any (Rows.historyAtSpec.pre6 enc Try.prog Try.f3 Rows.historyAtRow.domain false) (Rows.historyAtSpec.post enc Try.prog Try.f3 false true false false) := by
  refine returnsInHanded_of_change_sized (C := Try.checked) own started (by kernel_rfl) Try.func3
    (ChangeSpec.witness6 (enc := enc) (C := Try.checked) false ⟨#[], #[.slice none 0 0, .slice none 0 0, .slice none 0 0], []⟩ 8 (by kernel_rfl) (by kernel_rfl) (by kernel_rfl) (by kernel_rfl)) ?_
  intro W base args ds gs before hval0 hW hcnd hsz0 _
  have hsz : (DataW.weightsEach Try.prog (Try.f3.params.toList ++ Rows.historyAtSpec.plain.varTypes Try.prog) (ds ++ gs)).all (· ≤ reachBytes) = true := hsz0
  clear hsz0
  have hval : ∀ (j : Nat) t v, Try.f3.params[j]? = some t → args[j]? = some v → Value.okWide Try.prog W .any base t v := hval0
  have hW' := hW
  obtain ⟨p, q, hA0, hV, rfl, hfz, hnd⟩ := hW
  have hA : DataW.TrodAll enc Try.prog W 0 (fun _ => true) true Try.f3.params.toList args.toList ds p := hA0
  rw [Try.params3] at hA hval hsz
  obtain ⟨v0, vs0, d0, ds0, p0, q0, hargs, rfl, rfl, h0, r0⟩ := trodAll_cons hA
  obtain ⟨v1, vs1, d1, ds1, p1, q1, rfl, rfl, rfl, h1, r1⟩ := trodAll_cons r0
  obtain ⟨v2, vs2, d2, ds2, p2, q2, rfl, rfl, rfl, h2, r2⟩ := trodAll_cons r1
  obtain ⟨rfl, rfl, rfl⟩ := trodAll_nil r2
  obtain rfl : args = #[v0, v1, v2] := by cases args; simp_all
  obtain ⟨rfl, rfl⟩ := trodVars_none hV
  obtain ⟨a0, len0, cap0, rfl⟩ := okWide_slice Try.underlying22 (hval 0 22 v0 rfl rfl)
  have k0 := h0
  have lt0 : ∀ x ∈ p0, x.block < W.heap.size := by obtain ⟨m, hm⟩ := k0; exact DataW.trod_lt m _ _ _ hm
  obtain ⟨F0, w0, s0⟩ : ∃ F : Nat → V3, VS W a0 len0 F ∧ (len0 = 0 ∨ ∃ es ss, d0 = .slice es ss ∧ len0 ≤ es.length + ss.length) := by
    obtain ⟨fuel, hf⟩ := h0
    exact open_vs Try.underlying22 Try.underlying27 (by kernel_rfl) rfl rfl rfl (by kernel_rfl) (by kernel_rfl) (by kernel_rfl) (by kernel_rfl) (by kernel_rfl) (by kernel_rfl) hf
  have z0 : a0 = none → cap0 = 0 := by
    obtain ⟨fuel, hf⟩ := k0
    exact (open_cap2 Try.underlying22 hf).2
  have b0 : len0 ≤ 5864062014805 := by
    rcases s0 with g | ⟨es, ss, hd, hle⟩
    · omega
    · have g := sized_slice hsz (j := 0) (t := 22) (e := 27) (elems := es) (spare := ss) rfl (by rw [hd]; rfl) Try.underlying22
      rw [show Try.prog.bytesOf 27 = 24 from by kernel_rfl] at g
      have r8 : reachBytes = 140737488351232 := by decide
      omega
  obtain ⟨a1, len1, cap1, rfl⟩ := okWide_slice Try.underlying23 (hval 1 23 v1 rfl rfl)
  have k1 := h1
  have lt1 : ∀ x ∈ p1, x.block < W.heap.size := by obtain ⟨m, hm⟩ := k1; exact DataW.trod_lt m _ _ _ hm
  have c1 : len1 ≤ cap1 := by
    obtain ⟨fuel, hf⟩ := k1
    exact (open_cap2 Try.underlying23 hf).1
  obtain ⟨l1, hx1, w1, n1, s1⟩ : ∃ l : List Rw, l.length = len1 ∧ RSL W a1 l ∧ (∀ q ∈ l, R64 q) ∧ (len1 = 0 ∨ ∃ es ss, d1 = .slice es ss ∧ len1 ≤ es.length + ss.length) := by
    obtain ⟨fuel, hf⟩ := h1
    exact open_rows64 Try.underlying23 Try.underlying50 Try.underlying27 (by kernel_rfl) rfl rfl rfl rfl rfl rfl rfl rfl rfl rfl rfl rfl rfl rfl rfl rfl rfl rfl rfl rfl rfl rfl (by kernel_rfl) (by kernel_rfl) (by kernel_rfl) (by kernel_rfl) (by kernel_rfl) (by kernel_rfl) (by kernel_rfl) (by kernel_rfl) (by kernel_rfl) (by kernel_rfl) (by kernel_rfl) (by kernel_rfl) (by kernel_rfl) (by kernel_rfl) (by kernel_rfl) (by kernel_rfl) (by kernel_rfl) (by kernel_rfl) (by kernel_rfl) (by kernel_rfl) (by kernel_rfl) (by kernel_rfl) (by kernel_rfl) (by kernel_rfl) (by kernel_rfl) (by kernel_rfl) (by kernel_rfl) (by kernel_rfl) (by kernel_rfl) (by kernel_rfl) (by kernel_rfl) (by kernel_rfl) (by kernel_rfl) (by kernel_rfl) (by kernel_rfl) (by kernel_rfl) (by kernel_rfl) (by kernel_rfl) (by kernel_rfl) (by kernel_rfl) rfl (by kernel_rfl) rfl (by kernel_rfl) rfl rfl rfl (by kernel_rfl) (by kernel_rfl) (by kernel_rfl) (by kernel_rfl) (by kernel_rfl) (by kernel_rfl) hf
  have z1 : a1 = none → cap1 = 0 := by
    obtain ⟨fuel, hf⟩ := k1
    exact (open_cap2 Try.underlying23 hf).2
  have b1 : len1 ≤ 733007751829 := by
    rcases s1 with g | ⟨es, ss, hd, hle⟩
    · omega
    · have g := sized_slice hsz (j := 1) (t := 23) (e := 50) (elems := es) (spare := ss) rfl (by rw [hd]; rfl) Try.underlying23
      rw [show Try.prog.bytesOf 50 = 192 from by kernel_rfl] at g
      have r8 : reachBytes = 140737488351232 := by decide
      omega
  subst hx1
  obtain ⟨a2, len2, cap2, rfl⟩ := okWide_slice Try.underlying24 (hval 2 24 v2 rfl rfl)
  have k2 := h2
  have lt2 : ∀ x ∈ p2, x.block < W.heap.size := by obtain ⟨m, hm⟩ := k2; exact DataW.trod_lt m _ _ _ hm
  obtain ⟨F2, w2, s2⟩ : ∃ z : Nat → Int, NS W a2 len2 z ∧ (len2 = 0 ∨ ∃ es ss, d2 = .slice es ss ∧ len2 ≤ es.length + ss.length) := by
    obtain ⟨fuel, hf⟩ := h2
    exact open_ns Try.underlying24 Try.underlying3 (by kernel_rfl) hf
  have b2 : len2 ≤ 17592186044416 := by
    rcases s2 with g | ⟨es, ss, hd, hle⟩
    · omega
    · have g := sized_slice hsz (j := 2) (t := 24) (e := 3) (elems := es) (spare := ss) rfl (by rw [hd]; rfl) Try.underlying24
      rw [show Try.prog.bytesOf 3 = 8 from by kernel_rfl] at g
      have r8 : reachBytes = 140737488351232 := by decide
      omega
  clear hA0 hval0
  refine (hat_any w0 b0 z0 w1 n1 b1 z1 c1 w2 b2).mono fun e W' ⟨he, bel⟩ => ?_
  subst he
  exact ⟨_, rfl, _, _, _, [], _, [], hW', trodAll_mk1 (shut_bool Try.underlying4 _), (trodAll_cons_mk (Below.trod laidOut (by kernel_rfl) (of_decide_eq_true (by kernel_rfl)) k0 bel lt0) (trodAll_cons_mk (Below.trod laidOut (by kernel_rfl) (of_decide_eq_true (by kernel_rfl)) k1 bel lt1) (trodAll_cons_mk (Below.trod laidOut (by kernel_rfl) (of_decide_eq_true (by kernel_rfl)) k2 bel lt2) trodAll_mk0))), rfl, bel.frame _, fun h => by cases h⟩
theorem over : Rows.historyAtRow.holds Try.pinned (OpenSpec.ofChange Rows.historyAtSpec) :=
  OpenClaim.holds_of_wide 3 Try.f3 rfl rfl rfl rfl rfl rfl rfl ⟨rfl, rfl, rfl, rfl, rfl⟩ rfl rfl rfl rfl rfl (by kernel_rfl) Try.func3 (by kernel_rfl)
    (of_decide_eq_true (by kernel_rfl)) (by unfold Func.isWrapper; first | (rw [if_pos (by decide +kernel)]; kernel_rfl) | (rw [if_neg (by decide +kernel)]; exact ⟨rfl, rfl⟩))
    (fun os started H enc _ => lifted os started H enc)
end Go.Proofs.Ytmnmphkkcabkiaa.historyAtLaw
namespace Go.Proofs.Ytmnmphkkcabkiaa
theorem historyAt_holds : Rows.HistoryAtSaid := historyAtLaw.over
#print axioms historyAt_holds
end Go.Proofs.Ytmnmphkkcabkiaa

