import Derived.Test.YtfbbllokpikbiabGrQ
namespace Go.Proofs.Ytfbbllokpikbiab
open Go.RowKit Go.Deep
attribute [local go_sem] Oper.semAt_some run_store_nf run_store_f
theorem OrA.len {n : Int} {l : List Ed} {L : List Nat} {ok : Bool} {ec : Int} (h : OrA n l L ok ec) : L.length ≤ 4096 := by
  rcases h with ⟨-, -, -, rfl⟩ | ⟨h1, -, h3⟩
  · exact Nat.zero_le _
  · obtain ⟨m, g, e1, hm, e2, -⟩ := good_eg h1
    have := (h3 m g e1 e2).1.len
    omega
theorem roomy_of {W : World} {base N : Nat} {v : Value} {l : List Ed} (hN : l.length = N) (h : W.ownsRow base 30 4 v (N + 2) (ecl (l ++ [e77, e78]))) : ∃ g c, v = .slice (some ⟨g, 0, none⟩) (N + 2) c ∧ N + 2 ≤ c ∧ EL W (some ⟨g, 0, none⟩) (l ++ [e77, e78]) ∧ g < W.heap.size := by
  obtain ⟨a', c', rfl, hE, -⟩ := el_of h
  rcases h.2 with ⟨q, q2⟩ | ⟨g, cap', cur, q, -, -, h1, -⟩
  · injection q with q3 q4 q5
    omega
  · injection q with q1 _ q2
    subst q1 q2
    exact ⟨g, c', rfl, h1, hE, owns_lt' h g rfl⟩
/-- The list's block may be written. -/
theorem row_fb {W : World} {base : Nat} {la : Option Addr} {lc : Nat} {L : List Nat} (h : W.ownsRow base 3 1 (.slice la L.length lc) L.length (pvs L)) (h0 : 0 < L.length) : ∃ bl F, la = some ⟨bl, 0, none⟩ ∧ FB W bl L.length F ∧ (Value.slice la L.length lc).ownBlock = some bl := by
  obtain ⟨a', c', e, hc, -, ho⟩ := own_slice h
  injection e with e1 e2 e3
  subst e1
  obtain ⟨g, rfl, -⟩ := hc 0 _ (by unfold pvs; rw [List.getElem?_map, List.getElem?_eq_getElem h0]; rfl)
  have hcl := own_clL h
  exact ⟨g, fun i => .int .i64 ((L.getD i 0 : Nat) : Int), rfl, ⟨fun i hi => hcl.c i _ (by
    unfold pvs
    rw [List.getElem?_map, List.getElem?_eq_getElem hi, List.getD_eq_getElem?_getD, List.getElem?_eq_getElem hi]
    rfl), fun i hi => hcl.z i (by rw [pvs_len]; exact hi)⟩, rfl⟩
end Go.Proofs.Ytfbbllokpikbiab
