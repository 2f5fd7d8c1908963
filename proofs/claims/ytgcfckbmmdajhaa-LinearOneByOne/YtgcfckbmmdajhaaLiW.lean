import Derived.Test.YtgcfckbmmdajhaaLiY
namespace Go.Proofs.Ytgcfckbmmdajhaa
open Go.RowKit
theorem may_pt {c : Cl} (h : mayP c = true) : 0 ≤ c.from_ ∧ (c.to_ ≠ -1 → c.point ≠ -1 ∧ c.point < c.to_) ∧ (c.point ≠ -1 → c.from_ < c.point) := by
  unfold mayP at h
  split at h
  · cases h
  · rename_i h0
    have hf : 0 ≤ c.from_ := by
      by_cases q : c.from_ < 0
      · exact absurd (.inr (.inr q)) h0
      · omega
    split at h
    · rename_i h1
      have : c.to_ = -1 := by simpa using h
      exact ⟨hf, fun q => absurd this q, fun q => absurd h1 q⟩
    · rename_i h1
      simp at h
      exact ⟨hf, fun q => ⟨h1, h.2.resolve_left q⟩, fun _ => h.1⟩
theorem goL_of {l : List Cl} {L : List Nat} (h : ∀ k, k < L.length → L.getD k 0 < l.length ∧ okN l (L.take k) (setK l L k) (L.getD k 0) = true) : ∀ m k, k + m = L.length → GoL l (L.take k) (setK l L k) (L.drop k)
  | 0, k, e => by
    rw [List.drop_eq_nil_iff.2 (by omega)]
    trivial
  | m + 1, k, e => by
    have hk : k < L.length := by omega
    have e1 : L.drop k = L.getD k 0 :: L.drop (k + 1) := by
      rw [List.drop_eq_getElem_cons hk, List.getD_eq_getElem?_getD, List.getElem?_eq_getElem hk]
      rfl
    rw [e1]
    refine ⟨(h k hk).1, (h k hk).2, ?_⟩
    have := goL_of h m (k + 1) (by omega)
    rw [take_nextP hk] at this
    exact this
theorem sorted_before (f : Nat → Int) {L : List Nat} (hs : L.Pairwise (fun i j => f i < f j)) {a k : Nat} (ha : a ∈ L) (hk : k < L.length) (h : f a < f (L.getD k 0)) : a ∈ L.take k := by
  have e : L = L.take k ++ L.drop k := (List.take_append_drop k L).symm
  rw [e] at ha
  rcases List.mem_append.1 ha with ha | ha
  · exact ha
  · have e1 : L.drop k = L.getD k 0 :: L.drop (k + 1) := by
      rw [List.drop_eq_getElem_cons hk, List.getD_eq_getElem?_getD, List.getElem?_eq_getElem hk]
      rfl
    rw [e] at hs
    have h2 := (List.pairwise_append.1 hs).2.1
    rw [e1] at ha h2
    rcases List.mem_cons.1 ha with q | q
    · rw [q] at h
      omega
    · have := (List.pairwise_cons.1 h2).1 a q
      omega
theorem getD_mem {L : List Nat} {k : Nat} (hk : k < L.length) : L.getD k 0 ∈ L := by
  rw [List.getD_eq_getElem?_getD, List.getElem?_eq_getElem hk]
  exact List.getElem_mem hk
theorem pt_goL {l : List Cl} (hM : MayL l) (hg : ∀ j, j < (byP l l.length).length → goK l (byP l l.length) j = true) : GoL l [] [] (byP l l.length) ∧ compL l (byP l l.length) = true := by
  have hs := rise_byP hM.2
  have hmem := mem_byP l l.length
  generalize byP l l.length = L at *
  constructor
  · refine goL_of (L := L) (fun k hk => ?_) L.length 0 (by omega)
    have hp := getD_mem hk
    have hpm := (hmem _).1 hp
    refine ⟨hpm.1, ?_⟩
    have h1 : L.getD k 0 ∉ L.take k := fun hin => by
      have e1 : L.drop k = L.getD k 0 :: L.drop (k + 1) := by
        rw [List.drop_eq_getElem_cons hk, List.getD_eq_getElem?_getD, List.getElem?_eq_getElem hk]
        rfl
      have e : L = L.take k ++ L.drop k := (List.take_append_drop k L).symm
      rw [e] at hs
      have := (List.pairwise_append.1 hs).2.2 _ hin (L.getD k 0) (by rw [e1]; exact List.mem_cons_self)
      omega
    refine okN_yes h1 (fun a ha hans hto => ?_) (hg k hk)
    have hma := may_pt (hM.1 a ha)
    have hmp := may_pt (hM.1 _ hpm.1)
    have hne : (l.getD a cl0).to_ ≠ -1 := by
      unfold ansD at hans
      simpa using hans
    have h2 := hma.2.1 hne
    have h3 := hmp.2.2 hpm.2
    exact sorted_before (ptOf l) hs ((hmem a).2 ⟨ha, h2.1⟩) hk (by show (l.getD a cl0).point < (l.getD (L.getD k 0) cl0).point; omega)
  · refine decide_eq_true (fun a ha hans => ?_)
    have hma := may_pt (hM.1 a ha)
    have hne : (l.getD a cl0).to_ ≠ -1 := by
      unfold ansD at hans
      simpa using hans
    exact (hmem a).2 ⟨ha, (hma.2.1 hne).1⟩
theorem pointed_main {l : List Cl} (hM : MayL l) (h : BpP l (byP l l.length) (-1)) : fstL l ≠ none := by
  have hg : ∀ j, j < (byP l l.length).length → goK l (byP l l.length) j = true := by
    rcases h with ⟨k, _, _, _, e⟩ | ⟨h, _⟩
    · omega
    · exact h
  obtain ⟨h1, h2⟩ := pt_goL hM hg
  obtain ⟨rs, hr, -⟩ := srch_first l.length (byP l l.length) [] [] List.nodup_nil (fun _ h => by cases h) (by simp) h1 h2
  unfold fstL
  rw [hr]
  simp
theorem CSL.cut {w : World} {a : Option Addr} {l : List Cl} (h : CSL w a l) (n : Nat) : CSL w a (l.take n) := fun i hi => by
  have hi' : i < l.length ∧ i < n := by rw [List.length_take] at hi; omega
  obtain ⟨b, off, e, hc⟩ := h i hi'.1
  refine ⟨b, off, e, fun j v hv => hc j v ?_⟩
  rw [List.getD_eq_getElem?_getD, List.getElem?_take_of_lt hi'.2, ← List.getD_eq_getElem?_getD] at hv
  exact hv
end Go.Proofs.Ytgcfckbmmdajhaa
