import Derived.Test.YthmlppepgcjfgaaBdH
import Derived.Test.YthmlppepgcjfgaaShelf
import Derived.Sort.OwnSortedInts
import Derived.Lib.SlicesCompact
namespace Go.Proofs.Ythmlppepgcjfgaa
open Go.RowKit Go.Deep Go.ChangeShapes Go.WideShapes Go.ChangeAt
/-- slices.Sort on such a list. -/
theorem sort_own {w : World} {base : Nat} {v : Value} {zs : List Int} (hown : w.ownsRow base 3 1 v zs.length (ivs zs)) (hz : zs.length ≤ 1048576) :
    Calls Try.prog 40 #[v] w fun e w' => e = .returned (.tuple #[]) ∧ w'.ownsRow base 3 1 v zs.length (ivs (zs.mergeSort fun x y => decide (x ≤ y))) ∧ Keeps (fun k => v.ownBlock = some k) w w' := by
  rcases hown.2 with ⟨rfl, h0⟩ | ⟨g, cap, cur, rfl, hb, hgg, hle, hcap, hcur, htk⟩
  · have hz0 : zs = [] := List.eq_nil_of_length_eq_zero h0
    subst hz0
    refine (Try.slices_Sort_int_none none 0 w).mono ?_
    rintro e w' ⟨rfl, rfl⟩
    exact ⟨rfl, ⟨by simp [ivs], .inl ⟨rfl, rfl⟩⟩, Keeps.refl _ _⟩
  · rw [Nat.mul_one] at htk
    have hH := holds_of_blockI (ss := zs) hgg htk
    refine (Try.slices_Sort_int g 0 cap zs w hH (Array.getElem?_eq_some_iff.1 hgg).1 (by omega)).mono ?_
    rintro e w' ⟨rfl, n, os, rfl⟩
    refine ⟨rfl, ownsRow_sortedI (by rw [List.length_mergeSort]) hb hgg hle hcap hcur, (Keeps.refl _ w).grown (grownBy_sortedI _) (fun i _ e => by injection e with e; subst e; rfl)⟩
/-- slices.Compact. -/
theorem compact_own {w : World} {base : Nat} {v : Value} {zs : List Int} (hown : w.ownsRow base 3 1 v zs.length (ivs zs)) (hz : zs.length ≤ 1048576) :
    Calls Try.prog 41 #[v] w fun e w' => ∃ a cap, e = .returned (.slice a (Lib.compact zs).length cap) ∧ (∀ j x, (Lib.compact zs)[j]? = some x → ∃ g, a = some ⟨g, 0, none⟩ ∧ w'.cell? ⟨g, j, none⟩ = some (.int .i64 x) ∧ v.ownBlock = some g) ∧ Keeps (fun k => v.ownBlock = some k) w w' := by
  rcases hown.2 with ⟨rfl, h0⟩ | ⟨g, cap, cur, rfl, hb, hgg, hle, hcap, hcur, htk⟩
  · have hz0 : zs = [] := List.eq_nil_of_length_eq_zero h0
    subst hz0
    refine (Try.slices_Compact_int_empty none 0 w).mono ?_
    rintro e w' ⟨rfl, rfl⟩
    exact ⟨none, 0, rfl, fun j x hx => by simp [Lib.compact, Lib.compactUpTo] at hx, Keeps.refl _ _⟩
  · rw [Nat.mul_one] at htk
    have hH := holds_of_blockI (ss := zs) hgg htk
    have hlt := (Array.getElem?_eq_some_iff.1 hgg).1
    have hcl : (Lib.compact zs).length ≤ zs.length := by
      unfold Lib.compact Lib.compactUpTo
      rw [List.length_map]
      exact Nat.le_trans (List.length_filter_le _ _) (by simp)
    refine (Try.slices_Compact_int g 0 cap zs w hH (by omega) hle).mono ?_
    rintro e w' ⟨rfl, q, rfl⟩
    refine ⟨_, _, rfl, fun j x hx => ⟨g, rfl, ?_, rfl⟩, ?_⟩
    · have hj : j < (Lib.compact zs).length := (List.getElem?_eq_some_iff.1 hx).1
      have := Sort.cell?_putRow (Value.int .i64) (Sort.ahead w q) g 0 zs.toArray (Lib.compact zs ++ List.replicate (zs.length - (Lib.compact zs).length) 0).toArray hH (by simp; omega) j (by simp; omega)
      rw [Nat.zero_add] at this
      rw [this]
      have e2 : (Lib.compact zs ++ List.replicate (zs.length - (Lib.compact zs).length) (0 : Int)).toArray[j]! = x := by
        rw [getElem!_pos _ j (by simp; omega)]
        simp only [List.getElem_toArray]
        rw [List.getElem_append_left hj]
        exact (List.getElem?_eq_some_iff.1 hx).2
      rw [e2]
    · refine ⟨rfl, rfl, rfl, by simp [Sort.putRow, Sort.mapBlock, Sort.ahead], fun k _ hk => ?_⟩
      have : g ≠ k := fun e => hk (by rw [e]; rfl)
      simp [Sort.putRow, Sort.mapBlock, Sort.ahead, Array.getElem?_modify, this]
theorem comp_inv (d : Array Int) (hm : ∀ i j, i ≤ j → j < d.size → d[i]! ≤ d[j]!) : ∀ m, m ≤ d.size → (Lib.compactUpTo d m).Pairwise (fun x y => x < y) ∧ ∀ x, x ∈ Lib.compactUpTo d m ↔ ∃ j, j < m ∧ d[j]! = x := by
  intro m
  induction m with
  | zero =>
    intro _
    refine ⟨by simp [Lib.compactUpTo], fun x => ?_⟩
    simp [Lib.compactUpTo]
  | succ m ih =>
    intro h
    obtain ⟨h1, h2⟩ := ih (by omega)
    rw [Lib.compactUpTo_succ]
    by_cases hk : Lib.keeps d m = true
    · rw [if_pos hk]
      constructor
      · rw [List.pairwise_append]
        refine ⟨h1, by simp, fun x hx y hy => ?_⟩
        simp at hy
        subst hy
        obtain ⟨j, hj, e⟩ := (h2 x).1 hx
        have hne : d[m]! ≠ d[m - 1]! := fun q => by
          rw [Lib.keeps_neg (by omega) q] at hk
          cases hk
        have q1 := hm j (m - 1) (by omega) (by omega)
        have q2 := hm (m - 1) m (by omega) (by omega)
        omega
      · intro x
        rw [List.mem_append, h2 x]
        constructor
        · rintro (⟨j, hj, e⟩ | q)
          · exact ⟨j, by omega, e⟩
          · simp at q; exact ⟨m, by omega, q.symm⟩
        · rintro ⟨j, hj, e⟩
          by_cases c : j = m
          · subst c; exact .inr (by simp [e])
          · exact .inl ⟨j, by omega, e⟩
    · rw [if_neg hk, List.append_nil]
      refine ⟨h1, fun x => ?_⟩
      rw [h2 x]
      constructor
      · rintro ⟨j, hj, e⟩
        exact ⟨j, by omega, e⟩
      · rintro ⟨j, hj, e⟩
        by_cases c : j = m
        · subst c
          have h0 : 0 < j := Nat.pos_of_ne_zero (fun q => by
            subst q
            exact hk (Lib.keeps_lt_one d 0 (by omega)))
          have he : d[j]! = d[j - 1]! := Classical.byContradiction fun q => hk (Lib.keeps_pos q)
          exact ⟨j - 1, by omega, by rw [← he]; exact e⟩
        · exact ⟨j, by omega, e⟩
theorem arr_get (zs : List Int) {j : Nat} (h : j < zs.length) : zs.toArray[j]! = zs[j] := by rw [getElem!_pos _ j (by simpa using h)]; simp
theorem comp_sorted (xs : List Int) : (Lib.compact (xs.mergeSort fun x y => decide (x ≤ y))).Pairwise (fun x y => x < y) ∧ (∀ x, x ∈ Lib.compact (xs.mergeSort fun x y => decide (x ≤ y)) ↔ x ∈ xs) ∧ (Lib.compact (xs.mergeSort fun x y => decide (x ≤ y))).length ≤ xs.length := by
  have hs : (xs.mergeSort fun x y => decide (x ≤ y)).Pairwise (fun x y => decide (x ≤ y) = true) := List.pairwise_mergeSort (fun a b c h1 h2 => by simp at *; omega) (fun a b => by simp; omega) xs
  have hmem : ∀ x, x ∈ (xs.mergeSort fun x y => decide (x ≤ y)) ↔ x ∈ xs := fun x => List.mem_mergeSort
  have hlen : (xs.mergeSort fun x y => decide (x ≤ y)).length = xs.length := List.length_mergeSort xs
  generalize (xs.mergeSort fun x y => decide (x ≤ y)) = zs at *
  have hm : ∀ i j, i ≤ j → j < zs.toArray.size → zs.toArray[i]! ≤ zs.toArray[j]! := fun i j hij hj => by
    have hj' : j < zs.length := by simpa using hj
    rw [arr_get zs hj', arr_get zs (show i < zs.length by omega)]
    by_cases e : i = j
    · subst e; exact Int.le_refl _
    · have := List.pairwise_iff_getElem.1 hs i j (by omega) hj' (by omega)
      simpa using this
  obtain ⟨h1, h2⟩ := comp_inv zs.toArray hm zs.length (by simp)
  refine ⟨h1, fun x => ?_, ?_⟩
  · rw [← hmem x]
    refine (h2 x).trans ?_
    constructor
    · rintro ⟨j, hj, e⟩
      rw [arr_get zs hj] at e
      rw [← e]
      exact List.getElem_mem hj
    · intro hx
      obtain ⟨j, hj, e⟩ := List.getElem_of_mem hx
      exact ⟨j, hj, by rw [arr_get zs hj]; exact e⟩
  · rw [← hlen]
    unfold Lib.compact Lib.compactUpTo
    rw [List.length_map]
    exact Nat.le_trans (List.length_filter_le _ _) (by simp)
set_option maxHeartbeats 1000000 in
set_option maxRecDepth 100000 in
theorem once_any : OnC := fun W base v xs hown hb hn _ => by
  have hS := sort_own hown hn
  have HC : Hid (∀ W2, W2.ownsRow base 3 1 v xs.length (ivs (xs.mergeSort fun x y => decide (x ≤ y))) → Keeps (fun k => v.ownBlock = some k) W W2 → Calls Try.prog 41 #[v] W2 fun e w' => OnP base v xs W e w') := fun W2 h k => by
    have hl : (xs.mergeSort fun x y => decide (x ≤ y)).length = xs.length := List.length_mergeSort xs
    obtain ⟨c1, c2, c3⟩ := comp_sorted xs
    refine (compact_own (by rw [hl]; exact h) (by rw [hl]; exact hn)).mono ?_
    rintro e w' ⟨a, cap, rfl, hc, k2⟩
    refine ⟨a, _, cap, rfl, fun i hi => ?_, fun h0 b off e => ?_, c1, c2, c3, k.trans' k2 (fun _ _ e => e) (fun _ _ e => e)⟩
    · obtain ⟨g, e, hg, -⟩ := hc i _ (List.getElem?_eq_getElem hi)
      refine ⟨g, e, ?_⟩
      rw [hg, List.getD_eq_getElem?_getD, List.getElem?_eq_getElem hi]
      rfl
    · obtain ⟨g, e2, -, ho⟩ := hc 0 _ (List.getElem?_eq_getElem h0)
      rw [e] at e2
      injection e2 with e2
      injection e2 with e2 _ _
      rw [e2]
      exact owns_baseT h g ho
  go_enter Try.func28, Try.ntmps28
  go_wp2_with (first | (go_at_call 40; refine hS.mono ?_; clear hS; rintro e w2 ⟨rfl, ho2, k2⟩; have hc := HC.out w2 ho2 k2; clear HC ho2 k2) | (go_at_call 41; refine hc.mono ?_; clear hc; intro e w3 hob; obtain ⟨ra, ys, rc, rfl, hrest⟩ := hob; have HOB : Hid (OnP base v xs W (.returned (.slice ra ys.length rc)) w3) := ⟨ra, ys, rc, rfl, hrest⟩; clear hrest))
  go_ret
  exact HOB.out
end Go.Proofs.Ythmlppepgcjfgaa
