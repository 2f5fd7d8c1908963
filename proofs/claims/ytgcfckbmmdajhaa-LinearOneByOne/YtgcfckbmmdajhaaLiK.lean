import Derived.Test.YtgcfckbmmdajhaaLiI
import Derived.Test.YtgcfckbmmdajhaaLiJ
namespace Go.Proofs.Ytgcfckbmmdajhaa
open Go.RowKit
/-! The places of the calls with a point: without memory. -/
def plK (l : List Cl) (k : Nat) : List Nat := (List.range k).filter (fun i => ptOf l i != -1)
theorem plK_none {l : List Cl} {k : Nat} (h : ptOf l k = -1) : plK l (k + 1) = plK l k := by
  unfold plK
  rw [List.range_succ, List.filter_append, List.filter_cons_of_neg (by simp [h])]
  simp
theorem plK_some {l : List Cl} {k : Nat} (h : ptOf l k ≠ -1) : plK l (k + 1) = plK l k ++ [k] := by
  unfold plK
  rw [List.range_succ, List.filter_append, List.filter_cons_of_pos (by simp [h])]
  simp
theorem mem_plK {l : List Cl} {k i : Nat} : i ∈ plK l k ↔ i < k ∧ ptOf l i ≠ -1 := by
  unfold plK
  rw [List.mem_filter, List.mem_range]
  simp
theorem nodup_plK (l : List Cl) (k : Nat) : (plK l k).Nodup := List.Nodup.sublist List.filter_sublist List.nodup_range
/-- A list of calls may be. -/
def MayL (l : List Cl) : Prop := (∀ i, i < l.length → mayP (l.getD i cl0) = true) ∧ Apt l l.length
theorem strictP (f : Nat → Int) : ∀ {M : List Nat}, M.Pairwise (fun i j => f i ≤ f j) → (∀ j, j + 1 < M.length → f (M.getD j 0) ≠ f (M.getD (j + 1) 0)) → M.Pairwise (fun i j => f i < f j)
  | [], _, _ => List.Pairwise.nil
  | [a], _, _ => by simp
  | a :: b :: T, h, hA => by
    have h' := List.pairwise_cons.1 h
    have ih := strictP f h'.2 (fun j hj => by have := hA (j + 1) (by simpa using hj); simpa using this)
    have hab : f a < f b := by
      have h1 := h'.1 b (by simp)
      have h2 : f a ≠ f b := hA 0 (by simp)
      omega
    refine List.pairwise_cons.2 ⟨fun x hx => ?_, ih⟩
    rcases List.mem_cons.1 hx with rfl | hx
    · exact hab
    · have := (List.pairwise_cons.1 ih).1 x hx
      omega
theorem pw_two (f : Nat → Int) : ∀ {M : List Nat}, M.Pairwise (fun i j => f i < f j) → ∀ a ∈ M, ∀ b ∈ M, a ≠ b → f a ≠ f b
  | [], _, a, ha, _, _, _ => by cases ha
  | x :: M, h, a, ha, b, hb, hab => by
    have h' := List.pairwise_cons.1 h
    rcases List.mem_cons.1 ha with rfl | ha
    · rcases List.mem_cons.1 hb with rfl | hb
      · exact absurd rfl hab
      · have := h'.1 b hb
        omega
    · rcases List.mem_cons.1 hb with eb | hb
      · have := h'.1 a ha
        rw [eb]
        omega
      · exact pw_two f h'.2 a ha b hb hab
theorem ord_ok {l : List Cl} {M : List Nat} (hm : ∀ i, i < l.length → mayP (l.getD i cl0) = true) (hp : (plK l l.length).Perm M) (hs : M.Pairwise (fun i j => ptOf l i ≤ ptOf l j)) (hA : ∀ j, j + 1 < M.length → ptOf l (M.getD j 0) ≠ ptOf l (M.getD (j + 1) 0)) : MayL l ∧ M = byP l l.length := by
  have hst := strictP (ptOf l) hs hA
  have hmem : ∀ i, i ∈ M ↔ i < l.length ∧ ptOf l i ≠ -1 := fun i => hp.symm.mem_iff.trans mem_plK
  have ha : Apt l l.length := fun i j hij hj hpj e => by
    have m1 := (hmem i).2 ⟨by omega, by rw [e]; exact hpj⟩
    have m2 := (hmem j).2 ⟨hj, hpj⟩
    exact pw_two (ptOf l) hst i m1 j m2 (by omega) e
  exact ⟨⟨hm, ha⟩, places_eq ha hst hmem⟩
theorem ord_no {l : List Cl} {M : List Nat} (hp : (plK l l.length).Perm M) {j : Nat} (hj : j + 1 < M.length) (he : ptOf l (M.getD j 0) = ptOf l (M.getD (j + 1) 0)) : ¬ MayL l := by
  rintro ⟨-, ha⟩
  have hmem : ∀ i, i ∈ M ↔ i < l.length ∧ ptOf l i ≠ -1 := fun i => hp.symm.mem_iff.trans mem_plK
  have hn : M.Nodup := hp.nodup_iff.1 (nodup_plK l _)
  have e1 : M.getD j 0 = M[j] := by rw [List.getD_eq_getElem?_getD, List.getElem?_eq_getElem (by omega)]; rfl
  have e2 : M.getD (j + 1) 0 = M[j + 1] := by rw [List.getD_eq_getElem?_getD, List.getElem?_eq_getElem hj]; rfl
  rw [e1, e2] at he
  have hne : M[j] ≠ M[j + 1] := fun e => by
    have := (List.getElem_inj (h₀ := by omega) (h₁ := hj) hn).1 e
    omega
  have m1 := (hmem _).1 (List.getElem_mem (l := M) (n := j) (by omega))
  have m2 := (hmem _).1 (List.getElem_mem (l := M) (n := j + 1) hj)
  rcases Nat.lt_or_gt_of_ne hne with h | h
  · exact ha _ _ h m2.1 m2.2 he
  · exact ha _ _ h m1.1 m1.2 he.symm
/-! Calls in memory. -/
def CSL (w : World) (a : Option Addr) (l : List Cl) : Prop := ∀ i, i < l.length → ∃ b off, a = some ⟨b, off, none⟩ ∧ ∀ j v, (l.getD i cl0).cells[j]? = some v → w.cell? ⟨b, off + i * 8 + j, none⟩ = some v
theorem CSL.keepS {w w' : World} {a : Option Addr} {l : List Cl} {S : Nat → Prop} (h : CSL w a l) (k : Keeps S w w') (hS : 0 < l.length → ∀ b off, a = some ⟨b, off, none⟩ → b < w.heap.size → ¬ S b) : CSL w' a l := fun i hi => by
  obtain ⟨b, off, e, hc⟩ := h i hi
  exact ⟨b, off, e, fun j v hv => k.cell (hc j v hv) (hS (by omega) b off e (World.block_lt_of_cell? _ _ (hc j v hv)))⟩
theorem CSL.keep {w w' : World} {a : Option Addr} {l : List Cl} (h : CSL w a l) (k : Keeps (fun _ => False) w w') : CSL w' a l := h.keepS k (fun _ _ _ _ _ e => e)
theorem CSL.lt {w : World} {a : Option Addr} {l : List Cl} (h : CSL w a l) (hl : 0 < l.length) : ∃ b off, a = some ⟨b, off, none⟩ ∧ b < w.heap.size := by
  obtain ⟨b, off, e, hc⟩ := h 0 hl
  exact ⟨b, off, e, World.block_lt_of_cell? _ _ (hc 0 _ rfl)⟩
def pvs (L : List Nat) : List Value := L.map (fun i : Nat => Value.int .i64 (i : Int))
theorem pvs_len (L : List Nat) : (pvs L).length = L.length := by unfold pvs; rw [List.length_map]
theorem pvs_get {L : List Nat} {i : Nat} (h : i < L.length) : (pvs L)[i]? = some (.int .i64 ((L.getD i 0 : Nat) : Int)) := by
  unfold pvs
  rw [List.getElem?_map, List.getElem?_eq_getElem h, List.getD_eq_getElem?_getD, List.getElem?_eq_getElem h]
  rfl
theorem uI : Try.prog.underlying 29 = some (.slice 3) := by kernel_rfl
theorem iI : (Try.prog.info? 3).map (fun i => (i.zero, i.size, i.bytes)) = some (some (.int .i64 0), 1, 8) := by kernel_rfl
/-- A place behind a list of the call's own. -/
theorem append_pl {W : World} {base m : Nat} {v : Value} {L : List Nat} (hO : W.ownsRow base 3 1 v m (pvs L)) (hb : base ≤ W.heap.size) (hm : (m + 1) * 8 ≤ 140737488355328) (x : Nat) :
    ∃ a' c' W', (Builtin.append_ #[29, 29] 29 #[v, .slice (some ⟨W.heap.size, 0, none⟩) 1 1]).run Try.prog (W.alloc (.cells #[.int .i64 (x : Int)] 3)) = .ok (.slice a' (m + 1) c') W' ∧ W'.ownsRow base 3 1 (.slice a' (m + 1) c') (m + 1) (pvs (L ++ [x])) ∧ Keeps (fun i => v.ownBlock = some i) W W' ∧ ((Value.slice a' (m + 1) c').ownBlock = v.ownBlock ∨ (Value.slice a' (m + 1) c').ownBlock = some (W.heap.size + 1)) := by
  obtain ⟨v', W', q1, q2, q3, q4⟩ := append_sz uI iI rfl (by decide) hO hb (by decide) hm [.int .i64 (x : Int)] rfl (fun u hu => by simp at hu; subst hu; rfl)
  have e : pvs (L ++ [x]) = pvs L ++ [.int .i64 (x : Int)] := by unfold pvs; rw [List.map_append]; rfl
  rw [← e] at q2
  obtain ⟨a', c', rfl, -⟩ := own_slice q2
  exact ⟨a', c', W', q1, q2, q3, q4⟩
/-- The sort of places by their points (slices.SortFunc with the closure of ordered). -/
def SoP : Prop := ∀ (w : World) (bx base : Nat) (a : Option Addr) (cap : Nat) (l : List Cl) (L : List Nat) (v : Value), CSL w a l → w.cell? ⟨bx, 0, none⟩ = some (.slice a l.length cap) → bx < base → (0 < l.length → ∀ b off, a = some ⟨b, off, none⟩ → b < base) → (∀ i ∈ L, i < l.length) → L.length ≤ l.length → l.length ≤ 4611686018427387903 → w.ownsRow base 3 1 v L.length (pvs L) →
  Calls Try.prog 20 #[v, .func (.func 21) #[] #[.pointer (some ⟨bx, 0, none⟩)]] w fun e w' => e = .returned (.tuple #[]) ∧ ∃ M : List Nat, L.Perm M ∧ M.Pairwise (fun i j => ptOf l i ≤ ptOf l j) ∧ w'.ownsRow base 3 1 v L.length (pvs M) ∧ Keeps (fun b => v.ownBlock = some b) w w'
/-- What ordered answers. -/
def OrdP (l : List Cl) (w w' : World) (v : Value) (ec : Int) : Prop := (ec = 0 ∧ MayL l ∧ w'.ownsRow w.heap.size 3 1 v (byP l l.length).length (pvs (byP l l.length))) ∨ (ec = 171 ∧ ¬ MayL l ∧ v = .slice none 0 0)
end Go.Proofs.Ytgcfckbmmdajhaa
