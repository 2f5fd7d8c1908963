import Derived.Test.YthchbcfecconbaaGreatDoorSc
namespace Go.Proofs.YthchbcfecconbaaGreatDoor
open Go.RowKit Go.Deep Go.ChangeShapes Go.WideShapes Go.ChangeAt
attribute [local go_sem] Oper.semAt_some run_store_nf run_store_f
/-- Answers whose lists lie apart from one another. -/
structure AP (base : Nat) (W : World) (g N n : Nat) (B : Nat → Nat) (M : Nat → List Int) : Prop where
  r : ∀ i, i < N → W.cell? ⟨g, i * 4 + 2, none⟩ = some (.slice (some ⟨B i, 0, none⟩) n n)
  c : ∀ i, i < N → CL W (B i) (nvs (M i))
  l : ∀ i, i < N → (M i).length = n
  b : ∀ i, i < N → base ≤ B i ∧ B i < W.heap.size ∧ B i ≠ g
  d : ∀ i j, i < j → j < N → B i ≠ B j
theorem AP.keep {base g N n : Nat} {W W' : World} {B : Nat → Nat} {M : Nat → List Int} (h : AP base W g N n B M) (k : Keeps (fun _ => False) W W') : AP base W' g N n B M :=
  ⟨fun i hi => k.cell (h.r i hi) (fun e => e), fun i hi => (h.c i hi).keep0 k (fun _ e => e), h.l, fun i hi => ⟨(h.b i hi).1, Nat.lt_of_lt_of_le (h.b i hi).2.1 k.size, (h.b i hi).2.2⟩, h.d⟩
theorem AP.put {base g N n : Nat} {W : World} {B : Nat → Nat} {M : Nat → List Int} (h : AP base W g N n B M) {i k : Nat} (hi : i < N) (hk : k < n) (y : Int) : AP base (W.setCell ⟨B i, k, none⟩ (.int .i64 y)) g N n B (fun j => if j = i then (M i).set k y else M j) := by
  have hdd : ∀ j, j < N → j ≠ i → B i ≠ B j := fun j hj e => by
    rcases Nat.lt_or_ge i j with h1 | h1
    · exact h.d i j h1 hj
    · exact (h.d j i (by omega) hi).symm
  refine ⟨fun j hj => ?_, fun j hj => ?_, fun j hj => ?_, fun j hj => ?_, h.d⟩
  · have k1 : Keeps (fun b => b = B i) W (W.setCell ⟨B i, k, none⟩ (.int .i64 y)) := (Keeps.refl (fun b => b = B i) W).setCell (p := ⟨B i, k, none⟩) (fun _ => rfl) _
    exact k1.cell (h.r j hj) (fun e => (h.b i hi).2.2 e.symm)
  · by_cases e : j = i
    · subst e
      rw [if_pos rfl]
      have := (h.c j hj).set (o := k) (by unfold nvs; rw [List.length_map, h.l j hj]; exact hk) (.int .i64 y)
      unfold nvs at this ⊢
      rw [List.map_set]
      exact this
    · rw [if_neg e]
      exact (h.c j hj).other (p := ⟨B i, k, none⟩) (hdd j hj e) _
  · by_cases e : j = i
    · subst e
      rw [if_pos rfl, List.length_set]
      exact h.l j hj
    · rw [if_neg e]
      exact h.l j hj
  · refine ⟨(h.b j hj).1, by simpa using (h.b j hj).2.1, (h.b j hj).2.2⟩
theorem AP.cellk {base g N n : Nat} {W : World} {B : Nat → Nat} {M : Nat → List Int} (h : AP base W g N n B M) {i k : Nat} (hi : i < N) (hk : k < n) : ∃ x, (M i)[k]? = some x ∧ W.cell? ⟨B i, k, none⟩ = some (.int .i64 x) ∧ W.frozen? ⟨B i, k, none⟩ = false := by
  have hl := h.l i hi
  refine ⟨(M i)[k]'(by omega), List.getElem?_eq_getElem (by omega), ?_, ?_⟩
  · exact (h.c i hi).c k _ (by unfold nvs; rw [List.getElem?_map, List.getElem?_eq_getElem (by omega)]; rfl)
  · exact (h.c i hi).z k (by unfold nvs; rw [List.length_map]; omega)
theorem take_set_succ {l : List Int} {k : Nat} {y : Int} (hk : k < l.length) (h : l.take k = List.replicate k y) : (l.set k y).take (k + 1) = List.replicate (k + 1) y := by
  rw [List.take_add_one, List.take_set_of_le (Nat.le_refl _), h, List.getElem?_set_self (by simpa using hk), List.replicate_succ']
  rfl
/-- One value behind a list of lists of the call's own. -/
theorem append_gen {t e : TypeId} {z : Value} (ht : Tryz.prog.underlying t = some (.slice e)) (hinfo : (Tryz.prog.info? e).map (fun i => (i.zero, i.size, i.bytes)) = some (some z, 1, 24)) (hz : z.cells.size = 1) {W : World} {base k : Nat} {v : Value} {xs : List Value} (hown : W.ownsRow base e 1 v k xs) (hb : base ≤ W.heap.size) (hk : (k + 1) * 24 ≤ 140737488355328) (u : Value) (h1 : u.oneCell' = true) :
    ∃ v' w', (Builtin.append_ #[t, t] t #[v, .slice (some ⟨W.heap.size, 0, none⟩) 1 1]).run Tryz.prog (W.alloc (.cells #[u] e)) = .ok v' w' ∧ w'.ownsRow base e 1 v' (k + 1) (xs ++ [u]) ∧ Keeps (fun i => v.ownBlock = some i) W w' ∧ (v'.ownBlock = v.ownBlock ∨ v'.ownBlock = some (W.heap.size + 1)) := by
  obtain ⟨i0, hi0, hzz⟩ := Option.map_eq_some_iff.1 hinfo
  simp only [Prod.mk.injEq] at hzz
  obtain ⟨hz0, hz1, hz2⟩ := hzz
  obtain ⟨v', w', hr, ho, hg, _, hbl⟩ := run_append_own_at (P := Tryz.prog) (w := W.alloc (.cells [u].toArray e)) base t t e i0 _ 1 24 ht hi0 hz0 hz1 hz2 hz (by decide) v k xs (((Keeps.refl (fun _ => False) W).alloc _).owns hown (fun _ _ e => e)) ⟨W.heap.size, 0, none⟩ 1 1 [u] (by simp) (fun j y hy => by
      rw [add_at]
      have := (CL.made W [u] e).c j y hy
      simpa using this) (fun y hy => by simp at hy; rw [hy]; exact h1) (by unfold maxLen; omega) (by omega) (Nat.le_trans hb (by simp))
  exact ⟨v', w', hr, ho, ((Keeps.refl _ W).alloc _).grown hg (fun i _ e => e), by simpa using hbl⟩
/-- A number behind a list that is full: a new list. -/
theorem append_full {W : World} {b n : Nat} {xs : List Int} (hC : CL W b (nvs xs)) (hn : xs.length = n) (h16 : n ≤ 16) (y : Int) :
    ∃ v' w', (Builtin.append_ #[23, 23] 23 #[.slice (some ⟨b, 0, none⟩) n n, .slice (some ⟨W.heap.size, 0, none⟩) 1 1]).run Tryz.prog (W.alloc (.cells #[.int .i64 y] 2)) = .ok v' w' ∧ w'.ownsRow W.heap.size 2 1 v' (n + 1) (nvs (xs ++ [y])) ∧ Keeps (fun _ => False) W w' := by
  obtain ⟨i0, hi0, hz0, hz1, hz2⟩ := iNumD
  have k0 : Keeps (fun _ => False) W (W.alloc (.cells #[.int .i64 y] 2)) := (Keeps.refl _ W).alloc _
  have hln : (nvs xs).length = n := by unfold nvs; rw [List.length_map, hn]
  have hfit : Builtin.nextslicecap (n + 1) n * i0.bytes ≤ 281474976710656 := by
    rw [hz2]
    have : Builtin.nextslicecap (n + 1) n ≤ 40 := by
      unfold Builtin.nextslicecap
      split
      · omega
      · split <;> omega
    omega
  have hr := run_append_grow (P := Tryz.prog) (w := W.alloc (.cells #[.int .i64 y] 2)) 23 23 2 i0 _ uNumsD hi0 hz0 ⟨b, 0, none⟩ n n (nvs xs) (by rw [hz1, hln]; omega) (fun j v hv => by rw [add_at, Nat.zero_add]; exact (hC.keep0 k0 (fun _ e => e)).c j v hv) ⟨W.heap.size, 0, none⟩ 1 1 [.int .i64 y] (by rw [hz1]; rfl) (fun j u hu => by
      rw [add_at]
      have := (CL.made W [.int .i64 y] 2).c j u hu
      simpa using this) (by omega) (by omega) hfit
  have hge := grownCap_ge (W.alloc (.cells #[.int .i64 y] 2)) (n + 1) n 2
  refine ⟨_, _, hr, ⟨?_, .inr ⟨_, _, _, rfl, by simp, heap_alloc_new _ _, hge, grownCap_le_maxLen _ (n + 1) n 2 (by unfold maxLen; omega), ?_, ?_⟩⟩, (k0.drew).alloc _⟩
  · unfold nvs
    rw [List.length_map, List.length_append, hn]
    simp
  · simp only [Array.size_append, List.size_toArray, size_zeroCells, List.length_cons, List.length_nil, hln]
    simp [Value.cells]
    omega
  · rw [nvs_app]
    simp only [Array.toList_append]
    have e1 : (nvs xs ++ [Value.int .i64 y]).length = (n + 1) * 1 := by rw [List.length_append, hln]; simp
    rw [← e1]
    exact List.take_left
/-- A list that is being lengthened: at first the list itself, then a new one. -/
def XS (wi Wr : World) (b n : Nat) (y : Int) (k : Nat) (xv : Value) : Prop := (k = 0 ∧ xv = .slice (some ⟨b, 0, none⟩) n n) ∨ (0 < k ∧ Wr.ownsRow wi.heap.size 2 1 xv (n + k) (nvs (List.replicate (n + k) y)))
theorem xs_next {wi Wr : World} {b n k : Nat} {y : Int} {xv : Value} (h : XS wi Wr b n y k xv) (hC : CL Wr b (nvs (List.replicate n y))) (h16 : n ≤ 16) (hk : k ≤ 64) (kr : Keeps (fun _ => False) wi Wr) :
    ∃ v' w', (Builtin.append_ #[23, 23] 23 #[xv, .slice (some ⟨Wr.heap.size, 0, none⟩) 1 1]).run Tryz.prog (Wr.alloc (.cells #[.int .i64 y] 2)) = .ok v' w' ∧ XS wi w' b n y (k + 1) v' ∧ Keeps (fun _ => False) wi w' := by
  rcases h with ⟨rfl, rfl⟩ | ⟨h0, ho⟩
  · obtain ⟨v', w', hr, ho, kk⟩ := append_full hC (List.length_replicate) h16 y
    refine ⟨v', w', hr, .inr ⟨by omega, ?_⟩, kr.trans kk⟩
    rw [Nat.zero_add, List.replicate_succ']
    rcases ho.2 with ⟨rfl, e0⟩ | ⟨g, cap, cur, rfl, hb, hg, rest⟩
    · exact absurd e0 (by omega)
    · exact ⟨ho.1, .inr ⟨g, cap, cur, rfl, Nat.le_trans kr.size hb, hg, rest⟩⟩
  · obtain ⟨a', c', w', hr, ho', kk⟩ := append_n ho kr.size (by omega) y
    refine ⟨_, w', hr, .inr ⟨by omega, ?_⟩, kr.trans' kk (fun _ _ e => e) (fun i hi e => by have := owns_baseD ho i e; omega)⟩
    rw [show n + (k + 1) = n + k + 1 by omega, List.replicate_succ']
    exact ho'
theorem xs_end {wi Wr : World} {b n : Nat} {y : Int} {xv : Value} (h : XS wi Wr b n y 64 xv) : ∃ a c, xv = .slice a (n + 64) c ∧ NUM Wr a (List.replicate (n + 64) y) ∧ (∀ g off, a = some ⟨g, off, none⟩ → wi.heap.size ≤ g ∧ g < Wr.heap.size) := by
  rcases h with ⟨h, _⟩ | ⟨_, ho⟩
  · cases h
  · obtain ⟨a, c, rfl, hN, hB, _⟩ := num_of_owns ho
    exact ⟨a, c, rfl, hN, fun g off e => ⟨owns_baseD ho g (hB g off e), owns_lt' ho g (hB g off e)⟩⟩
end Go.Proofs.YthchbcfecconbaaGreatDoor
