import Derived.Test.YtpjobehlbkckgaaIkC
namespace Go.Proofs.Ytpjobehlbkckgaa
open Go.RowKit Go.Deep
attribute [local go_sem] Oper.semAt_some run_store_nf run_store_f
theorem vcl_len (l : List V3) : (vcl l).length = l.length * 3 := by
  unfold vcl
  induction l with
  | nil => rfl
  | cons v r ih => rw [List.flatMap_cons, List.length_append, ih]; simp [V3.cells]; omega
theorem vcl_get {l : List V3} {j : Nat} {u : Value} (h : (vcl l)[j]? = some u) : ∃ v, l[j / 3]? = some v ∧ v.cells[j % 3]? = some u := by
  induction l generalizing j with
  | nil => simp [vcl] at h
  | cons v r ih =>
    have e : vcl (v :: r) = v.cells ++ vcl r := by unfold vcl; rw [List.flatMap_cons]
    rw [e] at h
    by_cases hj : j < 3
    · rw [List.getElem?_append_left (by simpa [V3.cells] using hj)] at h
      refine ⟨v, ?_, ?_⟩
      · rw [Nat.div_eq_of_lt hj]; rfl
      · rw [Nat.mod_eq_of_lt hj]; exact h
    · rw [List.getElem?_append_right (by simp [V3.cells]; omega)] at h
      have hl : v.cells.length = 3 := rfl
      rw [hl] at h
      obtain ⟨x, h1, h2⟩ := ih h
      refine ⟨x, ?_, ?_⟩
      · rw [show j / 3 = (j - 3) / 3 + 1 by omega, List.getElem?_cons_succ]; exact h1
      · rw [show j % 3 = (j - 3) % 3 by omega]; exact h2
theorem vcl_at {l : List V3} {i : Nat} {v : V3} (h : l[i]? = some v) {c : Nat} (hc : c < 3) : (vcl l)[i * 3 + c]? = v.cells[c]? := by
  induction l generalizing i with
  | nil => simp at h
  | cons x r ih =>
    have e : vcl (x :: r) = x.cells ++ vcl r := by unfold vcl; rw [List.flatMap_cons]
    have hl : x.cells.length = 3 := rfl
    rw [e]
    cases i with
    | zero =>
      simp at h
      subst h
      rw [List.getElem?_append_left (by omega)]; congr 1; omega
    | succ i =>
      rw [List.getElem?_cons_succ] at h
      rw [List.getElem?_append_right (by omega), hl, show (i + 1) * 3 + c - 3 = i * 3 + c by omega]
      exact ih h
/-- Values' cells out of their list. -/
theorem VL.src {w : World} {a : Addr} {l : List V3} (h : VL w (some a) l) : ∀ j u, (vcl l)[j]? = some u → w.cell? (a.add j) = some u := fun j u hu => by
  obtain ⟨v, h1, h2⟩ := vcl_get hu
  obtain ⟨b, off, e, c0, c1, c2⟩ := h _ _ h1
  cases e
  rw [add_at]
  have hm : j % 3 < 3 := Nat.mod_lt _ (by decide)
  rcases (by omega : j % 3 = 0 ∨ j % 3 = 1 ∨ j % 3 = 2) with hj | hj | hj
  · rw [hj] at h2; cases h2; rw [show off + j = off + j / 3 * 3 by omega]; exact c0
  · rw [hj] at h2; cases h2; rw [show off + j = off + j / 3 * 3 + 1 by omega]; exact c1
  · rw [hj] at h2; cases h2; rw [show off + j = off + j / 3 * 3 + 2 by omega]; exact c2
theorem vcl_plain {l : List V3} : ∀ u ∈ vcl l, u ≠ .nilFunc ∧ True := fun u hu => by
  obtain ⟨v, _, h⟩ := List.mem_flatMap.1 hu
  simp [V3.cells] at h
  rcases h with rfl | rfl | rfl <;> exact ⟨by simp, trivial⟩
theorem copy_v {W0 : World} {a : Option Addr} {vs : List V3} (co : Nat) (hV : VL W0 a vs) (hz : a = none → co = 0) (hn : vs.length ≤ 1048576) :
    ∃ v' W', (Builtin.append_ #[22, 22] 22 #[.slice (some ⟨W0.heap.size, 0, none⟩) 0 0, .slice a vs.length co]).run Try.prog (W0.alloc (.cells #[] 24)) = .ok v' W' ∧ W'.ownsRow W0.heap.size 24 3 v' vs.length (vcl vs) ∧ Keeps (fun _ => False) W0 W' := by
  obtain ⟨i0, hi0, hz0, hz1, hz2⟩ := vali
  have k0 : Keeps (fun _ => False) W0 (W0.alloc (.cells #[] 24)) := (Keeps.refl _ W0).alloc _
  have o0 : (W0.alloc (.cells #[] 24)).ownsRow W0.heap.size 24 3 (.slice (some ⟨W0.heap.size, 0, none⟩) 0 0) 0 [] := ⟨rfl, .inr ⟨W0.heap.size, 0, #[], rfl, Nat.le_refl _, heap_alloc_new W0 _, Nat.le_refl _, by unfold maxLen; omega, rfl, rfl⟩⟩
  cases a with
  | none =>
    have hl : vs = [] := by
      cases vs with
      | nil => rfl
      | cons x r => obtain ⟨b, off, e, _⟩ := hV 0 x rfl; cases e
    subst hl
    rw [hz rfl]
    exact ⟨_, _, run_append_owned_none (P := Try.prog) (w := W0.alloc (.cells #[] 24)) W0.heap.size 22 22 24 i0 3 vI hi0 _ 0 [] o0, o0, k0⟩
  | some a =>
    obtain ⟨v', w', hr, ho, hgr, _, _⟩ := run_append_own_at (P := Try.prog) (w := W0.alloc (.cells #[] 24)) W0.heap.size 22 22 24 i0 _ 3 24 vI hi0 hz0 hz1 hz2 rfl (by decide) _ 0 [] o0 a vs.length co (vcl vs) (by rw [vcl_len]) ((hV.keep k0).src) (fun u hu => by
      obtain ⟨v, _, h⟩ := List.mem_flatMap.1 hu
      simp [V3.cells] at h
      rcases h with rfl | rfl | rfl <;> rfl) (by unfold maxLen; omega) (by omega) k0.size
    rw [Nat.zero_add, List.nil_append] at ho
    exact ⟨v', w', hr, ho, k0.trans' ((Keeps.refl _ _).grown hgr (S := fun i => i = W0.heap.size) (fun i _ e => by simp [Value.ownBlock] at e; exact e.symm)) (fun _ _ e => e) (fun i hi e => by omega)⟩
theorem append_two {W : World} {base k : Nat} {v : Value} {vs : List V3} (hown : W.ownsRow base 24 3 v k (vcl vs)) (hb : base ≤ W.heap.size) (hk : (k + 2) * 24 ≤ 140737488355328) (x y : V3) :
    ∃ v' w', (Builtin.append_ #[22, 22] 22 #[v, .slice (some ⟨W.heap.size, 0, none⟩) 2 2]).run Try.prog (W.alloc (.cells #[.int .i64 x.num, .int .i64 x.next, .bool x.dead, .int .i64 y.num, .int .i64 y.next, .bool y.dead] 24)) = .ok v' w' ∧ w'.ownsRow base 24 3 v' (k + 2) (vcl (vs ++ [x, y])) ∧ Keeps (fun i => v.ownBlock = some i) W w' := by
  obtain ⟨i0, hi0, hz0, hz1, hz2⟩ := vali
  obtain ⟨v', w', hr, ho, hg, _, hbl⟩ := run_append_own_at (P := Try.prog) (w := W.alloc (.cells (vcl [x, y]).toArray 24)) base 22 22 24 i0 _ 3 24 vI hi0 hz0 hz1 hz2 rfl (by decide) v k (vcl vs) (((Keeps.refl (fun _ => False) W).alloc _).owns hown (fun _ _ e => e)) ⟨W.heap.size, 0, none⟩ 2 2 (vcl [x, y]) rfl (fun j u hu => by
      rw [add_at]
      have := (CL.made W (vcl [x, y]) 24).c j u hu
      simpa using this) (fun u hu => by
      obtain ⟨v, _, h⟩ := List.mem_flatMap.1 hu
      simp [V3.cells] at h
      rcases h with rfl | rfl | rfl <;> rfl) (by unfold maxLen; omega) (by omega) (Nat.le_trans hb (by simp))
  refine ⟨v', w', hr, ?_, ((Keeps.refl _ W).alloc _).grown hg (fun i _ e => e)⟩
  unfold vcl
  rw [List.flatMap_append]
  exact ho
theorem vl_of_owns {W : World} {base n : Nat} {v : Value} {l : List V3} (h : W.ownsRow base 24 3 v n (vcl l)) (h0 : 0 < n) : ∃ g cap, v = .slice (some ⟨g, 0, none⟩) n cap ∧ base ≤ g ∧ g < W.heap.size ∧ n ≤ cap ∧ VL W (some ⟨g, 0, none⟩) l := by
  rcases h.2 with ⟨rfl, h1⟩ | ⟨g, cap, cur, rfl, hb, hgg, rest⟩
  · have hz : n = 0 := by first | exact h1.1 | omega
    omega
  · refine ⟨g, cap, rfl, hb, owns_lt' h g rfl, ?_, fun i v hv => ⟨g, 0, rfl, ?_⟩⟩
    · obtain ⟨r1, _⟩ := rest
      first | exact r1 | omega
    · have hc : ∀ c u, c < 3 → v.cells[c]? = some u → W.cell? ⟨g, 0 + i * 3 + c, none⟩ = some u := fun c u hc hu => by
        have := h.cells (g := g) rfl (i * 3 + c) u (by rw [vcl_at hv hc]; exact hu)
        rwa [add_at, ← Nat.add_assoc] at this
      exact ⟨hc 0 _ (by decide) rfl, hc 1 _ (by decide) rfl, hc 2 _ (by decide) rfl⟩
end Go.Proofs.Ytpjobehlbkckgaa
