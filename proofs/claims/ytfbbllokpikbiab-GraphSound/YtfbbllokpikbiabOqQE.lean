import Derived.Test.YtfbbllokpikbiabOqQD
namespace Go.Proofs.Ytfbbllokpikbiab
open Go.RowKit Go.Maps

theorem add_new {w : World} {qb : Nat} {xs : List It} {F : List Nat} (h : QI w qb xs F) (x : It) (hx : I64 x.1 ∧ I64 x.2) (hn : x.2 ∉ ids xs) (hl : xs.length < 4096) :
    Calls Try.prog 43 #[.pointer (some ⟨qb, 0, none⟩), .agg #[.int .i64 x.1, .int .i64 x.2]] w fun e w' =>
      e = .returned (.int .i64 0) ∧ ∃ ys F', QI w' qb ys F' ∧ ys.Perm (xs ++ [x]) ∧ Left w w' F F' := by
  refine (add_any h x hx).mono ?_
  rintro e w' (⟨hi, _⟩ | ⟨_, hf, _⟩ | ⟨_, _, r⟩)
  · exact absurd hi hn
  · omega
  · exact r
theorem add_held {w : World} {qb : Nat} {xs : List It} {F : List Nat} (h : QI w qb xs F) (x : It) (hx : I64 x.1 ∧ I64 x.2) (hn : x.2 ∈ ids xs) :
    Calls Try.prog 43 #[.pointer (some ⟨qb, 0, none⟩), .agg #[.int .i64 x.1, .int .i64 x.2]] w fun e w' =>
      e = .returned (.int .i64 21) ∧ QI w' qb xs F ∧ Keeps (fun _ => False) w w' := by
  refine (add_any h x hx).mono ?_
  rintro e w' (⟨_, r⟩ | ⟨hi, _⟩ | ⟨hi, _⟩)
  · exact r
  · exact absurd hn hi
  · exact absurd hn hi
theorem add_full {w : World} {qb : Nat} {xs : List It} {F : List Nat} (h : QI w qb xs F) (x : It) (hx : I64 x.1 ∧ I64 x.2) (hn : x.2 ∉ ids xs) (hl : 4096 ≤ xs.length) :
    Calls Try.prog 43 #[.pointer (some ⟨qb, 0, none⟩), .agg #[.int .i64 x.1, .int .i64 x.2]] w fun e w' =>
      e = .returned (.int .i64 22) ∧ QI w' qb xs F ∧ Keeps (fun _ => False) w w' := by
  refine (add_any h x hx).mono ?_
  rintro e w' (⟨hi, _⟩ | ⟨_, _, r⟩ | ⟨_, hf, _⟩)
  · exact absurd hi hn
  · exact r
  · omega
theorem take_some {w : World} {qb : Nat} {xs : List It} {F : List Nat} (h : QI w qb xs F) (hl : 0 < xs.length) :
    Calls Try.prog 45 #[.pointer (some ⟨qb, 0, none⟩)] w fun e w' =>
      ∃ x ys F', e = .returned (.tuple #[.agg #[.int .i64 x.1, .int .i64 x.2], .int .i64 0]) ∧ QI w' qb ys F' ∧ (x :: ys).Perm xs ∧ (∀ y ∈ xs, bef y x = false) ∧ Left w w' F F' := by
  refine (take_any h).mono ?_
  rintro e w' (⟨rfl, _⟩ | ⟨_, r⟩)
  · simp at hl
  · exact r

/-- A queue whose blocks are all new. -/
def QN (w0 w : World) (qb : Nat) (xs : List It) : Prop := ∃ F, QI w qb xs F ∧ (∀ k ∈ F, w0.heap.size ≤ k) ∧ Keeps (fun _ => False) w0 w

theorem QN.made {w0 w w' : World} (hk : Keeps (fun _ => False) w0 w) (h : QI w' w.heap.size [] [w.heap.size]) (k : Keeps (fun _ => False) w w') : QN w0 w' w.heap.size [] :=
  ⟨_, h, fun i hi => by simp at hi; rw [hi]; exact hk.size, hk.trans k⟩
theorem QN.left {w0 w w' : World} {qb : Nat} {xs ys : List It} {F F' : List Nat} (hF : ∀ k ∈ F, w0.heap.size ≤ k) (hk : Keeps (fun _ => False) w0 w) (_ : QI w qb xs F) (h' : QI w' qb ys F') (l : Left w w' F F') : QN w0 w' qb ys :=
  ⟨F', h', fun k hk' => (l.old k hk').elim (hF k) (fun e => by have := hk.size; omega), hk.trans' l.keeps (fun _ _ e => e) (fun i hi e => by have := hF i e; omega)⟩
theorem QN.new {w0 w w' : World} {qb : Nat} {xs : List It} (h : QN w0 w qb xs) (k : Keeps (fun _ => False) w w') : QN w0 w' qb xs := by
  obtain ⟨F, hq, hF, hk⟩ := h
  exact ⟨F, hq.keep k (fun _ _ e => e), hF, hk.trans k⟩
theorem QN.keeps {w0 w : World} {qb : Nat} {xs : List It} (h : QN w0 w qb xs) : Keeps (fun _ => False) w0 w := by
  obtain ⟨F, _, _, hk⟩ := h; exact hk

section
variable {w0 w : World} {qb : Nat} {xs : List It}
theorem nadd_new (h : QN w0 w qb xs) (x : It) (hx : I64 x.1 ∧ I64 x.2) (hn : x.2 ∉ ids xs) (hl : xs.length < 4096) :
    Calls Try.prog 43 #[.pointer (some ⟨qb, 0, none⟩), .agg #[.int .i64 x.1, .int .i64 x.2]] w fun e w' =>
      e = .returned (.int .i64 0) ∧ ∃ ys, QN w0 w' qb ys ∧ ys.Perm (xs ++ [x]) := by
  obtain ⟨F, hq, hF, hk⟩ := h
  refine (add_new hq x hx hn hl).mono ?_
  rintro e w' ⟨rfl, ys, F', h', hp, l⟩
  exact ⟨rfl, ys, QN.left hF hk hq h' l, hp⟩
theorem nadd_held (h : QN w0 w qb xs) (x : It) (hx : I64 x.1 ∧ I64 x.2) (hn : x.2 ∈ ids xs) :
    Calls Try.prog 43 #[.pointer (some ⟨qb, 0, none⟩), .agg #[.int .i64 x.1, .int .i64 x.2]] w fun e w' =>
      e = .returned (.int .i64 21) ∧ QN w0 w' qb xs := by
  obtain ⟨F, hq, hF, hk⟩ := h
  refine (add_held hq x hx hn).mono ?_
  rintro e w' ⟨rfl, h', k⟩
  exact ⟨rfl, F, h', hF, hk.trans k⟩
theorem nadd_full (h : QN w0 w qb xs) (x : It) (hx : I64 x.1 ∧ I64 x.2) (hn : x.2 ∉ ids xs) (hl : 4096 ≤ xs.length) :
    Calls Try.prog 43 #[.pointer (some ⟨qb, 0, none⟩), .agg #[.int .i64 x.1, .int .i64 x.2]] w fun e w' =>
      e = .returned (.int .i64 22) ∧ QN w0 w' qb xs := by
  obtain ⟨F, hq, hF, hk⟩ := h
  refine (add_full hq x hx hn hl).mono ?_
  rintro e w' ⟨rfl, h', k⟩
  exact ⟨rfl, F, h', hF, hk.trans k⟩
theorem ntake (h : QN w0 w qb xs) (hl : 0 < xs.length) :
    Calls Try.prog 45 #[.pointer (some ⟨qb, 0, none⟩)] w fun e w' =>
      ∃ x ys, e = .returned (.tuple #[.agg #[.int .i64 x.1, .int .i64 x.2], .int .i64 0]) ∧ QN w0 w' qb ys ∧ (x :: ys).Perm xs ∧ (∀ y ∈ xs, bef y x = false) := by
  obtain ⟨F, hq, hF, hk⟩ := h
  refine (take_some hq hl).mono ?_
  rintro e w' ⟨x, ys, F', rfl, h', hp, hl, l⟩
  exact ⟨x, ys, rfl, QN.left hF hk hq h' l, hp, hl⟩
theorem nlen (h : QN w0 w qb xs) : Calls Try.prog 44 #[.pointer (some ⟨qb, 0, none⟩)] w fun e w' => e = .returned (.int .i64 xs.length) ∧ w' = w := by
  obtain ⟨F, hq, _⟩ := h
  exact len_any hq
end
end Go.Proofs.Ytfbbllokpikbiab
