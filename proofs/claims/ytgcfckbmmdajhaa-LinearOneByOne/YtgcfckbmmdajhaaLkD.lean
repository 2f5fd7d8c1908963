import Derived.Test.YtgcfckbmmdajhaaLkC
namespace Go.Proofs.Ytgcfckbmmdajhaa
open Go.RowKit
theorem may_kind {c : Cl} (h : mayP c = true) : 1 ≤ c.kind ∧ c.kind ≤ 6 := by
  unfold mayP at h
  split at h
  · cases h
  · rename_i h0
    constructor
    · by_cases q : c.kind < 1
      · exact absurd (.inl q) h0
      · omega
    · by_cases q : 6 < c.kind
      · exact absurd (.inr (.inl q)) h0
      · omega
theorem goK_app {l : List Cl} {L M : List Nat} {k : Nat} (h : k < L.length) : goK l (L ++ M) k = goK l L k := by
  unfold goK
  rw [setK_app l L M k (by omega), getD_app h]
/-- The line so far. -/
structure LM (l : List Cl) (P : List Int) (w : World) (i : Nat) (Wr : World) (U : List Int) (v : Value) (L : List Nat) : Prop where
  t : P.take i = iOf L
  n : L.length = i
  d : L.Nodup
  b : ∀ x ∈ L, x < l.length
  g : ∀ k, k < i → goK l L k = true
  a : CL Wr (w.heap.size + 1) (atC L)
  s : SU (w.heap.size + 2) Wr w.heap.size U v
  u : US U (setK l L i)
  k : Keeps (fun _ => False) w Wr
theorem LM.next {l : List Cl} {P : List Int} {w : World} {i p : Nat} {Wr W' : World} {U U' : List Int} {v v' : Value} {L : List Nat} (h : LM l P w i Wr U v L) (hi : i < P.length) (hp : P.getD i 0 = (p : Int)) (hpN : p < l.length) (hpL : p ∉ L) (hg : goesP (l.getD p cl0) (doesL (setK l L i) (l.getD p cl0)).1 (doesL (setK l L i) (l.getD p cl0)).2.1 = true) (ha : CL W' (w.heap.size + 1) (atC (L ++ [p]))) (hs : SU (w.heap.size + 2) W' w.heap.size U' v') (hu : US U' (doesL (setK l L i) (l.getD p cl0)).2.2) (hk : Keeps (fun _ => False) w W') : LM l P w (i + 1) W' U' v' (L ++ [p]) := by
  have e : setK l (L ++ [p]) i = setK l L i := setK_app l L [p] i (by rw [h.n]; exact Nat.le_refl _)
  have e2 : (L ++ [p]).getD i 0 = p := by rw [← h.n]; exact getD_last L p
  refine ⟨?_, by rw [List.length_append, h.n]; rfl, ?_, ?_, ?_, ha, hs, ?_, hk⟩
  · rw [take_next hi, h.t, hp]
    unfold iOf
    rw [List.map_append]
    rfl
  · rw [List.nodup_append]
    exact ⟨h.d, by simp, fun x hx y hy => by simp at hy; subst hy; exact fun e => hpL (e ▸ hx)⟩
  · intro x hx
    rcases List.mem_append.1 hx with hx | hx
    · exact h.b x hx
    · simp at hx; subst hx; exact hpN
  · intro k hk'
    by_cases ek : k = i
    · subst ek
      unfold goK
      rw [e2, e]
      exact hg
    · rw [goK_app (by rw [h.n]; omega)]
      exact h.g k (by omega)
  · show US U' (doesL (setK l (L ++ [p]) i) (l.getD ((L ++ [p]).getD i 0) cl0)).2.2
    rw [e2, e]
    exact hu
/-- What the law asks of a call of the line's: a is none of those that b stands ahead of. -/
def EB (l : List Cl) (L : List Nat) (a b : Nat) : Prop := b ∈ L → (l.getD a cl0).to_ < (l.getD b cl0).from_ → L.idxOf a ≤ L.idxOf b
def EA (l : List Cl) (L : List Nat) (a : Nat) : Prop := ansD (l.getD a cl0) = true → a ∈ L ∧ ∀ b, b < l.length → EB l L a b
/-- What line answers. -/
def LlP (l : List Cl) (P : List Int) (w : World) (e : Ending) (w' : World) : Prop := ∃ b, e = .returned (.bool b) ∧ (b = true ↔ LnI l P) ∧ Keeps (fun _ => False) w w'
theorem rep_set {i : Nat} (h : i < 8) : (List.replicate i (Value.int .i64 (-1)) ++ List.replicate (8 - i) (Value.int .i64 0)).set i (.int .i64 (-1)) = List.replicate (i + 1) (Value.int .i64 (-1)) ++ List.replicate (8 - (i + 1)) (Value.int .i64 0) := by
  rcases (by omega : i = 0 ∨ i = 1 ∨ i = 2 ∨ i = 3 ∨ i = 4 ∨ i = 5 ∨ i = 6 ∨ i = 7) with rfl | rfl | rfl | rfl | rfl | rfl | rfl | rfl <;> rfl
end Go.Proofs.Ytgcfckbmmdajhaa
