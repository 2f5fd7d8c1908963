import Derived.Test.YtgcfckbmmdajhaaLiD
namespace Go.Proofs.Ytgcfckbmmdajhaa
open Go.RowKit
/-! A set as a list that rises: without memory. -/
def Rise (S : List Int) : Prop := S.Pairwise (· < ·)
def withL : List Int → Int → List Int
  | [], k => [k]
  | x :: S, k => if x < k then x :: withL S k else if x = k then x :: S else k :: x :: S
def woutL (S : List Int) (k : Int) : List Int := S.filter (fun x => x != k)
theorem mem_with : ∀ (S : List Int) (k x : Int), x ∈ withL S k ↔ x = k ∨ x ∈ S
  | [], k, x => by simp [withL]
  | y :: S, k, x => by
    unfold withL
    have h := mem_with S k x
    split
    · rw [List.mem_cons, h, List.mem_cons]
      constructor
      · rintro (h | h | h) <;> simp [h]
      · rintro (h | h | h) <;> simp [h]
    · split
      · rename_i h2
        subst h2
        rw [List.mem_cons]
        constructor
        · rintro (h | h) <;> simp [h]
        · rintro (h | h | h) <;> simp [h]
      · rw [List.mem_cons]
theorem rise_with : ∀ {S : List Int} {k : Int}, Rise S → Rise (withL S k)
  | [], k, _ => by simp [withL, Rise]
  | y :: S, k, h => by
    have h' := List.pairwise_cons.1 h
    unfold withL
    split
    · rename_i c
      refine List.pairwise_cons.2 ⟨fun x hx => ?_, rise_with h'.2⟩
      rcases (mem_with S k x).1 hx with rfl | hx
      · exact c
      · exact h'.1 x hx
    · split
      · exact h
      · rename_i c d
        refine List.pairwise_cons.2 ⟨fun x hx => ?_, h⟩
        rcases List.mem_cons.1 hx with rfl | hx
        · omega
        · have := h'.1 x hx
          omega
theorem len_with : ∀ {S : List Int} {k : Int}, Rise S → (withL S k).length = if k ∈ S then S.length else S.length + 1
  | [], k, _ => by simp [withL]
  | y :: S, k, h => by
    have h' := List.pairwise_cons.1 h
    have ih := len_with (k := k) h'.2
    unfold withL
    split
    · rename_i c
      have e : (k ∈ y :: S) ↔ k ∈ S := by
        rw [List.mem_cons]
        constructor
        · rintro (e | e)
          · omega
          · exact e
        · exact .inr
      simp only [List.length_cons, ih, e]
      split <;> omega
    · split
      · rename_i c d
        subst d
        simp
      · rename_i c d
        have e : ¬ k ∈ y :: S := fun e => by
          rcases List.mem_cons.1 e with e | e
          · omega
          · have := h'.1 k e
            omega
        rw [if_neg e]
        rfl
theorem mem_wout (S : List Int) (k x : Int) : x ∈ woutL S k ↔ x ≠ k ∧ x ∈ S := by
  unfold woutL
  rw [List.mem_filter]
  simp [and_comm]
theorem rise_wout {S : List Int} {k : Int} (h : Rise S) : Rise (woutL S k) := List.Pairwise.filter _ h
theorem len_wout : ∀ {S : List Int} {k : Int}, Rise S → (woutL S k).length = if k ∈ S then S.length - 1 else S.length
  | [], k, _ => by simp [woutL]
  | y :: S, k, h => by
    have h' := List.pairwise_cons.1 h
    have ih := len_wout (k := k) h'.2
    unfold woutL at ih ⊢
    by_cases c : y = k
    · subst c
      have e : ¬ y ∈ S := fun e => by have := h'.1 y e; omega
      rw [if_neg e] at ih
      rw [List.filter_cons_of_neg (by simp), if_pos (by simp), ih]
      rfl
    · rw [List.filter_cons_of_pos (by simp [c]), List.length_cons, ih]
      have e : (k ∈ y :: S) ↔ k ∈ S := by
        rw [List.mem_cons]
        constructor
        · rintro (e | e)
          · exact absurd e.symm c
          · exact e
        · exact .inr
      simp only [e]
      split
      · rename_i hm
        have := List.length_pos_of_mem hm
        simp only [List.length_cons]
        omega
      · rfl
/-- The list S holds what is in a set of n numbers. -/
structure FS (S : List Int) (n : Nat) (f : Int → Bool) : Prop where
  r : Rise S
  i : ∀ k ∈ S, I64 k
  n : n = S.length
  m : ∀ k, I64 k → f k = decide (k ∈ S)
theorem FS.put {S : List Int} {n : Nat} {f : Int → Bool} (h : FS S n f) {k : Int} (hk : I64 k) : FS (withL S k) (upN (f k) n) (putF f k) := by
  refine ⟨rise_with h.r, fun x hx => ?_, ?_, fun x hx => ?_⟩
  · rcases (mem_with S k x).1 hx with rfl | hx
    · exact hk
    · exact h.i x hx
  · rw [len_with h.r, h.m k hk, h.n]
    unfold upN
    by_cases c : k ∈ S <;> simp [c]
  · unfold putF
    rw [h.m x hx]
    by_cases c : x = k
    · rw [if_pos c]
      simp [(mem_with S k x).2 (.inl c)]
    · rw [if_neg c]
      by_cases d : x ∈ S
      · simp [d, (mem_with S k x).2 (.inr d)]
      · have : ¬ x ∈ withL S k := fun e => by rcases (mem_with S k x).1 e with e | e <;> contradiction
        simp [d, this]
theorem FS.del {S : List Int} {n : Nat} {f : Int → Bool} (h : FS S n f) {k : Int} (hk : I64 k) : FS (woutL S k) (dnN (f k) n) (delF f k) := by
  refine ⟨rise_wout h.r, fun x hx => h.i x ((mem_wout S k x).1 hx).2, ?_, fun x hx => ?_⟩
  · rw [len_wout h.r, h.m k hk, h.n]
    unfold dnN
    by_cases c : k ∈ S <;> simp [c]
  · unfold delF
    rw [h.m x hx]
    by_cases c : x = k
    · rw [if_pos c]
      have : ¬ x ∈ woutL S k := fun e => ((mem_wout S k x).1 e).1 c
      simp [this]
    · rw [if_neg c]
      by_cases d : x ∈ S
      · simp [d, (mem_wout S k x).2 ⟨c, d⟩]
      · have : ¬ x ∈ woutL S k := fun e => d ((mem_wout S k x).1 e).2
        simp [d, this]
/-- What a call answers, and the set behind it. -/
def doesL (S : List Int) (c : Cl) : Bool × Int × List Int :=
  if c.kind = 1 then (!decide (c.key ∈ S), 0, withL S c.key)
  else if c.kind = 2 then (decide (c.key ∈ S), 0, woutL S c.key)
  else if c.kind = 3 then (decide (c.key ∈ S), 0, S)
  else if c.kind = 4 then (match S with | [] => (false, 0, []) | x :: T => (true, x, woutL (x :: T) x))
  else if c.kind = 5 then (true, S.length, S)
  else if c.key ∉ S ∨ c.other ∈ S then (false, 0, S)
  else (true, 0, withL (woutL S c.key) c.other)
theorem FS.congr {S : List Int} {n n' : Nat} {f f' : Int → Bool} (h : FS S n f) (e : n' = n) (ef : ∀ k, I64 k → f' k = f k) : FS S n' f' := ⟨h.r, h.i, e.trans h.n, fun k hk => (ef k hk).trans (h.m k hk)⟩
theorem lst_head {x : Int} {T : List Int} {n : Nat} {f : Int → Bool} (h : FS (x :: T) n f) {r : Int} (hl : Lst f r) : r = x := by
  have hx := h.i x (by simp)
  have fx : f x = true := by rw [h.m x hx]; simp
  have h1 := hl.2.1 x hx fx
  have fr := hl.2.2 ⟨x, hx, fx⟩
  rw [h.m r hl.1] at fr
  have fr := of_decide_eq_true fr
  rcases List.mem_cons.1 fr with e | e
  · exact e
  · have := (List.pairwise_cons.1 h.r).1 r e
    omega
theorem did_does {S : List Int} {c : Cl} {n n' : Nat} {f f' : Int → Bool} {y : Bool} {r : Int} (h : FS S n f) (h1 : I64 c.key) (h2 : I64 c.other) (hd : Did c n f y r n' f') : y = (doesL S c).1 ∧ r = (doesL S c).2.1 ∧ FS (doesL S c).2.2 n' f' := by
  unfold Did at hd
  unfold doesL
  have hk := h.m c.key h1
  have ho := h.m c.other h2
  by_cases g1 : c.kind = 1
  · rw [if_pos g1] at hd ⊢
    obtain ⟨rfl, rfl, rfl, rfl⟩ := hd
    exact ⟨by rw [hk], rfl, h.put h1⟩
  rw [if_neg g1] at hd ⊢
  by_cases g2 : c.kind = 2
  · rw [if_pos g2] at hd ⊢
    obtain ⟨rfl, rfl, rfl, rfl⟩ := hd
    exact ⟨hk, rfl, h.del h1⟩
  rw [if_neg g2] at hd ⊢
  by_cases g3 : c.kind = 3
  · rw [if_pos g3] at hd ⊢
    obtain ⟨rfl, rfl, rfl, rfl⟩ := hd
    exact ⟨hk, rfl, h⟩
  rw [if_neg g3] at hd ⊢
  by_cases g4 : c.kind = 4
  · rw [if_pos g4] at hd ⊢
    cases S with
    | nil =>
      rw [if_pos (by rw [h.n]; rfl)] at hd
      obtain ⟨rfl, rfl, rfl, rfl⟩ := hd
      exact ⟨rfl, rfl, h⟩
    | cons x T =>
      rw [if_neg (by rw [h.n]; simp)] at hd
      obtain ⟨rfl, hl, rfl, rfl⟩ := hd
      obtain rfl := lst_head h hl
      exact ⟨rfl, rfl, h.del hl.1⟩
  rw [if_neg g4] at hd ⊢
  by_cases g5 : c.kind = 5
  · rw [if_pos g5] at hd ⊢
    obtain ⟨rfl, rfl, rfl, rfl⟩ := hd
    exact ⟨rfl, by rw [h.n], h⟩
  rw [if_neg g5] at hd ⊢
  by_cases g6 : c.key ∉ S ∨ c.other ∈ S
  · rw [if_pos (by rw [hk, ho]; simpa using g6)] at hd
    rw [if_pos g6]
    obtain ⟨rfl, rfl, rfl, rfl⟩ := hd
    exact ⟨rfl, rfl, h⟩
  · rw [if_neg (by rw [hk, ho]; simpa using g6)] at hd
    rw [if_neg g6]
    obtain ⟨rfl, rfl, rfl, rfl⟩ := hd
    have m1 : c.key ∈ S := by
      by_cases q : c.key ∈ S
      · exact q
      · exact absurd (.inl q) g6
    have m2 : ¬ c.other ∈ S := fun q => g6 (.inr q)
    have ne : c.key ≠ c.other := fun e => m2 (e ▸ m1)
    have fk : f c.key = true := by rw [hk]; simp [m1]
    have fo : f c.other = false := by rw [ho]; simp [m2]
    have hp : putF f c.other c.key = true := by unfold putF; rw [if_neg ne]; exact fk
    have hdl : delF f c.key c.other = false := by unfold delF; rw [if_neg (Ne.symm ne)]; exact fo
    have hl := List.length_pos_of_mem m1
    refine ⟨hp, rfl, ((h.del h1).put h2).congr ?_ (fun k hk' => ?_)⟩
    · rw [hp, fo, hdl, fk, h.n]
      unfold upN dnN
      simp
      omega
    · unfold delF putF
      dsimp only
      by_cases e1 : k = c.key
      · rw [if_pos e1, if_neg (by rw [e1]; exact ne), if_pos e1]
      · rw [if_neg e1, if_neg e1]
end Go.Proofs.Ytgcfckbmmdajhaa
