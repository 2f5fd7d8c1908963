import Derived.Test.YtgfjhogogajbjaaSchR2
namespace Go.Proofs.Ytgfjhogogajbjaa
open Go.RowKit

/-- Elements laid side by side, n cells each. -/
def fl {α : Type} (f : α → List Value) (xs : List α) : List Value := xs.flatMap f
section
variable {α : Type} {f : α → List Value} {n : Nat} (hf : ∀ x, (f x).length = n)
include hf
theorem fl_length : ∀ xs : List α, (fl f xs).length = xs.length * n
  | [] => by simp [fl]
  | x :: xs => by
    have := fl_length xs
    have e : fl f (x :: xs) = f x ++ fl f xs := rfl
    rw [e, List.length_append, hf, this, List.length_cons, Nat.succ_mul]; omega
theorem fl_get : ∀ (xs : List α) (i j : Nat), j < n → (fl f xs)[i * n + j]? = (xs[i]?).bind fun x => (f x)[j]?
  | [], i, j, _ => by simp [fl]
  | x :: xs, 0, j, hj => by
    have e : fl f (x :: xs) = f x ++ fl f xs := rfl
    rw [e, List.getElem?_append_left (by rw [hf]; omega)]; simp
  | x :: xs, i + 1, j, hj => by
    have e : fl f (x :: xs) = f x ++ fl f xs := rfl
    rw [e, List.getElem?_append_right (by rw [hf, Nat.succ_mul]; omega), hf, show (i + 1) * n + j - n = i * n + j by rw [Nat.succ_mul]; omega, fl_get xs i j hj]
    simp
theorem fl_set : ∀ (xs : List α) (i j : Nat) (x y : α) (u : Value), xs[i]? = some x → j < n → f y = (f x).set j u → fl f (xs.set i y) = (fl f xs).set (i * n + j) u
  | [], i, j, x, y, u, h, _, _ => by simp at h
  | z :: xs, 0, j, x, y, u, h, hj, e => by
    simp at h
    subst h
    show f y ++ fl f xs = (f z ++ fl f xs).set (0 * n + j) u
    rw [e, List.set_append_left _ _ (by rw [hf]; omega)]; simp
  | z :: xs, i + 1, j, x, y, u, h, hj, e => by
    show f z ++ fl f (xs.set i y) = (f z ++ fl f xs).set ((i + 1) * n + j) u
    rw [List.set_append_right _ _ (by rw [hf, Nat.succ_mul]; omega), hf, show (i + 1) * n + j - n = i * n + j by rw [Nat.succ_mul]; omega, fl_set xs i j x y u (by simpa using h) hj e]
end
theorem fl_append {α : Type} {f : α → List Value} (xs ys : List α) : fl f (xs ++ ys) = fl f xs ++ fl f ys := by simp [fl]

def ucells (c : Cu) : List Value := [.int .i64 c.th, .int .i64 (c.fr : Int), .int .i64 (c.len : Int)]
theorem ucells_len (c : Cu) : (ucells c).length = 3 := rfl
def cu0 : Cu := ⟨0, 0, 0⟩
theorem uInfo : (Try.prog.info? 37).map (fun i => (i.zero, i.size, i.bytes)) = some (some (.agg #[.int .i64 0, .int .i64 0, .int .i64 0]), 3, 24) := by kernel_rfl
theorem underUs : Try.prog.underlying 30 = some (.slice 37) := by kernel_rfl

/-- The stretches of the first i picks. -/
structure PC (f : Nat → Int) (m i : Nat) (L : List Cu) (k : Nat) : Prop where
  len : L.length = k + 1
  lo : pos f m k < i
  hi : i ≤ pos f m (k + 1)
  old : ∀ q, q < k → L.getD q cu0 = cut f m q
  last : L.getD k cu0 = ⟨f (pos f m k), pos f m k, i - pos f m k⟩
/-- One more. -/
theorem append_cut {w : World} {base : Nat} {v : Value} {L : List Cu} (hown : w.ownsRow base 37 3 v L.length (fl ucells L)) (c : Cu) (hroom : (L.length + 1) * 24 ≤ 140737488355328) (hbase : base ≤ w.heap.size) :
    ∃ v' w', (Builtin.append_ #[30, 30] 30 #[v, .slice (some ⟨w.heap.size, 0, none⟩) 1 1]).run Try.prog (w.alloc (.cells #[.int .i64 c.th, .int .i64 (c.fr : Int), .int .i64 (c.len : Int)] 37)) = .ok v' w' ∧ w'.ownsRow base 37 3 v' (L.length + 1) (fl ucells (L ++ [c])) ∧ Keeps (fun i => v.ownBlock = some i) w w' := by
  obtain ⟨i0, hi0, hz0, hz1, hz2⟩ := info_parts uInfo
  obtain ⟨v', w', hr, ho, hg, _, _⟩ := run_append_own_at (P := Try.prog) (w := w.alloc (.cells #[.int .i64 c.th, .int .i64 (c.fr : Int), .int .i64 (c.len : Int)] 37)) base 30 30 37 i0 _ 3 24 underUs hi0 hz0 hz1 hz2 rfl (by decide) v L.length (fl ucells L) (hown.alloc _) ⟨w.heap.size, 0, none⟩ 1 1 (ucells c) (by simp [ucells]) (World.news_of_block (cs := #[.int .i64 c.th, .int .i64 (c.fr : Int), .int .i64 (c.len : Int)]) (t := 37) (fr := (0, 0)) (World.alloc_heap_new w _)) (fun u hu => by simp [ucells] at hu; rcases hu with rfl | rfl | rfl <;> rfl) (by unfold maxLen; omega) (by omega) (by simp; omega)
  refine ⟨v', w', hr, ?_, ((Keeps.refl _ w).alloc _).grown hg (fun i _ e => e)⟩
  rw [fl_append]
  simpa [fl] using ho
/-- A cell of the row. -/
theorem cut_cell {w : World} {base g cap : Nat} {L : List Cu} (hown : w.ownsRow base 37 3 (.slice (some ⟨g, 0, none⟩) L.length cap) L.length (fl ucells L)) {i : Nat} (hi : i < L.length) : w.cell? ⟨g, i * 3, none⟩ = some (.int .i64 (L.getD i cu0).th) ∧ w.cell? ⟨g, i * 3 + 1, none⟩ = some (.int .i64 ((L.getD i cu0).fr : Int)) ∧ w.cell? ⟨g, i * 3 + 2, none⟩ = some (.int .i64 ((L.getD i cu0).len : Int)) := by
  have hg : ∀ j (hj : j < 3) u, (ucells (L.getD i cu0))[j]? = some u → w.cell? ⟨g, i * 3 + j, none⟩ = some u := fun j hj u hu => by
    have := hown.cells (g := g) rfl (i * 3 + j) u (by
      rw [fl_get ucells_len L i j hj]
      simp only [List.getD_eq_getElem?_getD, List.getElem?_eq_getElem hi, Option.getD_some] at hu
      simp [hi, hu])
    rwa [add_none, Nat.zero_add] at this
  exact ⟨hg 0 (by omega) _ rfl, hg 1 (by omega) _ rfl, hg 2 (by omega) _ rfl⟩
theorem owns_frozen {w : World} {base g cap n : Nat} {e : TypeId} {size : Nat} {xs : List Value} (h : w.ownsRow base e size (.slice (some ⟨g, 0, none⟩) n cap) n xs) (o : Nat) : w.frozen? ⟨g, o, none⟩ = false := by
  rcases h.2 with ⟨h0, _⟩ | ⟨g', cap', cur, h0, _, hg, _⟩
  · cases h0
  · cases h0
    simp [World.frozen?, hg]
end Go.Proofs.Ytgfjhogogajbjaa
