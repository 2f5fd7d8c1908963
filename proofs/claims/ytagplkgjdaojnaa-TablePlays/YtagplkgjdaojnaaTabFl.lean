import Derived.Test.YtagplkgjdaojnaaTabM
namespace Go.Proofs.Ytagplkgjdaojnaa
open Go.RowKit

/-- Elements laid side by side, n cells each. -/
def fl {α : Type} (f : α → List Value) (xs : List α) : List Value := xs.flatMap f
section
variable {α : Type} {f : α → List Value} {n : Nat} (hf : ∀ x, (f x).length = n)
include hf
theorem fl_length : ∀ xs : List α, (fl f xs).length = xs.length * n
  | [] => by simp [fl]
  | x :: xs => by
    have := fl_length xs
    have e : fl f (x :: xs) = f x ++ fl f xs := rfl
    rw [e, List.length_append, hf, this, List.length_cons, Nat.succ_mul]; omega
theorem fl_get : ∀ (xs : List α) (i j : Nat), j < n → (fl f xs)[i * n + j]? = (xs[i]?).bind fun x => (f x)[j]?
  | [], i, j, _ => by simp [fl]
  | x :: xs, 0, j, hj => by
    have e : fl f (x :: xs) = f x ++ fl f xs := rfl
    rw [e, List.getElem?_append_left (by rw [hf]; omega)]; simp
  | x :: xs, i + 1, j, hj => by
    have e : fl f (x :: xs) = f x ++ fl f xs := rfl
    rw [e, List.getElem?_append_right (by rw [hf, Nat.succ_mul]; omega), hf, show (i + 1) * n + j - n = i * n + j by rw [Nat.succ_mul]; omega, fl_get xs i j hj]
    simp
theorem fl_set : ∀ (xs : List α) (i j : Nat) (x y : α) (u : Value), xs[i]? = some x → j < n → f y = (f x).set j u → fl f (xs.set i y) = (fl f xs).set (i * n + j) u
  | [], i, j, x, y, u, h, _, _ => by simp at h
  | z :: xs, 0, j, x, y, u, h, hj, e => by
    simp at h
    subst h
    show f y ++ fl f xs = (f z ++ fl f xs).set (0 * n + j) u
    rw [e, List.set_append_left _ _ (by rw [hf]; omega)]; simp
  | z :: xs, i + 1, j, x, y, u, h, hj, e => by
    show f z ++ fl f (xs.set i y) = (f z ++ fl f xs).set ((i + 1) * n + j) u
    rw [List.set_append_right _ _ (by rw [hf, Nat.succ_mul]; omega), hf, show (i + 1) * n + j - n = i * n + j by rw [Nat.succ_mul]; omega, fl_set xs i j x y u (by simpa using h) hj e]
end
theorem fl_append {α : Type} {f : α → List Value} (xs ys : List α) : fl f (xs ++ ys) = fl f xs ++ fl f ys := by simp [fl]

theorem owns_cell {w : World} {base e size n : Nat} {v : Value} {xs : List Value} (h : w.ownsRow base e size v n xs) {g : Nat} (hg : v.ownBlock = some g) {j : Nat} {u : Value} (hj : xs[j]? = some u) : w.cell? ⟨g, j, none⟩ = some u := by
  have := h.cells hg j u hj
  have e : (⟨g, 0, none⟩ : Addr).add j = ⟨g, j, none⟩ := by unfold Addr.add; split <;> simp_all
  rwa [e] at this
theorem owns_form {w : World} {base e size n : Nat} {v : Value} {xs : List Value} (h : w.ownsRow base e size v n xs) : ∃ a cap, v = .slice a n cap ∧ (0 < n → ∃ g, a = some ⟨g, 0, none⟩ ∧ v.ownBlock = some g) := by
  rcases h.2 with ⟨rfl, h0⟩ | ⟨g, cap, cur, rfl, _⟩
  · exact ⟨none, 0, by rw [h0], fun e => by omega⟩
  · exact ⟨_, _, rfl, fun _ => ⟨g, rfl, rfl⟩⟩
theorem owns_cap {w : World} {base e size n : Nat} {a : Option Addr} {cap : Nat} {xs : List Value} (h : w.ownsRow base e size (.slice a n cap) n xs) : n ≤ cap := by
  rcases h.2 with ⟨e, h0⟩ | ⟨g, cap', cur, e, rest⟩
  · omega
  · cases e; exact rest.2.2.1
end Go.Proofs.Ytagplkgjdaojnaa
