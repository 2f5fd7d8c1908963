import Derived.Test.YtgcfckbmmdajhaaLiW
namespace Go.Proofs.Ytgcfckbmmdajhaa
open Go.RowKit
/-- What Does answers. -/
def DoP (S : List Int) (c : Cl) (a : Option Addr) (w : World) (e : Ending) (w' : World) : Prop := ∃ a2 c2, e = .returned (.tuple #[.bool (doesL S c).1, .int .i64 (doesL S c).2.1, .slice a2 (doesL S c).2.2.length c2]) ∧ KL w' a2 (doesL S c).2.2 ∧ Keeps (fun _ => False) w w' ∧ ∀ b off, a2 = some ⟨b, off, none⟩ → a = some ⟨b, off, none⟩ ∨ w.heap.size ≤ b
theorem kl_keep {W W' : World} {base n : Nat} {v : Value} {S : List Int} (h : W.ownsRow base 2 1 v n (kvs S)) (k : Keeps (fun _ => False) W W') : ∃ a cap, v = .slice a n cap ∧ KL W' a S ∧ n = S.length ∧ ∀ b off, a = some ⟨b, off, none⟩ → base ≤ b := by
  obtain ⟨a, cap, h1, h2, h3, -⟩ := kl_of h
  exact ⟨a, cap, h1, h2.keep k, h3, fun b off e => owns_baseT h b (by rw [h1, e]; rfl)⟩
end Go.Proofs.Ytgcfckbmmdajhaa
