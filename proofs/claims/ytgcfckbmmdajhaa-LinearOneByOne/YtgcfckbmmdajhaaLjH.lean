import Derived.Test.YtgcfckbmmdajhaaLjG
namespace Go.Proofs.Ytgcfckbmmdajhaa
open Go.RowKit
theorem getD_app {L M : List Nat} {k : Nat} (h : k < L.length) : (L ++ M).getD k 0 = L.getD k 0 := by
  rw [List.getD_eq_getElem?_getD, List.getD_eq_getElem?_getD, List.getElem?_append_left h]
theorem getD_last (L : List Nat) (p : Nat) : (L ++ [p]).getD L.length 0 = p := by
  rw [List.getD_eq_getElem?_getD, List.getElem?_append_right (Nat.le_refl _), Nat.sub_self]
  rfl
theorem setK_app (l : List Cl) (L M : List Nat) : ∀ k, k ≤ L.length → setK l (L ++ M) k = setK l L k
  | 0, _ => rfl
  | k + 1, h => by
    show (doesL (setK l (L ++ M) k) (l.getD ((L ++ M).getD k 0) cl0)).2.2 = (doesL (setK l L k) (l.getD (L.getD k 0) cl0)).2.2
    rw [setK_app l L M k (by omega), getD_app (by omega)]
theorem setK_last (l : List Cl) (L : List Nat) (p : Nat) : setK l (L ++ [p]) (L ++ [p]).length = nxS l (setK l L L.length) p := by
  rw [List.length_append]
  show (doesL (setK l (L ++ [p]) L.length) (l.getD ((L ++ [p]).getD L.length 0) cl0)).2.2 = _
  rw [setK_app l L [p] _ (Nat.le_refl _), getD_last]
  rfl
theorem lnP_app {l : List Cl} {L : List Nat} {p : Nat} (h : LnP l L) : LnP l (L ++ [p]) ↔ okN l L (setK l L L.length) p = true := by
  constructor
  · intro hP
    have := hP L.length (by simp)
    rw [setK_app l L [p] _ (Nat.le_refl _), getD_last, List.take_left' rfl] at this
    exact this
  · intro ho k hk
    rw [List.length_append] at hk
    have hk : k < L.length + 1 := hk
    by_cases e : k = L.length
    · rw [e, setK_app l L [p] _ (Nat.le_refl _), getD_last, List.take_left' rfl]
      exact ho
    · rw [setK_app l L [p] k (by omega), getD_app (by omega), List.take_append_of_le_length (by omega)]
      exact h k (by omega)
set_option maxRecDepth 100000 in
theorem copy_places {W : World} {a : Option Addr} {cap : Nat} {L : List Nat} (hl : PM W a L) (hz : a = none → cap = 0) (hn : L.length ≤ 1000) :
    ∃ a' c' W', (Builtin.append_ #[29, 29] 29 #[.slice (some ⟨W.heap.size, 0, none⟩) 0 0, .slice a L.length cap]).run Try.prog (W.alloc (.cells #[] 3)) = .ok (.slice a' L.length c') W' ∧ W'.ownsRow W.heap.size 3 1 (.slice a' L.length c') L.length (pvs L) ∧ Keeps (fun _ => False) W W' := by
  obtain ⟨i0, hi0, hzz⟩ := Option.map_eq_some_iff.1 iI
  simp only [Prod.mk.injEq] at hzz
  obtain ⟨hz0, hz1, hz2⟩ := hzz
  have k0 : Keeps (fun _ => False) W (W.alloc (.cells #[] 3)) := (Keeps.refl _ W).alloc _
  have o0 : (W.alloc (.cells #[] 3)).ownsRow W.heap.size 3 1 (.slice (some ⟨W.heap.size, 0, none⟩) 0 0) 0 [] := ⟨by simp, .inr ⟨W.heap.size, 0, #[], rfl, Nat.le_refl _, by rw [show (W.alloc (.cells #[] 3)).heap = W.heap.push (.cells #[] 3) from rfl]; simp, Nat.le_refl _, by unfold maxLen; omega, by simp, by simp⟩⟩
  cases a with
  | none =>
    have hl0 : L = [] := by
      cases L with
      | nil => rfl
      | cons c l =>
        obtain ⟨b, off, e, _⟩ := hl 0 (by simp)
        cases e
    subst hl0
    rw [hz rfl]
    exact ⟨_, _, _, run_append_owned_none (P := Try.prog) (w := W.alloc (.cells #[] 3)) W.heap.size 29 29 3 i0 1 uI hi0 _ 0 [] o0, o0, k0⟩
  | some p =>
    obtain ⟨v', w', hr, ho, hgr, _, _⟩ := run_append_own_at (P := Try.prog) (w := W.alloc (.cells #[] 3)) W.heap.size 29 29 3 i0 _ 1 8 uI hi0 hz0 hz1 hz2 rfl (by decide) _ 0 [] o0 p L.length cap (pvs L) (by rw [pvs_len]; omega) (fun j y hy => by
      have hj : j < L.length := by rw [← pvs_len]; exact (List.getElem?_eq_some_iff.1 hy).1
      obtain ⟨b, off, e, hc⟩ := hl j hj
      injection e with e
      subst e
      rw [pvs_get hj] at hy
      injection hy with hy
      rw [add_atT, ← hy]
      exact k0.cell hc (fun e => e)) (fun u hu => by
      unfold pvs at hu
      rw [List.mem_map] at hu
      obtain ⟨x, -, rfl⟩ := hu
      rfl) (by unfold maxLen; omega) (by omega) k0.size
    rw [Nat.zero_add, List.nil_append] at ho
    obtain ⟨a', c', rfl, -⟩ := own_slice ho
    exact ⟨a', c', w', hr, ho, k0.trans' ((Keeps.refl _ _).grown hgr (S := fun i => i = W.heap.size) (fun i _ e => by simp [Value.ownBlock] at e; exact e.symm)) (fun _ _ e => e) (fun i hi e => by have e : i = W.heap.size := e; omega)⟩
/-- What search answers. -/
def SrP (l : List Cl) (R : Option (List Nat)) (la : Option Addr) (w : World) (e : Ending) (w' : World) : Prop :=
  ((∃ r sa sc, R = some r ∧ e = .returned (.tuple #[.slice sa r.length sc, .bool true]) ∧ PM w' sa r ∧ (∀ b off, sa = some ⟨b, off, none⟩ → la = some ⟨b, off, none⟩ ∨ w.heap.size ≤ b)) ∨ (R = none ∧ e = .returned (.tuple #[.slice none 0 0, .bool false]))) ∧ Keeps (fun _ => False) w w' ∧ l.length ≤ 8
theorem srP_no {la : Option Addr} {w w' : World} {e : Ending} (h : (∃ r sa sc, (none : Option (List Nat)) = some r ∧ e = .returned (.tuple #[.slice sa r.length sc, .bool true]) ∧ PM w' sa r ∧ (∀ b off, sa = some ⟨b, off, none⟩ → la = some ⟨b, off, none⟩ ∨ w.heap.size ≤ b)) ∨ ((none : Option (List Nat)) = none ∧ e = .returned (.tuple #[.slice none 0 0, .bool false]))) : e = .returned (.tuple #[.slice none 0 0, .bool false]) := by
  rcases h with ⟨r, sa, sc, h, -⟩ | ⟨-, h⟩
  · cases h
  · exact h
theorem srP_yes {la : Option Addr} {w w' : World} {e : Ending} {r : List Nat} (h : (∃ r' sa sc, some r = some r' ∧ e = .returned (.tuple #[.slice sa r'.length sc, .bool true]) ∧ PM w' sa r' ∧ (∀ b off, sa = some ⟨b, off, none⟩ → la = some ⟨b, off, none⟩ ∨ w.heap.size ≤ b)) ∨ (some r = none ∧ e = .returned (.tuple #[.slice none 0 0, .bool false]))) : ∃ sa sc, e = .returned (.tuple #[.slice sa r.length sc, .bool true]) ∧ PM w' sa r ∧ (∀ b off, sa = some ⟨b, off, none⟩ → la = some ⟨b, off, none⟩ ∨ w.heap.size ≤ b) := by
  rcases h with ⟨r', sa, sc, h, h1, h2, h3⟩ | ⟨h, -⟩
  · injection h with h
    subst h
    exact ⟨sa, sc, h1, h2, h3⟩
  · cases h
end Go.Proofs.Ytgcfckbmmdajhaa
