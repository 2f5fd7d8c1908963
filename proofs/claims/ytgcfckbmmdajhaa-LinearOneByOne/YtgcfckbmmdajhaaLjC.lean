import Derived.Test.YtgcfckbmmdajhaaLjB
import Derived.Laws.OwnMore
namespace Go.Proofs.Ytgcfckbmmdajhaa
open Go.RowKit
/-- A place laid into a list at k. -/
def mlP (A : List Nat) (k i : Nat) : List Nat := A.take k ++ i :: A.drop k
theorem mlP_len {A : List Nat} {k i : Nat} : (mlP A k i).length = A.length + 1 := by
  unfold mlP
  rw [List.length_append, List.length_cons, List.length_take, List.length_drop]
  omega
theorem mlP_all (A : List Nat) (i : Nat) : mlP A A.length i = A ++ [i] := by unfold mlP; simp
theorem mlP_at {A : List Nat} {k i : Nat} (h : k ≤ A.length) : (mlP A k i).getD k 0 = i := by
  unfold mlP
  rw [List.getD_eq_getElem?_getD, List.getElem?_append_right (by rw [List.length_take]; omega), List.length_take, show k - min k A.length = 0 by omega]
  rfl
theorem mlP_before {A : List Nat} {k i : Nat} (h : k < A.length) : (mlP A (k + 1) i).getD k 0 = A.getD k 0 := by
  unfold mlP
  rw [List.getD_eq_getElem?_getD, List.getElem?_append_left (by rw [List.length_take]; omega), List.getElem?_take_of_lt (by omega), List.getD_eq_getElem?_getD]
theorem mlP_swap {A : List Nat} {k i : Nat} (h : k < A.length) : ((mlP A (k + 1) i).set (k + 1) (A.getD k 0)).set k i = mlP A k i := by
  apply List.ext_getElem?
  intro j
  have e1 : A.take (k + 1) = A.take k ++ [A.getD k 0] := take_nextP h
  have e2 : A.drop k = A.getD k 0 :: A.drop (k + 1) := by
    rw [List.drop_eq_getElem_cons h, List.getD_eq_getElem?_getD, List.getElem?_eq_getElem h]
    rfl
  have e3 : mlP A (k + 1) i = A.take k ++ (A.getD k 0 :: i :: A.drop (k + 1)) := by
    unfold mlP
    rw [e1, List.append_assoc]
    rfl
  have e4 : mlP A k i = A.take k ++ (i :: A.getD k 0 :: A.drop (k + 1)) := by
    unfold mlP
    rw [e2]
  have hl : (A.take k).length = k := by rw [List.length_take]; omega
  rw [e3, e4, List.set_append_right _ _ (by omega), List.set_append_right _ _ (by omega), hl, show k + 1 - k = 1 by omega, Nat.sub_self]
  rfl
theorem insP_at (f : Nat → Int) : ∀ {A : List Nat} {k i : Nat}, k ≤ A.length → (∀ x ∈ A.take k, ¬ f i < f x) → (∀ x ∈ A.drop k, f i < f x) → insP f A i = mlP A k i
  | [], k, i, hk, _, _ => by
    obtain rfl : k = 0 := by simpa using hk
    rfl
  | a :: A, 0, i, _, _, h => by
    unfold insP
    rw [if_pos (h a (by simp))]
    rfl
  | a :: A, k + 1, i, hk, h1, h2 => by
    unfold insP
    rw [if_neg (h1 a (by simp)), insP_at f (A := A) (k := k) (by simpa using hk) (fun x hx => h1 x (by simp [hx])) (fun x hx => h2 x (by simpa using hx))]
    rfl
theorem wpList_store_row {w : World} {ops : Array Oper} {rest : List Oper} {o : Oper} {a : Act} {Q : Exit → Act → World → Prop} (hgd : o.guard = none) (hd : o.dst = none) (x y : Operand) (ho : o.op = .store 3 x y) (g j : Nat) (hx : a.eval x = .pointer (some ⟨g, j, none⟩)) (v : Nat) (hy : a.eval y = .int .i64 (v : Int))
    {base n cap : Nat} {L : List Nat} (hO : w.ownsRow base 3 1 (.slice (some ⟨g, 0, none⟩) n cap) n (pvs L)) (hj : j < L.length) (h : ∀ w1, w1.ownsRow base 3 1 (.slice (some ⟨g, 0, none⟩) n cap) n (pvs (L.set j v)) → Keeps (fun k => k = g) w w1 → wpList Try.prog ops Q rest a w1) : wpList Try.prog ops Q (o :: rest) a w := by
  have hB := own_clL hO
  have hl : j < (pvs L).length := by rw [pvs_len]; exact hj
  exact wpList_plain hgd fun _ hK => by
    unfold Oper.wp execOp
    simp only [ho, hx, hy, Instr.storeAt, Instr.sureAddr, Sem.run_bind, Sem.run_pure, Result.andThen_ok, run_store_oneL (by rw [hB.c j _ (List.getElem?_eq_getElem hl)]; rfl) (hB.z j hl) (v : Int)]
    refine hK _ _ ?_
    rw [hd]
    refine h _ ?_ ((Keeps.refl (fun k => k = g) w).setCell (p := ⟨g, j, none⟩) (fun _ => rfl) _)
    have := (hO.stored j (.int .i64 (v : Int))).1
    have e : pvs (L.set j v) = (pvs L).set j (.int .i64 (v : Int)) := by unfold pvs; rw [List.map_set]
    rw [e]
    exact this
end Go.Proofs.Ytgcfckbmmdajhaa
