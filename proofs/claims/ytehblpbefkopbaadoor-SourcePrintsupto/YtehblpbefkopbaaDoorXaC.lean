import Derived.Test.YtehblpbefkopbaaDoorGnA
import Derived.Test.YtehblpbefkopbaaDoorXaA
namespace Go.Proofs.YtehblpbefkopbaaDoor
open Go.RowKit
/-- A text as a value's bytes. -/
def bs (l : Bs) : ByteArray := ⟨l.toArray⟩
theorem bs_list (l : Bs) : (bs l).data.toList = l := rfl
theorem bs_of (s : ByteArray) : bs s.data.toList = s := rfl
theorem bs_size (l : Bs) : (bs l).size = l.length := rfl
theorem bs_toList (l : Bs) : (bs l).toList = l := by rw [ByteArray.toList_eq, bs_list]
theorem bs_inj {a b : Bs} (h : bs a = bs b) : a = b := by
  have := congrArg (fun x : ByteArray => x.data.toList) h
  rwa [bs_list, bs_list] at this
/-- A list of the call's own, in a block of which P holds. -/
def OwnP (w : World) (P : Nat → Prop) (e : TypeId) (size : Nat) (v : Value) (n : Nat) (xs : List Value) : Prop := w.ownsRow 0 e size v n xs ∧ ∀ g, v.ownBlock = some g → P g
mutual
/-- The cells of an expression, its parts in memory behind lo. -/
def TC (w : World) (P : Nat → Prop) (e : TypeId) : Tr → List Value → Prop
  | .mk k n wd ps, l => I64 k ∧ I64 n ∧ wd.length ≤ 140737488355328 ∧ ∃ a xs, l = [.int .i64 k, .int .i64 n, .string (bs wd), a] ∧ OwnP w P e 4 a ps.length xs ∧ TL w P e ps xs
def TL (w : World) (P : Nat → Prop) (e : TypeId) : List Tr → List Value → Prop
  | [], xs => xs = []
  | t :: r, xs => ∃ ys zs, xs = ys ++ zs ∧ TC w P e t ys ∧ TL w P e r zs
end
mutual
/-- The cells of a statement. -/
def SC (w : World) (P : Nat → Prop) (e s : TypeId) : St → List Value → Prop
  | .mk k wd a b th el, l => I64 k ∧ wd.length ≤ 140737488355328 ∧ ∃ la lb tv ev xs ys, l = .int .i64 k :: .string (bs wd) :: (la ++ (lb ++ [tv, ev])) ∧ TC w P e a la ∧ TC w P e b lb ∧ OwnP w P s 12 tv th.length xs ∧ SL w P e s th xs ∧ OwnP w P s 12 ev el.length ys ∧ SL w P e s el ys
def SL (w : World) (P : Nat → Prop) (e s : TypeId) : List St → List Value → Prop
  | [], xs => xs = []
  | t :: r, xs => ∃ ys zs, xs = ys ++ zs ∧ SC w P e s t ys ∧ SL w P e s r zs
end
/-- The blocks of which P holds stand. -/
def Stay (P : Nat → Prop) (w w' : World) : Prop := ∀ k, P k → k < w.heap.size → w'.heap[k]? = w.heap[k]?
theorem Stay.refl (P : Nat → Prop) (w : World) : Stay P w w := fun _ _ _ => rfl
theorem Keeps.stay {S : Nat → Prop} {w w' : World} (k : Keeps S w w') {P : Nat → Prop} (h : ∀ i, P i → i < w.heap.size → ¬ S i) : Stay P w w' := fun i h1 h2 => k.block i h2 (h i h1 h2)
theorem OwnP.stay {w w' : World} {P : Nat → Prop} {e : TypeId} {size : Nat} {v : Value} {n : Nat} {xs : List Value} (h : OwnP w P e size v n xs) (k : Stay P w w') : OwnP w' P e size v n xs :=
  ⟨owns_same h.1 (fun g hg => k g (h.2 g hg) (owns_lt' h.1 g hg)), h.2⟩
theorem OwnP.mono {w : World} {P P' : Nat → Prop} {e : TypeId} {size : Nat} {v : Value} {n : Nat} {xs : List Value} (h : OwnP w P e size v n xs) (k : ∀ g, P g → P' g) : OwnP w P' e size v n xs := ⟨h.1, fun g hg => k g (h.2 g hg)⟩
theorem OwnP.lt {w : World} {P : Nat → Prop} {e : TypeId} {size : Nat} {v : Value} {n : Nat} {xs : List Value} (h : OwnP w P e size v n xs) : OwnP w (fun g => P g ∧ g < w.heap.size) e size v n xs := ⟨h.1, fun g hg => ⟨h.2 g hg, owns_lt' h.1 g hg⟩⟩
mutual
theorem TC.stay {w w' : World} {P : Nat → Prop} {e : TypeId} (k : Stay P w w') : ∀ {t : Tr} {l : List Value}, TC w P e t l → TC w' P e t l
  | .mk kd n wd ps, l, h => by
    unfold TC at h ⊢
    obtain ⟨h1, h2, h3, a, xs, h4, h5, h6⟩ := h
    exact ⟨h1, h2, h3, a, xs, h4, OwnP.stay h5 k, TL.stay k h6⟩
theorem TL.stay {w w' : World} {P : Nat → Prop} {e : TypeId} (k : Stay P w w') : ∀ {t : List Tr} {l : List Value}, TL w P e t l → TL w' P e t l
  | [], l, h => by unfold TL at h ⊢; exact h
  | t :: r, l, h => by
    unfold TL at h ⊢
    obtain ⟨ys, zs, h1, h2, h3⟩ := h
    exact ⟨ys, zs, h1, TC.stay k h2, TL.stay k h3⟩
end
mutual
theorem SC.stay {w w' : World} {P : Nat → Prop} {e s : TypeId} (k : Stay P w w') : ∀ {t : St} {l : List Value}, SC w P e s t l → SC w' P e s t l
  | .mk kd wd a b th el, l, h => by
    unfold SC at h ⊢
    obtain ⟨h1, h2, la, lb, tv, ev, xs, ys, h3, h4, h5, h6, h7, h8, h9⟩ := h
    exact ⟨h1, h2, la, lb, tv, ev, xs, ys, h3, TC.stay k h4, TC.stay k h5, OwnP.stay h6 k, SL.stay k h7, OwnP.stay h8 k, SL.stay k h9⟩
theorem SL.stay {w w' : World} {P : Nat → Prop} {e s : TypeId} (k : Stay P w w') : ∀ {t : List St} {l : List Value}, SL w P e s t l → SL w' P e s t l
  | [], l, h => by unfold SL at h ⊢; exact h
  | t :: r, l, h => by
    unfold SL at h ⊢
    obtain ⟨ys, zs, h1, h2, h3⟩ := h
    exact ⟨ys, zs, h1, SC.stay k h2, SL.stay k h3⟩
end
mutual
theorem TC.mono {w : World} {P P' : Nat → Prop} {e : TypeId} (k : ∀ g, P g → P' g) : ∀ {t : Tr} {l : List Value}, TC w P e t l → TC w P' e t l
  | .mk kd n wd ps, l, h => by
    unfold TC at h ⊢
    obtain ⟨h1, h2, h3, a, xs, h4, h5, h6⟩ := h
    exact ⟨h1, h2, h3, a, xs, h4, OwnP.mono h5 k, TL.mono k h6⟩
theorem TL.mono {w : World} {P P' : Nat → Prop} {e : TypeId} (k : ∀ g, P g → P' g) : ∀ {t : List Tr} {l : List Value}, TL w P e t l → TL w P' e t l
  | [], l, h => by unfold TL at h ⊢; exact h
  | t :: r, l, h => by
    unfold TL at h ⊢
    obtain ⟨ys, zs, h1, h2, h3⟩ := h
    exact ⟨ys, zs, h1, TC.mono k h2, TL.mono k h3⟩
end
mutual
theorem SC.mono {w : World} {P P' : Nat → Prop} {e s : TypeId} (k : ∀ g, P g → P' g) : ∀ {t : St} {l : List Value}, SC w P e s t l → SC w P' e s t l
  | .mk kd wd a b th el, l, h => by
    unfold SC at h ⊢
    obtain ⟨h1, h2, la, lb, tv, ev, xs, ys, h3, h4, h5, h6, h7, h8, h9⟩ := h
    exact ⟨h1, h2, la, lb, tv, ev, xs, ys, h3, TC.mono k h4, TC.mono k h5, OwnP.mono h6 k, SL.mono k h7, OwnP.mono h8 k, SL.mono k h9⟩
theorem SL.mono {w : World} {P P' : Nat → Prop} {e s : TypeId} (k : ∀ g, P g → P' g) : ∀ {t : List St} {l : List Value}, SL w P e s t l → SL w P' e s t l
  | [], l, h => by unfold SL at h ⊢; exact h
  | t :: r, l, h => by
    unfold SL at h ⊢
    obtain ⟨ys, zs, h1, h2, h3⟩ := h
    exact ⟨ys, zs, h1, SC.mono k h2, SL.mono k h3⟩
end
mutual
theorem TC.lt {w : World} {P : Nat → Prop} {e : TypeId} : ∀ {t : Tr} {l : List Value}, TC w P e t l → TC w (fun g => P g ∧ g < w.heap.size) e t l
  | .mk kd n wd ps, l, h => by
    unfold TC at h ⊢
    obtain ⟨h1, h2, h3, a, xs, h4, h5, h6⟩ := h
    exact ⟨h1, h2, h3, a, xs, h4, OwnP.lt h5, TL.lt h6⟩
theorem TL.lt {w : World} {P : Nat → Prop} {e : TypeId} : ∀ {t : List Tr} {l : List Value}, TL w P e t l → TL w (fun g => P g ∧ g < w.heap.size) e t l
  | [], l, h => by unfold TL at h ⊢; exact h
  | t :: r, l, h => by
    unfold TL at h ⊢
    obtain ⟨ys, zs, h1, h2, h3⟩ := h
    exact ⟨ys, zs, h1, TC.lt h2, TL.lt h3⟩
end
mutual
theorem SC.lt {w : World} {P : Nat → Prop} {e s : TypeId} : ∀ {t : St} {l : List Value}, SC w P e s t l → SC w (fun g => P g ∧ g < w.heap.size) e s t l
  | .mk kd wd a b th el, l, h => by
    unfold SC at h ⊢
    obtain ⟨h1, h2, la, lb, tv, ev, xs, ys, h3, h4, h5, h6, h7, h8, h9⟩ := h
    exact ⟨h1, h2, la, lb, tv, ev, xs, ys, h3, TC.lt h4, TC.lt h5, OwnP.lt h6, SL.lt h7, OwnP.lt h8, SL.lt h9⟩
theorem SL.lt {w : World} {P : Nat → Prop} {e s : TypeId} : ∀ {t : List St} {l : List Value}, SL w P e s t l → SL w (fun g => P g ∧ g < w.heap.size) e s t l
  | [], l, h => by unfold SL at h ⊢; exact h
  | t :: r, l, h => by
    unfold SL at h ⊢
    obtain ⟨ys, zs, h1, h2, h3⟩ := h
    exact ⟨ys, zs, h1, SC.lt h2, SL.lt h3⟩
end
theorem TC.shape {w : World} {P : Nat → Prop} {e : TypeId} {t : Tr} {l : List Value} (h : TC w P e t l) : ∃ k n s a, l = [.int .i64 k, .int .i64 n, .string s, a] := by
  cases t
  unfold TC at h
  obtain ⟨_, _, _, a, xs, h4, _⟩ := h
  exact ⟨_, _, _, _, h4⟩
theorem TC.len {w : World} {P : Nat → Prop} {e : TypeId} {t : Tr} {l : List Value} (h : TC w P e t l) : l.length = 4 := by
  cases t
  unfold TC at h
  obtain ⟨_, _, _, a, xs, h4, _⟩ := h
  rw [h4]; rfl
theorem SC.len {w : World} {P : Nat → Prop} {e s : TypeId} {t : St} {l : List Value} (h : SC w P e s t l) : l.length = 12 := by
  cases t
  unfold SC at h
  obtain ⟨_, _, la, lb, tv, ev, xs, ys, h3, h4, h5, _⟩ := h
  rw [h3]; simp [h4.len, h5.len]
theorem TL.len {w : World} {P : Nat → Prop} {e : TypeId} : ∀ {t : List Tr} {l : List Value}, TL w P e t l → l.length = t.length * 4
  | [], l, h => by unfold TL at h; rw [h]; rfl
  | t :: r, l, h => by
    unfold TL at h
    obtain ⟨ys, zs, h1, h2, h3⟩ := h
    rw [h1, List.length_append, h2.len, h3.len, List.length_cons]; omega
theorem SL.len {w : World} {P : Nat → Prop} {e s : TypeId} : ∀ {t : List St} {l : List Value}, SL w P e s t l → l.length = t.length * 12
  | [], l, h => by unfold SL at h; rw [h]; rfl
  | t :: r, l, h => by
    unfold SL at h
    obtain ⟨ys, zs, h1, h2, h3⟩ := h
    rw [h1, List.length_append, h2.len, h3.len, List.length_cons]; omega
theorem TL.snoc {w : World} {P : Nat → Prop} {e : TypeId} {t : Tr} {q : List Value} (hq : TC w P e t q) : ∀ {l : List Tr} {xs : List Value}, TL w P e l xs → TL w P e (l ++ [t]) (xs ++ q)
  | [], xs, h => by
    unfold TL at h; subst h
    rw [List.nil_append, List.nil_append]; unfold TL
    exact ⟨q, [], by simp, hq, by unfold TL; rfl⟩
  | a :: r, xs, h => by
    unfold TL at h
    obtain ⟨ys, zs, h1, h2, h3⟩ := h
    rw [List.cons_append]; unfold TL
    exact ⟨ys, zs ++ q, by rw [h1, List.append_assoc], h2, TL.snoc hq h3⟩
theorem SL.snoc {w : World} {P : Nat → Prop} {e s : TypeId} {t : St} {q : List Value} (hq : SC w P e s t q) : ∀ {l : List St} {xs : List Value}, SL w P e s l xs → SL w P e s (l ++ [t]) (xs ++ q)
  | [], xs, h => by
    unfold SL at h; subst h
    rw [List.nil_append, List.nil_append]; unfold SL
    exact ⟨q, [], by simp, hq, by unfold SL; rfl⟩
  | a :: r, xs, h => by
    unfold SL at h
    obtain ⟨ys, zs, h1, h2, h3⟩ := h
    rw [List.cons_append]; unfold SL
    exact ⟨ys, zs ++ q, by rw [h1, List.append_assoc], h2, SL.snoc hq h3⟩
/-- The i-th of a list, and its cells. -/
theorem TL.at {w : World} {P : Nat → Prop} {e : TypeId} : ∀ {l : List Tr} {xs : List Value}, TL w P e l xs → ∀ (i : Nat) (t : Tr), l[i]? = some t → ∃ ys, TC w P e t ys ∧ ∀ j v, ys[j]? = some v → xs[i * 4 + j]? = some v
  | [], xs, h, i, t, hi => by cases hi
  | a :: r, xs, h, i, t, hi => by
    unfold TL at h
    obtain ⟨ys, zs, h1, h2, h3⟩ := h
    subst h1
    have hl := h2.len
    cases i with
    | zero =>
      injection hi with hi; subst hi
      refine ⟨ys, h2, fun j v e => ?_⟩
      have := (List.getElem?_eq_some_iff.1 e).1
      rw [Nat.zero_mul, Nat.zero_add, List.getElem?_append_left this, e]
    | succ i =>
      obtain ⟨us, h4, h5⟩ := TL.at h3 i t hi
      refine ⟨us, h4, fun j v e => ?_⟩
      rw [List.getElem?_append_right (by omega), ← h5 j v e]
      congr 1; omega
theorem SL.at {w : World} {P : Nat → Prop} {e s : TypeId} : ∀ {l : List St} {xs : List Value}, SL w P e s l xs → ∀ (i : Nat) (t : St), l[i]? = some t → ∃ ys, SC w P e s t ys ∧ ∀ j v, ys[j]? = some v → xs[i * 12 + j]? = some v
  | [], xs, h, i, t, hi => by cases hi
  | a :: r, xs, h, i, t, hi => by
    unfold SL at h
    obtain ⟨ys, zs, h1, h2, h3⟩ := h
    subst h1
    have hl := h2.len
    cases i with
    | zero =>
      injection hi with hi; subst hi
      refine ⟨ys, h2, fun j v e => ?_⟩
      have := (List.getElem?_eq_some_iff.1 e).1
      rw [Nat.zero_mul, Nat.zero_add, List.getElem?_append_left this, e]
    | succ i =>
      obtain ⟨us, h4, h5⟩ := SL.at h3 i t hi
      refine ⟨us, h4, fun j v e => ?_⟩
      rw [List.getElem?_append_right (by omega), ← h5 j v e]
      congr 1; omega
theorem tr0_cells (w : World) (P : Nat → Prop) (e : TypeId) : TC w P e tr0 [.int .i64 0, .int .i64 0, .string (bs []), .slice none 0 0] := by
  unfold tr0 TC
  refine ⟨by unfold I64; omega, by unfold I64; omega, Nat.zero_le _, _, [], rfl, ⟨⟨rfl, .inl ⟨rfl, rfl⟩⟩, fun g hg => by cases hg⟩, by unfold TL; rfl⟩
end Go.Proofs.YtehblpbefkopbaaDoor
