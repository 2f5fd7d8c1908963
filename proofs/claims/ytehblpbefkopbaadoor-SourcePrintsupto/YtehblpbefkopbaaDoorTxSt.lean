import Derived.Test.YtehblpbefkopbaaDoorKeepSt
import Derived.Recover
import Derived.Laws.NewBlocks
import Derived.Deep.MidRow
import Derived.Deep.RegionHeld
namespace Go.Proofs.YtehblpbefkopbaaDoor
open Go.RowKit

/-- A block's cells. -/
structure CL (w : World) (b : Nat) (l : List Value) : Prop where
  c : ∀ o v, l[o]? = some v → w.cell? ⟨b, o, none⟩ = some v
  z : ∀ o, o < l.length → w.frozen? ⟨b, o, none⟩ = false
section
variable {w w' : World} {b : Nat} {l : List Value} {S : Nat → Prop}
theorem CL.lt (h : CL w b l) (hl : 0 < l.length) : b < w.heap.size := World.block_lt_of_cell? _ _ (h.c 0 l[0] (by simp [hl]))
theorem CL.keep (h : CL w b l) (hl : 0 < l.length) (k : Keeps S w w') (hS : ¬ S b) : CL w' b l :=
  ⟨fun o v e => k.cell (h.c o v e) hS, fun o ho => (k.frozen (p := ⟨b, o, none⟩) (h.lt hl) hS).trans (h.z o ho)⟩
theorem CL.set (h : CL w b l) {o : Nat} (ho : o < l.length) (v : Value) : CL (w.setCell ⟨b, o, none⟩ v) b (l.set o v) := by
  refine ⟨fun p u e => ?_, fun p hp => ?_⟩
  · by_cases hpo : o = p
    · subst hpo
      rw [List.getElem?_set_self ho] at e
      cases e
      exact World.cell?_setCell_same _ _ _ (h.c o l[o] (by simp [ho]))
    · rw [List.getElem?_set_ne hpo] at e
      rw [World.cell?_setCell_other _ _ _ _ (by intro e2; injection e2 with _ e3; omega)]
      exact h.c p u e
  · simp only [World.frozen?_setCell]
    exact h.z p (by simpa using hp)
theorem CL.other (h : CL w b l) {p : Addr} (hne : p.block ≠ b) (v : Value) : CL (w.setCell p v) b l :=
  ⟨fun o u e => by rw [World.cell?_setCell_other _ _ _ _ (by intro e2; exact hne (by rw [e2]))]; exact h.c o u e, fun o ho => by simp only [World.frozen?_setCell]; exact h.z o ho⟩
theorem CL.alloc (h : CL w b l) (hl : 0 < l.length) (ob : Obj) : CL (w.alloc ob) b l := h.keep (S := fun _ => False) hl ((Keeps.refl _ w).alloc ob) (fun e => e)
/-- Cells from o on are written. -/
def sets (l : List Value) (o : Nat) (vs : List Value) : List Value := l.take o ++ vs ++ l.drop (o + vs.length)
theorem CL.there (h : CL w b l) {o n : Nat} (ho : o + n ≤ l.length) : w.there b o n := fun j hj =>
  ⟨by rw [h.c (o + j) l[o + j] (by simp)]; rfl, h.z (o + j) (by omega)⟩
theorem CL.range (h : CL w b l) (o n : Nat) : w.rangeAt b o ((l.drop o).take n) := fun j v e => by
  rw [List.getElem?_take] at e
  split at e
  · rw [List.getElem?_drop] at e; exact h.c (o + j) v e
  · cases e
theorem CL.sets (h : CL w b l) {o : Nat} {vs : List Value} (ho : o + vs.length ≤ l.length) : CL (w.setCells b o vs) b (sets l o vs) := by
  have ht := h.there ho
  have hl : (Go.Proofs.YtehblpbefkopbaaDoor.sets l o vs).length = l.length := by simp [Go.Proofs.YtehblpbefkopbaaDoor.sets]; omega
  refine ⟨fun p u e => ?_, fun p hp => ?_⟩
  · unfold Go.Proofs.YtehblpbefkopbaaDoor.sets at e
    by_cases h1 : p < o
    · rw [World.cell?_setCells_out b vs o w ⟨b, p, none⟩ (fun _ _ => .inl h1)]
      rw [List.append_assoc, List.getElem?_append_left (by simp; omega), List.getElem?_take_of_lt h1] at e
      exact h.c p u e
    · by_cases h2 : p < o + vs.length
      · have := World.cell?_setCells_in b vs o w (fun i hi => (ht i hi).1) (p - o) (by omega)
        rw [show o + (p - o) = p by omega] at this
        rw [this]
        rw [List.append_assoc, List.getElem?_append_right (by simp; omega), List.getElem?_append_left (by simp; omega)] at e
        simp only [List.length_take, Nat.min_eq_left (show o ≤ l.length by omega)] at e
        rw [List.getElem?_eq_getElem (by omega)] at e
        exact e
      · rw [World.cell?_setCells_out b vs o w ⟨b, p, none⟩ (fun _ _ => .inr (by show o + vs.length ≤ p; omega))]
        rw [List.getElem?_append_right (by simp; omega), List.getElem?_drop] at e
        simp only [List.length_append, List.length_take, Nat.min_eq_left (show o ≤ l.length by omega)] at e
        rw [show o + vs.length + (p - (o + vs.length)) = p by omega] at e
        exact h.c p u e
  · rw [World.frozen?_setCells]
    exact h.z p (by omega)
theorem Keeps.setCells {S : Nat → Prop} {a : World} {b : Nat} (hp : b < a.heap.size → S b) : ∀ (vs : List Value) (o : Nat) {b' : World}, Keeps S a b' → Keeps S a (b'.setCells b o vs)
  | [], _, _, h => h
  | v :: r, o, _, h => Keeps.setCells hp r (o + 1) (h.setCell (p := ⟨b, o, none⟩) hp v)
theorem Keeps.setA {a b' : World} (h : Keeps (fun k => k = b) a b') (o : Nat) (v : Value) : Keeps (fun k => k = b) a (b'.setCell ⟨b, o, none⟩ v) := h.setCell (fun _ => rfl) v
theorem Keeps.setsA {a b' : World} (h : Keeps (fun k => k = b) a b') (o : Nat) (vs : List Value) : Keeps (fun k => k = b) a (b'.setCells b o vs) := Keeps.setCells (S := fun k => k = b) (fun _ => rfl) vs o h
theorem CL.drew (h : CL w b l) : CL w.drew b l := ⟨h.c, h.z⟩
end
theorem CL.made (w : World) (l : List Value) (t : TypeId) : CL (w.alloc (.cells l.toArray t)) w.heap.size l := by
  refine ⟨fun o v e => ?_, fun o _ => ?_⟩
  · have : o < l.length := (List.getElem?_eq_some_iff.1 e).1
    simp [e]
  · simp
theorem run_store_nf (P : Program) (W : World) (p : Addr) (h : (W.cell? p).isSome = true) (hz : W.frozen? p = false) : (store p .nilFunc).run P W = .ok () (W.setCell p .nilFunc) := by
  obtain ⟨u, hu⟩ := Option.isSome_iff_exists.1 h
  rw [run_store P W _ _ _ rfl]; simp [hu, hz]
theorem run_store_f (P : Program) (W : World) (p : Addr) (f : Fn) (a b : Array Value) (h : (W.cell? p).isSome = true) (hz : W.frozen? p = false) : (store p (.func f a b)).run P W = .ok () (W.setCell p (.func f a b)) := by
  obtain ⟨u, hu⟩ := Option.isSome_iff_exists.1 h
  rw [run_store P W _ _ _ rfl]; simp [hu, hz]
theorem wpList_load_run {P : Program} {w : World} {ops : Array Oper} {rest : List Oper} {o : Oper} {a : Act} {Q : Exit → Act → World → Prop} (hgd : o.guard = none) (ty : TypeId) (x : Operand) (ho : o.op = .load ty x) (ad : Addr) (hx : a.eval x = .pointer (some ad)) (v : Value)
    (hr : (loadVar ty ad).run P w = .ok v w) (h : wpList P ops Q rest (a.put o.dst v) w) : wpList P ops Q (o :: rest) a w :=
  wpList_plain hgd fun _ hK => by
    unfold Oper.wp execOp
    simp only [ho, hx, Instr.loadAt, Instr.sureAddr, Sem.run_bind, Sem.run_pure, Result.andThen_ok, hr]
    exact hK _ _ h
/-- In a drawn region: one operation alone may come up. -/
theorem wpAnyH_one {P : Program} {ops : Array Oper} {Q : Exit → Act → World → Prop} {md : Region.Mode} {S : World → Prop} {fuel : Nat} {listed : Array Bool} {a : Act} {w : World} {o : Oper} (i : Nat) (hr : Region.ready md ops listed = [i]) (hoi : ops[i]? = some o) (hgd : o.guard = none)
    (h : Oper.wp P o a w (fun a' w' => S w' ∧ (S w' → wpAnyH P md ops Q S fuel (listed.setIfInBounds i true) a' w')) Q) : wpAnyH P md ops Q S (fuel + 1) listed a w := by
  refine wpAnyH_ready hr (by simp) (AllReadyH.cons hoi (fun K hK => ?_) AllReadyH.nil)
  rw [if_pos (by simp [Region.wanted, hgd])]
  exact Oper.wp_mono (fun a' w' e => hK.out _ _ e.1 e.2) h
/-- In a drawn region: the one operation that is left is a store of many cells. -/
theorem wpAnyH_store {P : Program} {ops : Array Oper} {Q : Exit → Act → World → Prop} {md : Region.Mode} {S : World → Prop} {fuel : Nat} {listed : Array Bool} {a : Act} {w : World} {o : Oper} (i : Nat) (hr : Region.ready md ops listed = [i]) (hoi : ops[i]? = some o) (hgd : o.guard = none)
    (ty : TypeId) (x y : Operand) (ho : o.op = .store ty x y) (b off n : Nat) (cells : Array Value) (hx : a.eval x = .pointer (some ⟨b, off, none⟩)) (hy : a.eval y = .agg cells) (hn : cells.size = n) (ht : w.there b off n) (hi : (P.info? ty).map (·.size) = some n) (h1 : cells.all (·.oneCell') = true)
    (hS : S (w.setCells b off cells.toList)) (h : S (w.setCells b off cells.toList) → wpAnyH P md ops Q S fuel (listed.setIfInBounds i true) (a.put o.dst undef) (w.setCells b off cells.toList)) : wpAnyH P md ops Q S (fuel + 1) listed a w := by
  refine wpAnyH_ready hr (by simp) (AllReadyH.cons hoi (fun K hK => ?_) AllReadyH.nil)
  rw [if_pos (by simp [Region.wanted, hgd])]
  exact wp_store_mid ty x y ho b off cells hx hy (hn ▸ ht) (hn ▸ hi) h1 (hK.out _ _ hS h)
theorem wpList_store_cl {P : Program} {ops : Array Oper} {rest : List Oper} {op : Oper} {a : Act} {w : World} {Q : Exit → Act → World → Prop} (hgd : op.guard = none) (ty : TypeId) (x y : Operand) (ho : op.op = .store ty x y)
    (b o n : Nat) (cells : Array Value) (hx : a.eval x = .pointer (some ⟨b, o, none⟩)) (hy : a.eval y = .agg cells) (hn : cells.size = n) {l : List Value} (hC : CL w b l) (hl : o + n ≤ l.length)
    (hi : (P.info? ty).map (·.size) = some n) (h1 : cells.all (·.oneCell') = true)
    (h : ∀ w1, CL w1 b (sets l o cells.toList) → Keeps (fun k => k = b) w w1 → w1.heap.size = w.heap.size → wpList P ops Q rest (a.put op.dst undef) w1) : wpList P ops Q (op :: rest) a w :=
  wpList_store_mid hgd ty x y ho b o cells hx hy (hn ▸ hC.there hl) (hn ▸ hi) h1
    (h _ (hC.sets (by simp only [Array.length_toList]; omega)) ((Keeps.refl _ w).setsA _ _) (by
      have : ∀ (vs : List Value) (o : Nat) (w : World), (w.setCells b o vs).heap.size = w.heap.size := by
        intro vs
        induction vs with
        | nil => intro o w; rfl
        | cons v r ih => intro o w; show (World.setCells _ b (o + 1) r).heap.size = _; rw [ih]; simp
      exact this _ _ _))
end Go.Proofs.YtehblpbefkopbaaDoor
