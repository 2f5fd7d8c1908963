import Derived.Test.YtehblpbefkopbaaDoorXaO
namespace Go.Proofs.YtehblpbefkopbaaDoor
open Go.RowKit Go.ChangeShapes Go.WideShapes Go.ChangeAt Go.Deep
attribute [local go_sem] Oper.semAt_some run_store_nf run_store_f
theorem run_store_slS {w : World} {b o : Nat} (hc : (w.cell? ⟨b, o, none⟩).isSome = true) (hz : w.frozen? ⟨b, o, none⟩ = false) (p : Option Addr) (m c : Nat) : (storeVar 23 ⟨b, o, none⟩ (.slice p m c)).run Tryd.prog w = .ok () (w.setCell ⟨b, o, none⟩ (.slice p m c)) := by
  obtain ⟨u, hu⟩ := Option.isSome_iff_exists.1 hc
  go_simp
theorem wpList_store_slS {w : World} {ops : Array Oper} {rest : List Oper} {o : Oper} {a : Act} {Q : Exit → Act → World → Prop} (hgd : o.guard = none) (hd : o.dst = none) (x y : Operand) (ho : o.op = .store 23 x y) (b off : Nat) (hx : a.eval x = .pointer (some ⟨b, off, none⟩)) (p : Option Addr) (m c : Nat) (hy : a.eval y = .slice p m c)
    {l : List Value} (hB : CL w b l) (hl : off < l.length) (h : ∀ w1, CL w1 b (l.set off (.slice p m c)) → Keeps (fun k => k = b) w w1 → w1.heap.size = w.heap.size → wpList Tryd.prog ops Q rest a w1) : wpList Tryd.prog ops Q (o :: rest) a w :=
  wpList_plain hgd fun _ hK => by
    unfold Oper.wp execOp
    simp only [ho, hx, hy, Instr.storeAt, Instr.sureAddr, Sem.run_bind, Sem.run_pure, Result.andThen_ok, run_store_slS (by rw [hB.c off _ (List.getElem?_eq_getElem hl)]; rfl) (hB.z off hl) p m c]
    refine hK _ _ ?_
    have e : a.put o.dst undef = a := by rw [hd]; rfl
    rw [e]
    exact h _ (hB.set hl _) ((Keeps.refl (fun k => k = b) w).setCell (p := ⟨b, off, none⟩) (fun _ => rfl) _) (by simp)
/-- A statement more at the end of a list of the call's own. -/
theorem app_st {W : World} {P : Nat → Prop} {v : Value} {n : Nat} {xs L : List Value} (hown : OwnP W P 34 12 v n xs) (hn : n ≤ 40000) (hL : L.length = 12) (hO : One L) :
    ∃ p c w', (Builtin.append_ #[23, 23] 23 #[v, .slice (some ⟨W.heap.size, 0, none⟩) 1 1]).run Tryd.prog (W.alloc (.cells L.toArray 34)) = .ok (.slice p (n + 1) c) w' ∧ w'.ownsRow 0 34 12 (.slice p (n + 1) c) (n + 1) (xs ++ L) ∧ Keeps (fun i => v.ownBlock = some i) W w' ∧ ((Value.slice p (n + 1) c).ownBlock = v.ownBlock ∨ (Value.slice p (n + 1) c).ownBlock = some (W.heap.size + 1)) := by
  have h1 : ∀ u ∈ L, u.oneCell' = true := by
    have hO : L.toArray.all (·.oneCell') = true := hO
    rw [List.all_toArray, List.all_eq_true] at hO
    exact hO
  obtain ⟨v', w', hr, ho, kk, hb⟩ := append_sz uSt inSt rfl (by decide) hown.1 (Nat.zero_le _) (by decide) (by omega) L hL h1
  obtain ⟨p, c, rfl, -⟩ := own_slice ho
  exact ⟨p, c, w', hr, ho, kk, hb⟩
/-- Statements on their way. -/
structure StL (w : World) (r : Nat) (T : Bs) (Wr : World) (acc : List St) (p : Option Addr) (c : Nat) (xs : List Value) (Rc : Bs) : Prop where
  o : OwnP Wr (fun g => w.heap.size ≤ g) 34 12 (.slice p acc.length c) acc.length xs
  x : SL Wr (fun g => w.heap.size ≤ g ∧ ∀ b, (Value.slice p acc.length c).ownBlock = some b → g ≠ b) 32 34 acc xs
  h : RdM Wr r T Rc
  kk : Keeps (fun k => k = r) w Wr
theorem StL.add {w : World} {r : Nat} {T : Bs} {Wr W1 : World} {acc : List St} {p : Option Addr} {c : Nat} {xs L : List Value} {Rc R1 : Bs} {s : St} (e : StL w r T Wr acc p c xs Rc) (hr : r < w.heap.size) (h1 : RdM W1 r T R1) (k1 : Keeps (fun k => k = r) Wr W1) (V : SC W1 (fun g => Wr.heap.size ≤ g) 32 34 s L) (hL : L.length = 12) (hO : One L) (hn : acc.length ≤ 40000) :
    ∃ p' c' w', (Builtin.append_ #[23, 23] 23 #[.slice p acc.length c, .slice (some ⟨W1.heap.size, 0, none⟩) 1 1]).run Tryd.prog (W1.alloc (.cells L.toArray 34)) = .ok (.slice p' (acc ++ [s]).length c') w' ∧ StL w r T w' (acc ++ [s]) p' c' (xs ++ L) R1 := by
  have z1 := e.kk.size
  have z2 := k1.size
  have o1 := e.o.stay (k1.stay (fun i hi _ q => by omega))
  have x1 := e.x.stay (k1.stay (fun i hi _ q => by have := hi.1; omega))
  obtain ⟨p', c', w', hr1, ho, kq, hb⟩ := app_st o1 hn hL hO
  have elen : (acc ++ [s]).length = acc.length + 1 := by simp
  have z3 := kq.size
  have hlo : ∀ b, (Value.slice p acc.length c).ownBlock = some b → b < Wr.heap.size := fun b hb => owns_lt' e.o.1 b hb
  have hge : ∀ b, (Value.slice p acc.length c).ownBlock = some b → w.heap.size ≤ b := fun b hb => e.o.2 b hb
  refine ⟨p', c', w', by rw [elen]; exact hr1, ?_⟩
  have x2 := x1.lt.stay (kq.stay (fun i hi _ q => hi.1.2 i q rfl))
  have v2 := V.lt.stay (kq.stay (fun i hi _ q => by have := hlo i q; have := hi.1; omega))
  have o2 : OwnP w' (fun g => w.heap.size ≤ g) 34 12 (.slice p' (acc.length + 1) c') (acc.length + 1) (xs ++ L) := ⟨ho, fun g hg => by
    rcases hb with hb | hb
    · rw [hb] at hg; exact hge g hg
    · rw [hb] at hg; cases hg; show w.heap.size ≤ W1.heap.size + 1; omega⟩
  have x3 : SL w' (fun g => w.heap.size ≤ g ∧ ∀ b, (Value.slice p' (acc.length + 1) c').ownBlock = some b → g ≠ b) 32 34 (acc ++ [s]) (xs ++ L) := by
    refine SL.snoc (v2.mono (fun g hg => ⟨by have := hg.1; omega, fun b hb' => ?_⟩)) (x2.mono (fun g hg => ⟨hg.1.1, fun b hb' => ?_⟩))
    · rcases hb with hb | hb
      · rw [hb] at hb'; have := hlo b hb'; have := hg.1; omega
      · rw [hb] at hb'; cases hb'; have := hg.2; omega
    · rcases hb with hb | hb
      · rw [hb] at hb'; exact hg.1.2 b hb'
      · rw [hb] at hb'; cases hb'; have := hg.2; omega
  refine ⟨by rw [elen]; exact o2, by rw [elen]; exact x3, h1.keep kq (fun i hi q => ?_) (fun q => ?_), (e.kk.trans k1).trans' kq (fun _ _ q => q) (fun i hi q => ?_)⟩
  · have q : (Value.slice p acc.length c).ownBlock = some i := q
    have := hge i q; have := h1.low; omega
  · have q : (Value.slice p acc.length c).ownBlock = some r := q
    have := hge r q; omega
  · have q : (Value.slice p acc.length c).ownBlock = some i := q
    have := hge i q; omega
end Go.Proofs.YtehblpbefkopbaaDoor
