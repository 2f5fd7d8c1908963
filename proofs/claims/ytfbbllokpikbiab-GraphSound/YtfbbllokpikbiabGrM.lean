import Derived.Test.YtfbbllokpikbiabGrL
namespace Go.Proofs.Ytfbbllokpikbiab
open Go.RowKit Go.Deep
attribute [local go_sem] Oper.semAt_some run_store_nf run_store_f
theorem wp_callL {o : Oper} {a : Act} {w : World} {K : Act → World → Prop} {Q : Exit → Act → World → Prop} {s : Tmp} {t : TypeId} (ho : o.op = .call { callee := .value (.func 18), args := #[.tmp s], argTypes := #[t] }) {v : Value} (hx : a.tmps[s]?.getD undef = v) (h : Calls Try.prog 18 #[v] w (fun e w' => ∃ v, e = .returned v ∧ K (a.put o.dst v) w')) : o.wp Try.prog a w K Q := by
  unfold Oper.wp execOp
  simp only [ho]
  go_simp
  refine h.mono ?_
  rintro e w' ⟨v, rfl, h⟩
  exact h
theorem wp_callN {o : Oper} {a : Act} {w : World} {K : Act → World → Prop} {Q : Exit → Act → World → Prop} (ho : o.op = .call { callee := .value (.func 41), args := #[], argTypes := #[] }) (h : Calls Try.prog 41 #[] w (fun e w' => ∃ v, e = .returned v ∧ K (a.put o.dst v) w')) : o.wp Try.prog a w K Q := by
  unfold Oper.wp execOp
  simp only [ho]
  go_simp
  refine h.mono ?_
  rintro e w' ⟨v, rfl, h⟩
  exact h
theorem wp_allocS {o : Oper} {a : Act} {w : World} {K : Act → World → Prop} {Q : Exit → Act → World → Prop} (ho : o.op = .alloc 23) (h : K (a.put o.dst (.pointer (some ⟨w.heap.size, 0, none⟩))) (w.alloc (.cells #[.slice none 0 0] 23))) : o.wp Try.prog a w K Q := by
  unfold Oper.wp execOp
  simp only [ho]
  go_simp
  exact h
theorem wp_allocP {o : Oper} {a : Act} {w : World} {K : Act → World → Prop} {Q : Exit → Act → World → Prop} (ho : o.op = .alloc 72) (h : K (a.put o.dst (.pointer (some ⟨w.heap.size, 0, none⟩))) (w.alloc (.cells #[.pointer none] 72))) : o.wp Try.prog a w K Q := by
  unfold Oper.wp execOp
  simp only [ho]
  go_simp
  exact h
theorem wp_valueK {P : Program} {o : Oper} {a : Act} {w w' : World} {K : Act → World → Prop} {Q : Exit → Act → World → Prop} {v : Value} (hr : (execOp a.eval o).run P w = .ok (.value v) w') (h : K (a.put o.dst v) w') : o.wp P a w K Q := by
  unfold Oper.wp
  rw [hr, Oper.upon_value]
  exact h
theorem six_all : ∀ b0 b1 b2 b3 b4 c : Bool, b0.toNat + b1.toNat + b2.toNat + b3.toNat + b4.toNat + c.toNat + 0 = 6 → (b0 && b1 && b2 && b3 && b4 && c) = true := by decide
theorem six_not (b0 b1 b2 b3 b4 c : Bool) (m : Nat) (h : b0.toNat + b1.toNat + b2.toNat + b3.toNat + b4.toNat + c.toNat + (m + 1) = 6) : (b0 && b1 && b2 && b3 && b4 && c) = false := by
  cases hh : (b0 && b1 && b2 && b3 && b4 && c) with
  | false => rfl
  | true =>
    simp only [Bool.and_eq_true] at hh
    obtain ⟨⟨⟨⟨⟨rfl, rfl⟩, rfl⟩, rfl⟩, rfl⟩, rfl⟩ := hh
    have : (true).toNat = 1 := rfl
    omega
def obOps (f : Func) : Array Oper := match f.body with | some (.seq _ (.seq (.region _ ops _) _)) => ops | _ => #[]
def obL (b0 b1 b2 b3 b4 c : Bool) : Array Bool := #[true, b0, true, b1, b2, b3, b4, c, false, false]
def obF (nv ev x5 x6 x7 x18 x20 x21 : Value) : Act := { tmps := #[nv, ev, undef, undef, .slice none 0 0, x5, x6, x7, undef, undef, undef, undef, undef, undef, undef, undef, undef, ev, x18, nv, x20, x21, undef, undef, undef, undef, undef, undef, undef, undef, undef, undef, undef, undef, undef, undef, undef, undef, undef, undef, undef, undef, undef, undef, undef, undef, undef, undef, undef, undef, undef, undef, undef, undef, undef, undef, undef, undef, undef, undef, undef, undef, undef, undef, undef, undef, undef, undef, undef, undef, undef, undef, undef, undef, undef, undef, undef, undef], defers := [] }
/-- What may come next in the region. -/
theorem ob_ready (b0 b1 b2 b3 b4 c : Bool) (hv : (!c || (b0 && b2 && b3 && b4)) = true) (hn : (b0 && b1 && b2 && b3 && b4 && c) = false) (i : Nat) (hi : i ∈ Region.ready .any (obOps Try.f28) (obL b0 b1 b2 b3 b4 c)) : (i = 1 ∧ b0 = false ∧ c = false) ∨ (i = 3 ∧ b1 = false) ∨ (i = 4 ∧ b2 = false ∧ c = false) ∨ (i = 5 ∧ b3 = false ∧ c = false) ∨ (i = 6 ∧ b4 = false ∧ c = false) ∨ (i = 7 ∧ c = false ∧ b0 = true ∧ b2 = true ∧ b3 = true ∧ b4 = true) := by
  have key : ∀ b0 b1 b2 b3 b4 c : Bool, (!c || (b0 && b2 && b3 && b4)) = true → (b0 && b1 && b2 && b3 && b4 && c) = false → (Region.ready .any (obOps Try.f28) (obL b0 b1 b2 b3 b4 c)).all (fun i => decide (i = 1) && !b0 && !c || (decide (i = 3) && !b1 || (decide (i = 4) && !b2 && !c || (decide (i = 5) && !b3 && !c || (decide (i = 6) && !b4 && !c || decide (i = 7) && !c && b0 && b2 && b3 && b4))))) = true := by
    decide +kernel
  have := List.all_eq_true.1 (key b0 b1 b2 b3 b4 c hv hn) i hi
  simp only [Bool.or_eq_true, Bool.and_eq_true, decide_eq_true_eq, Bool.not_eq_true'] at this
  rcases this with ⟨⟨h1, h2⟩, h3⟩ | ⟨h1, h2⟩ | ⟨⟨h1, h2⟩, h3⟩ | ⟨⟨h1, h2⟩, h3⟩ | ⟨⟨h1, h2⟩, h3⟩ | ⟨⟨⟨⟨⟨h1, h2⟩, h3⟩, h4⟩, h5⟩, h6⟩
  · exact .inl ⟨h1, h2, h3⟩
  · exact .inr (.inl ⟨h1, h2⟩)
  · exact .inr (.inr (.inl ⟨h1, h2, h3⟩))
  · exact .inr (.inr (.inr (.inl ⟨h1, h2, h3⟩)))
  · exact .inr (.inr (.inr (.inr (.inl ⟨h1, h2, h3⟩))))
  · exact .inr (.inr (.inr (.inr (.inr ⟨h1, h2, h3, h4, h5, h6⟩))))
theorem ob_ne (b0 b1 b2 b3 b4 c : Bool) (hv : (!c || (b0 && b2 && b3 && b4)) = true) (hn : (b0 && b1 && b2 && b3 && b4 && c) = false) : Region.ready .any (obOps Try.f28) (obL b0 b1 b2 b3 b4 c) ≠ [] := by
  have key : ∀ b0 b1 b2 b3 b4 c : Bool, (!c || (b0 && b2 && b3 && b4)) = true → (b0 && b1 && b2 && b3 && b4 && c) = false → (Region.ready .any (obOps Try.f28) (obL b0 b1 b2 b3 b4 c)).isEmpty = false := by
    decide +kernel
  intro e
  have := key b0 b1 b2 b3 b4 c hv hn
  rw [e] at this
  cases this
/-- On the way through the region. -/
structure OZ (w W : World) (g : List Eg) (n : Nat) (b0 b1 b2 b3 b4 c : Bool) (x5 x6 x7 x18 x20 x21 : Value) (mb lo hi A qb pa pr : Nat) : Prop where
  k : Keeps (fun _ => False) w W
  i0 : b0 = true → x18 = .map (some mb) ∧ LR W lo hi mb g ∧ w.heap.size ≤ lo
  i1 : b1 = true → x20 = .slice (some ⟨A, 0, none⟩) n n ∧ FB W A n (nms (fun _ => 0)) ∧ w.heap.size ≤ A ∧ A < W.heap.size
  i2 : b2 = true → x21 = .pointer (some ⟨qb, 0, none⟩) ∧ QI W qb [] [qb] ∧ w.heap.size ≤ qb
  i3 : b3 = true → x6 = .pointer (some ⟨pa, 0, none⟩) ∧ CL W pa [.slice none 0 0] ∧ w.heap.size ≤ pa
  i4 : b4 = true → x7 = .pointer (some ⟨pr, 0, none⟩) ∧ CL W pr [.pointer none] ∧ w.heap.size ≤ pr
  i5 : c = true → x5 = x18
  d01 : b0 = true → b1 = true → ¬ (lo ≤ A ∧ A < hi)
  d02 : b0 = true → b2 = true → ¬ (lo ≤ qb ∧ qb < hi)
  d03 : b0 = true → b3 = true → ¬ (lo ≤ pa ∧ pa < hi)
  d04 : b0 = true → b4 = true → ¬ (lo ≤ pr ∧ pr < hi)
  d12 : b1 = true → b2 = true → A ≠ qb
  d13 : b1 = true → b3 = true → A ≠ pa
  d14 : b1 = true → b4 = true → A ≠ pr
  d23 : b2 = true → b3 = true → qb ≠ pa
  d24 : b2 = true → b4 = true → qb ≠ pr
  d34 : b3 = true → b4 = true → pa ≠ pr
theorem OZ.s0 {w W W' : World} {g : List Eg} {n : Nat} {b0 b1 b2 b3 b4 c : Bool} {x5 x6 x7 x18 x20 x21 : Value} {mb lo hi A qb pa pr : Nat} (h : OZ w W g n b0 b1 b2 b3 b4 c x5 x6 x7 x18 x20 x21 mb lo hi A qb pa pr) (k : Keeps (fun _ => False) W W') (hc : c = false) {mb' : Nat} (hl : LR W' W.heap.size W'.heap.size mb' g) : OZ w W' g n true b1 b2 b3 b4 c x5 x6 x7 (.map (some mb')) x20 x21 mb' W.heap.size W'.heap.size A qb pa pr := by
  have e0 := fun q => (h.i0 q).2.1.s
  have e1 := fun q => (h.i1 q).2.2.2
  have e2 := fun q => (h.i2 q).2.1.lt qb (by simp)
  have e3 := fun q => (h.i3 q).2.1.lt (by show 0 < 1; decide)
  have e4 := fun q => (h.i4 q).2.1.lt (by show 0 < 1; decide)
  have hz := h.k.size
  exact ⟨(h.k.trans k), (fun _ => ⟨rfl, hl, hz⟩), (fun q => ⟨(h.i1 q).1, (h.i1 q).2.1.keep k (fun e => e), (h.i1 q).2.2.1, Nat.lt_of_lt_of_le (h.i1 q).2.2.2 k.size⟩), (fun q => ⟨(h.i2 q).1, (h.i2 q).2.1.keep k (fun _ _ e => e), (h.i2 q).2.2⟩), (fun q => ⟨(h.i3 q).1, (h.i3 q).2.1.stays k (fun e => e), (h.i3 q).2.2⟩), (fun q => ⟨(h.i4 q).1, (h.i4 q).2.1.stays k (fun e => e), (h.i4 q).2.2⟩), (fun q => by rw [hc] at q; cases q), (fun _ q => by have := e1 q; omega), (fun _ q => by have := e2 q; omega), (fun _ q => by have := e3 q; omega), (fun _ q => by have := e4 q; omega), (h.d12), (h.d13), (h.d14), (h.d23), (h.d24), (h.d34)⟩
theorem OZ.s1 {w W W' : World} {g : List Eg} {n : Nat} {b0 b1 b2 b3 b4 c : Bool} {x5 x6 x7 x18 x20 x21 : Value} {mb lo hi A qb pa pr : Nat} (h : OZ w W g n b0 b1 b2 b3 b4 c x5 x6 x7 x18 x20 x21 mb lo hi A qb pa pr) (k : Keeps (fun _ => False) W W') (hF : FB W' W.heap.size n (nms (fun _ => 0))) (hs : W.heap.size < W'.heap.size) : OZ w W' g n b0 true b2 b3 b4 c x5 x6 x7 x18 (.slice (some ⟨W.heap.size, 0, none⟩) n n) x21 mb lo hi W.heap.size qb pa pr := by
  have e0 := fun q => (h.i0 q).2.1.s
  have e1 := fun q => (h.i1 q).2.2.2
  have e2 := fun q => (h.i2 q).2.1.lt qb (by simp)
  have e3 := fun q => (h.i3 q).2.1.lt (by show 0 < 1; decide)
  have e4 := fun q => (h.i4 q).2.1.lt (by show 0 < 1; decide)
  have hz := h.k.size
  exact ⟨(h.k.trans k), (fun q => ⟨(h.i0 q).1, (h.i0 q).2.1.keep k (fun _ _ _ e => e), (h.i0 q).2.2⟩), (fun _ => ⟨rfl, hF, hz, hs⟩), (fun q => ⟨(h.i2 q).1, (h.i2 q).2.1.keep k (fun _ _ e => e), (h.i2 q).2.2⟩), (fun q => ⟨(h.i3 q).1, (h.i3 q).2.1.stays k (fun e => e), (h.i3 q).2.2⟩), (fun q => ⟨(h.i4 q).1, (h.i4 q).2.1.stays k (fun e => e), (h.i4 q).2.2⟩), (h.i5), (fun q _ => by have := e0 q; omega), (h.d02), (h.d03), (h.d04), (fun _ q => by have := e2 q; omega), (fun _ q => by have := e3 q; omega), (fun _ q => by have := e4 q; omega), (h.d23), (h.d24), (h.d34)⟩
theorem OZ.s2 {w W W' : World} {g : List Eg} {n : Nat} {b0 b1 b2 b3 b4 c : Bool} {x5 x6 x7 x18 x20 x21 : Value} {mb lo hi A qb pa pr : Nat} (h : OZ w W g n b0 b1 b2 b3 b4 c x5 x6 x7 x18 x20 x21 mb lo hi A qb pa pr) (k : Keeps (fun _ => False) W W') (hq : QI W' W.heap.size [] [W.heap.size]) : OZ w W' g n b0 b1 true b3 b4 c x5 x6 x7 x18 x20 (.pointer (some ⟨W.heap.size, 0, none⟩)) mb lo hi A W.heap.size pa pr := by
  have e0 := fun q => (h.i0 q).2.1.s
  have e1 := fun q => (h.i1 q).2.2.2
  have e2 := fun q => (h.i2 q).2.1.lt qb (by simp)
  have e3 := fun q => (h.i3 q).2.1.lt (by show 0 < 1; decide)
  have e4 := fun q => (h.i4 q).2.1.lt (by show 0 < 1; decide)
  have hz := h.k.size
  exact ⟨(h.k.trans k), (fun q => ⟨(h.i0 q).1, (h.i0 q).2.1.keep k (fun _ _ _ e => e), (h.i0 q).2.2⟩), (fun q => ⟨(h.i1 q).1, (h.i1 q).2.1.keep k (fun e => e), (h.i1 q).2.2.1, Nat.lt_of_lt_of_le (h.i1 q).2.2.2 k.size⟩), (fun _ => ⟨rfl, hq, hz⟩), (fun q => ⟨(h.i3 q).1, (h.i3 q).2.1.stays k (fun e => e), (h.i3 q).2.2⟩), (fun q => ⟨(h.i4 q).1, (h.i4 q).2.1.stays k (fun e => e), (h.i4 q).2.2⟩), (h.i5), (h.d01), (fun q _ => by have := e0 q; omega), (h.d03), (h.d04), (fun q _ => by have := e1 q; omega), (h.d13), (h.d14), (fun _ q => by have := e3 q; omega), (fun _ q => by have := e4 q; omega), (h.d34)⟩
theorem OZ.s3 {w W W' : World} {g : List Eg} {n : Nat} {b0 b1 b2 b3 b4 c : Bool} {x5 x6 x7 x18 x20 x21 : Value} {mb lo hi A qb pa pr : Nat} (h : OZ w W g n b0 b1 b2 b3 b4 c x5 x6 x7 x18 x20 x21 mb lo hi A qb pa pr) (k : Keeps (fun _ => False) W W') (hC : CL W' W.heap.size [.slice none 0 0]) : OZ w W' g n b0 b1 b2 true b4 c x5 (.pointer (some ⟨W.heap.size, 0, none⟩)) x7 x18 x20 x21 mb lo hi A qb W.heap.size pr := by
  have e0 := fun q => (h.i0 q).2.1.s
  have e1 := fun q => (h.i1 q).2.2.2
  have e2 := fun q => (h.i2 q).2.1.lt qb (by simp)
  have e3 := fun q => (h.i3 q).2.1.lt (by show 0 < 1; decide)
  have e4 := fun q => (h.i4 q).2.1.lt (by show 0 < 1; decide)
  have hz := h.k.size
  exact ⟨(h.k.trans k), (fun q => ⟨(h.i0 q).1, (h.i0 q).2.1.keep k (fun _ _ _ e => e), (h.i0 q).2.2⟩), (fun q => ⟨(h.i1 q).1, (h.i1 q).2.1.keep k (fun e => e), (h.i1 q).2.2.1, Nat.lt_of_lt_of_le (h.i1 q).2.2.2 k.size⟩), (fun q => ⟨(h.i2 q).1, (h.i2 q).2.1.keep k (fun _ _ e => e), (h.i2 q).2.2⟩), (fun _ => ⟨rfl, hC, hz⟩), (fun q => ⟨(h.i4 q).1, (h.i4 q).2.1.stays k (fun e => e), (h.i4 q).2.2⟩), (h.i5), (h.d01), (h.d02), (fun q _ => by have := e0 q; omega), (h.d04), (h.d12), (fun q _ => by have := e1 q; omega), (h.d14), (fun q _ => by have := e2 q; omega), (h.d24), (fun _ q => by have := e4 q; omega)⟩
theorem OZ.s4 {w W W' : World} {g : List Eg} {n : Nat} {b0 b1 b2 b3 b4 c : Bool} {x5 x6 x7 x18 x20 x21 : Value} {mb lo hi A qb pa pr : Nat} (h : OZ w W g n b0 b1 b2 b3 b4 c x5 x6 x7 x18 x20 x21 mb lo hi A qb pa pr) (k : Keeps (fun _ => False) W W') (hC : CL W' W.heap.size [.pointer none]) : OZ w W' g n b0 b1 b2 b3 true c x5 x6 (.pointer (some ⟨W.heap.size, 0, none⟩)) x18 x20 x21 mb lo hi A qb pa W.heap.size := by
  have e0 := fun q => (h.i0 q).2.1.s
  have e1 := fun q => (h.i1 q).2.2.2
  have e2 := fun q => (h.i2 q).2.1.lt qb (by simp)
  have e3 := fun q => (h.i3 q).2.1.lt (by show 0 < 1; decide)
  have e4 := fun q => (h.i4 q).2.1.lt (by show 0 < 1; decide)
  have hz := h.k.size
  exact ⟨(h.k.trans k), (fun q => ⟨(h.i0 q).1, (h.i0 q).2.1.keep k (fun _ _ _ e => e), (h.i0 q).2.2⟩), (fun q => ⟨(h.i1 q).1, (h.i1 q).2.1.keep k (fun e => e), (h.i1 q).2.2.1, Nat.lt_of_lt_of_le (h.i1 q).2.2.2 k.size⟩), (fun q => ⟨(h.i2 q).1, (h.i2 q).2.1.keep k (fun _ _ e => e), (h.i2 q).2.2⟩), (fun q => ⟨(h.i3 q).1, (h.i3 q).2.1.stays k (fun e => e), (h.i3 q).2.2⟩), (fun _ => ⟨rfl, hC, hz⟩), (h.i5), (h.d01), (h.d02), (h.d03), (fun q _ => by have := e0 q; omega), (h.d12), (h.d13), (fun q _ => by have := e1 q; omega), (h.d23), (fun q _ => by have := e2 q; omega), (fun q _ => by have := e3 q; omega)⟩
theorem run_store_sl {t : TypeId} (ht : t = 23) {W : World} {b : Nat} (h : (W.cell? ⟨b, 0, none⟩).isSome = true) (hz : W.frozen? ⟨b, 0, none⟩ = false) (sa : Option Addr) (sn sc : Nat) : (storeVar t ⟨b, 0, none⟩ (.slice sa sn sc)).run Try.prog W = .ok () (W.setCell ⟨b, 0, none⟩ (.slice sa sn sc)) := by
  subst ht
  obtain ⟨u, hu⟩ := Option.isSome_iff_exists.1 h
  go_simp
theorem run_store_pt {W : World} {b : Nat} (h : (W.cell? ⟨b, 0, none⟩).isSome = true) (hz : W.frozen? ⟨b, 0, none⟩ = false) (p : Option Addr) : (storeVar 72 ⟨b, 0, none⟩ (.pointer p)).run Try.prog W = .ok () (W.setCell ⟨b, 0, none⟩ (.pointer p)) := by
  obtain ⟨u, hu⟩ := Option.isSome_iff_exists.1 h
  go_simp
theorem OZ.os {w W : World} {g : List Eg} {n : Nat} {x5 x6 x7 x18 x20 x21 : Value} {mb lo hi A qb pa pr : Nat} (h : OZ w W g n true true true true true true x5 x6 x7 x18 x20 x21 mb lo hi A qb pa pr) {W1 W2 : World} (k1 : Keeps (fun i => i = pa) W W1) (c1 : CL W1 pa [.slice (some ⟨A, 0, none⟩) n n]) (k2 : Keeps (fun i => i = pr) W1 W2) (c2 : CL W2 pr [.pointer (some ⟨qb, 0, none⟩)]) : OS w W2 g n ⟨mb, lo, hi, A, pa, pr, qb⟩ [] [qb] (fun _ => 0) (.slice none 0 0) [] := by
  have d01 := h.d01 rfl rfl
  have d02 := h.d02 rfl rfl
  have d03 := h.d03 rfl rfl
  have d04 := h.d04 rfl rfl
  have d12 := h.d12 rfl rfl
  have d13 := h.d13 rfl rfl
  have d14 := h.d14 rfl rfl
  have d23 := h.d23 rfl rfl
  have d24 := h.d24 rfl rfl
  have d34 := h.d34 rfl rfl
  obtain ⟨-, i0, g0⟩ := h.i0 rfl
  obtain ⟨-, i1, g1, s1⟩ := h.i1 rfl
  obtain ⟨-, i2, g2⟩ := h.i2 rfl
  obtain ⟨-, i3, g3⟩ := h.i3 rfl
  obtain ⟨-, i4, g4⟩ := h.i4 rfl
  have z1 := k1.size
  have z2 := k2.size
  refine ⟨(i0.keep k1 (fun b h1 h2 e => d03 (by have e : b = pa := e; omega))).keep k2 (fun b h1 h2 e => d04 (by have e : b = pr := e; omega)), (i1.keep k1 (fun e => d13 e)).keep k2 (fun e => d14 e), c1.stays k2 (fun e => d34 e), c2, (i2.keep k1 (fun b hb e => by simp at hb; subst hb; exact d23 e)).keep k2 (fun b hb e => by simp at hb; subst hb; exact d24 e), fun b hb => ?_, ⟨d13, d14, d34⟩, ⟨d01, d03, d04⟩, by show A < _; omega, World.ownsRow_nil _ _ _ _, (fun b e => by cases e), ⟨g1, g3, g4, fun b hb => by simp at hb; subst hb; exact g2⟩, (h.k.trans' k1 (fun _ _ e => e) (fun i hi e => by have e : i = pa := e; omega)).trans' k2 (fun _ _ e => e) (fun i hi e => by have e : i = pr := e; omega)⟩
  simp at hb
  subst hb
  exact ⟨fun e => d12 e.symm, d23, d24, d02⟩
set_option maxHeartbeats 1000000 in
set_option maxRecDepth 100000 in
theorem ob_start {Q : Exit → Act → World → Prop} {w : World} {a : Option Addr} {cap n : Nat} {g : List Eg} (hl : EL w a (g.map Eg.ed)) (hb : Bln g n) (hn : n ≤ 4096) (hlen : g.length ≤ 4398046511104)
    (hQ : ∀ w' o, OS w w' g n o [] [o.qb] (fun _ => 0) (.slice none 0 0) [] → Q .normal (obF (.int .i64 (n : Int)) (.slice a g.length cap) (.map (some o.mb)) (.pointer (some ⟨o.pa, 0, none⟩)) (.pointer (some ⟨o.pr, 0, none⟩)) (.map (some o.mb)) (.slice (some ⟨o.A, 0, none⟩) n n) (.pointer (some ⟨o.qb, 0, none⟩))) w') :
    ∀ (m : Nat) (b0 b1 b2 b3 b4 c : Bool) (x5 x6 x7 x18 x20 x21 : Value) (mb lo hi A qb pa pr : Nat) (W : World), b0.toNat + b1.toNat + b2.toNat + b3.toNat + b4.toNat + c.toNat + m = 6 → (!c || (b0 && b2 && b3 && b4)) = true → OZ w W g n b0 b1 b2 b3 b4 c x5 x6 x7 x18 x20 x21 mb lo hi A qb pa pr →
      wpAnyH Try.prog .any (obOps Try.f28) Q (fun _ => True) (m + 2) (obL b0 b1 b2 b3 b4 c) (obF (.int .i64 (n : Int)) (.slice a g.length cap) x5 x6 x7 x18 x20 x21) W := by
  intro m
  induction m with
  | zero =>
    intro b0 b1 b2 b3 b4 c x5 x6 x7 x18 x20 x21 mb lo hi A qb pa pr W hm hv h
    have hall := six_all b0 b1 b2 b3 b4 c hm
    simp only [Bool.and_eq_true] at hall
    obtain ⟨⟨⟨⟨⟨rfl, rfl⟩, rfl⟩, rfl⟩, rfl⟩, rfl⟩ := hall
    obtain ⟨rfl, -, -⟩ := h.i0 rfl
    obtain ⟨rfl, -, -, -⟩ := h.i1 rfl
    obtain ⟨rfl, -, -⟩ := h.i2 rfl
    obtain ⟨rfl, i3, -⟩ := h.i3 rfl
    obtain ⟨rfl, i4, -⟩ := h.i4 rfl
    obtain rfl := h.i5 rfl
    obtain ⟨W1, hW1⟩ : ∃ W1, W1 = W.setCell ⟨pa, 0, none⟩ (.slice (some ⟨A, 0, none⟩) n n) := ⟨_, rfl⟩
    have k1 : Keeps (fun i => i = pa) W W1 := by rw [hW1]; exact (Keeps.refl (fun i => i = pa) W).setCell (p := ⟨pa, 0, none⟩) (fun _ => rfl) _
    have c1 : CL W1 pa [.slice (some ⟨A, 0, none⟩) n n] := by rw [hW1]; exact i3.set (o := 0) (by show 0 < 1; decide) _
    have i4' : CL W1 pr [.pointer none] := i4.stays k1 (fun e => h.d34 rfl rfl (Eq.symm e))
    obtain ⟨W2, hW2⟩ : ∃ W2, W2 = W1.setCell ⟨pr, 0, none⟩ (.pointer (some ⟨qb, 0, none⟩)) := ⟨_, rfl⟩
    have k2 : Keeps (fun i => i = pr) W1 W2 := by rw [hW2]; exact (Keeps.refl (fun i => i = pr) W1).setCell (p := ⟨pr, 0, none⟩) (fun _ => rfl) _
    have c2 : CL W2 pr [.pointer (some ⟨qb, 0, none⟩)] := by rw [hW2]; exact i4'.set (o := 0) (by show 0 < 1; decide) _
    have hos := h.os k1 c1 k2 c2
    refine wpAnyH_one 8 (by kernel_rfl) rfl rfl ?_
    refine wp_storeK 23 _ _ rfl ⟨pa, 0, none⟩ rfl _ rfl (run_store_sl rfl (by rw [i3.c 0 _ rfl]; rfl) (i3.z 0 (by show 0 < 1; decide)) (some ⟨A, 0, none⟩) n n) ?_
    refine ⟨trivial, fun _ => ?_⟩
    rw [← hW1]
    refine wpAnyH_one 9 (by kernel_rfl) rfl rfl ?_
    refine wp_storeK 72 _ _ rfl ⟨pr, 0, none⟩ rfl _ rfl (run_store_pt (by rw [i4'.c 0 _ rfl]; rfl) (i4'.z 0 (by show 0 < 1; decide)) (some ⟨qb, 0, none⟩)) ?_
    refine ⟨trivial, fun _ => ?_⟩
    rw [← hW2]
    refine wpAnyH_done (by kernel_rfl) ?_ _
    exact hQ W2 ⟨mb, lo, hi, A, pa, pr, qb⟩ hos
  | succ m ih =>
    intro b0 b1 b2 b3 b4 c x5 x6 x7 x18 x20 x21 mb lo hi A qb pa pr W hm hv h
    have hnot := six_not b0 b1 b2 b3 b4 c m hm
    refine ⟨fun e => absurd e (ob_ne b0 b1 b2 b3 b4 c hv hnot), fun i hi => ?_⟩
    rcases ob_ready b0 b1 b2 b3 b4 c hv hnot i hi with ⟨rfl, rfl, rfl⟩ | ⟨rfl, rfl⟩ | ⟨rfl, rfl, rfl⟩ | ⟨rfl, rfl, rfl⟩ | ⟨rfl, rfl, rfl⟩ | ⟨rfl, rfl, rfl, rfl, rfl, rfl⟩
    · refine wpOp_step rfl (fun K' hK => ?_)
      rw [if_pos (by rfl)]
      refine wp_callL (v := .slice a g.length cap) rfl rfl ?_
      refine (leadsOf_any (hl.keep h.k) hb hn hlen).mono ?_
      rintro e W' ⟨mb', rfl, hLR, k⟩
      refine ⟨_, rfl, hK _ _ ⟨trivial, ?_⟩⟩
      exact ih true b1 b2 b3 b4 false _ _ _ _ _ _ _ _ _ _ _ _ _ W' (by have q1 : (true).toNat = 1 := rfl; have q2 : (false).toNat = 0 := rfl; omega) rfl (h.s0 k rfl hLR)
    · refine wpOp_step rfl (fun K' hK => ?_)
      rw [if_pos (by rfl)]
      have hmk : (Instr.makeSlice 23 (.int .i64 (n : Int)) (.int .i64 (n : Int))).run Try.prog W = .ok (.slice (some ⟨W.heap.size, 0, none⟩) n n) (W.alloc (.cells (madeCells #[.int .i64 0] n) 3)) := run_make_row' (P := Try.prog) 23 3 (.int .i64 0) 8 Try.underlying23 iI rfl .i64 .i64 n (by omega) (by omega) W
      refine wp_valueK (v := .slice (some ⟨W.heap.size, 0, none⟩) n n) (w' := W.alloc (.cells (madeCells #[.int .i64 0] n) 3)) ?_ (hK _ _ ⟨trivial, ?_⟩)
      · show Sem.run Try.prog (execOp _ _) W = _
        unfold execOp
        show Sem.run Try.prog (do let v ← Instr.makeSlice 23 (.int .i64 (n : Int)) (.int .i64 (n : Int)); pure (Next.value v)) W = _
        rw [Sem.run_bind, hmk]
        rfl
      exact ih b0 true b2 b3 b4 c _ _ _ _ _ _ _ _ _ _ _ _ _ _ (by have q1 : (true).toNat = 1 := rfl; have q2 : (false).toNat = 0 := rfl; omega) hv (h.s1 ((Keeps.refl _ W).alloc _) (FB.made W n (.int .i64 0) 3) (by simp))
    · refine wpOp_step rfl (fun K' hK => ?_)
      rw [if_pos (by rfl)]
      refine wp_callN rfl ?_
      refine (new_any W).mono ?_
      rintro e W' ⟨rfl, hq, k⟩
      refine ⟨_, rfl, hK _ _ ⟨trivial, ?_⟩⟩
      exact ih b0 b1 true b3 b4 false _ _ _ _ _ _ _ _ _ _ _ _ _ W' (by have q1 : (true).toNat = 1 := rfl; have q2 : (false).toNat = 0 := rfl; omega) rfl (h.s2 k hq)
    · refine wpOp_step rfl (fun K' hK => ?_)
      rw [if_pos (by rfl)]
      refine wp_allocS rfl (hK _ _ ⟨trivial, ?_⟩)
      exact ih b0 b1 b2 true b4 false _ _ _ _ _ _ _ _ _ _ _ _ _ _ (by have q1 : (true).toNat = 1 := rfl; have q2 : (false).toNat = 0 := rfl; omega) rfl (h.s3 ((Keeps.refl _ W).alloc _) (CL.made W [.slice none 0 0] _))
    · refine wpOp_step rfl (fun K' hK => ?_)
      rw [if_pos (by rfl)]
      refine wp_allocP rfl (hK _ _ ⟨trivial, ?_⟩)
      exact ih b0 b1 b2 b3 true false _ _ _ _ _ _ _ _ _ _ _ _ _ _ (by have q1 : (true).toNat = 1 := rfl; have q2 : (false).toNat = 0 := rfl; omega) rfl (h.s4 ((Keeps.refl _ W).alloc _) (CL.made W [.pointer none] _))
    · refine wpOp_step rfl (fun K' hK => ?_)
      rw [if_pos (by rfl)]
      refine wp_valueK (v := x18) (w' := W) (by rfl) (hK _ _ ⟨trivial, ?_⟩)
      exact ih true b1 true true true true _ _ _ _ _ _ _ _ _ _ _ _ _ W (by have q1 : (true).toNat = 1 := rfl; have q2 : (false).toNat = 0 := rfl; omega) rfl ⟨h.k, h.i0, h.i1, h.i2, h.i3, h.i4, fun _ => rfl, h.d01, h.d02, h.d03, h.d04, h.d12, h.d13, h.d14, h.d23, h.d24, h.d34⟩
end Go.Proofs.Ytfbbllokpikbiab
