import Derived.Test.YtlaacojicoeneaaHsL
import Derived.Great.BuildSlice
namespace Go.Proofs.Ytlaacojicoeneaa
open Go.RowKit
def rLife : Rw := { rw0 with try_ := 1, no := 1, object := -1, entry := -1, enemy := -1, cell := -1 }
def lifeOps (f : Func) : Array Oper := match f.body with | some (.seq _ (.seq _ (.seq (.region _ ops _) _))) => ops | _ => #[]
/-- The frame of life's second region: six new variables. -/
def lfF (y z : Value) (x : Nat → Value) : Act := { tmps := #[.slice none 0 0, y, x 0, x 1, x 2, x 3, x 4, x 5, z, .agg rLife.cells.toArray, .agg rLife.cells.toArray, .agg rLife.cells.toArray, .agg rLife.cells.toArray, .agg rLife.cells.toArray, .agg rLife.cells.toArray, undef, undef, undef, undef, undef, undef, undef, undef, undef, undef, undef, undef, undef, undef, undef, undef, undef, undef, undef, undef, undef, undef, undef, undef, undef, undef, undef, undef, undef, undef, undef, undef, undef, undef, undef], defers := [] }
def lfL (b : Nat → Bool) : Array Bool := #[true, true, true, true, true, true, b 0, b 1, b 2, b 3, b 4, b 5, false, false, false, false, false, false]
def lfP (p : Nat → Nat) : Nat → Value := fun k => .pointer (some ⟨p k, 0, none⟩)
theorem wp_alloc_row {o : Oper} {a : Act} {w : World} {K : Act → World → Prop} {Q : Exit → Act → World → Prop} (ho : o.op = .alloc 39) (h : K (a.put o.dst (.pointer (some ⟨w.heap.size, 0, none⟩))) (w.alloc (.cells rw0.cells.toArray 39))) : Oper.wp Try.prog o a w K Q := by
  unfold Oper.wp execOp
  simp only [ho]
  go_simp
  exact h
theorem ready_life (b : Nat → Bool) (i : Nat) (hi : i ∈ Region.ready .any (lifeOps Try.f8) (lfL b)) (hn : (b 0 && b 1 && b 2 && b 3 && b 4 && b 5) = false) : ∃ k, k < 6 ∧ i = 6 + k ∧ b k = false := by
  have key : ∀ b0 b1 b2 b3 b4 b5 : Bool, (b0 && b1 && b2 && b3 && b4 && b5) = false → (Region.ready .any (lifeOps Try.f8) #[true, true, true, true, true, true, b0, b1, b2, b3, b4, b5, false, false, false, false, false, false]).all (fun i => decide (i = 6) && !b0 || decide (i = 7) && !b1 || decide (i = 8) && !b2 || decide (i = 9) && !b3 || decide (i = 10) && !b4 || decide (i = 11) && !b5) = true := by
    decide +kernel
  have := List.all_eq_true.1 (key (b 0) (b 1) (b 2) (b 3) (b 4) (b 5) hn) i hi
  simp only [Bool.or_eq_true, Bool.and_eq_true, decide_eq_true_eq, Bool.not_eq_true'] at this
  rcases this with ((((⟨e, h⟩ | ⟨e, h⟩) | ⟨e, h⟩) | ⟨e, h⟩) | ⟨e, h⟩) | ⟨e, h⟩
  · exact ⟨0, by omega, by omega, h⟩
  · exact ⟨1, by omega, by omega, h⟩
  · exact ⟨2, by omega, by omega, h⟩
  · exact ⟨3, by omega, by omega, h⟩
  · exact ⟨4, by omega, by omega, h⟩
  · exact ⟨5, by omega, by omega, h⟩
theorem ready_ne (b : Nat → Bool) (hn : (b 0 && b 1 && b 2 && b 3 && b 4 && b 5) = false) : Region.ready .any (lifeOps Try.f8) (lfL b) ≠ [] := by
  have key : ∀ b0 b1 b2 b3 b4 b5 : Bool, (b0 && b1 && b2 && b3 && b4 && b5) = false → (Region.ready .any (lifeOps Try.f8) #[true, true, true, true, true, true, b0, b1, b2, b3, b4, b5, false, false, false, false, false, false]).isEmpty = false := by
    decide +kernel
  intro e
  have := key (b 0) (b 1) (b 2) (b 3) (b 4) (b 5) hn
  have e : Region.ready .any (lifeOps Try.f8) #[true, true, true, true, true, true, b 0, b 1, b 2, b 3, b 4, b 5, false, false, false, false, false, false] = [] := e
  rw [e] at this
  cases this
set_option maxHeartbeats 1000000 in
set_option maxRecDepth 100000 in
theorem life_stores {Q : Exit → Act → World → Prop} {w1 w : World} (y z : Value) (p : Nat → Nat) (hp : ∀ k, k < 6 → CL w (p k) rw0.cells ∧ w1.heap.size ≤ p k) (hne : ∀ j k, j < 6 → k < 6 → j ≠ k → p j ≠ p k) (hS : Keeps (fun _ => False) w1 w)
    (hQ : ∀ w', (∀ k, k < 6 → CL w' (p k) rLife.cells) → Keeps (fun _ => False) w1 w' → Q .normal (lfF y z (lfP p)) w') : wpAnyH Try.prog .any (lifeOps Try.f8) Q (fun w' => Keeps (fun _ => False) w1 w') 6 (lfL (fun _ => true)) (lfF y z (lfP p)) w := by
  have hOC := all_oneCell_rw rLife
  have st : ∀ (W : World) (k : Nat), k < 6 → CL W (p k) rw0.cells → Keeps (fun _ => False) w1 W → ∃ W', W' = W.setCells (p k) 0 rLife.cells.toArray.toList ∧ CL W' (p k) rLife.cells ∧ Keeps (fun i => i = p k) W W' ∧ Keeps (fun _ => False) w1 W' := fun W k hk h hS => by
    obtain ⟨q1, q2⟩ := store_rw h rLife
    exact ⟨_, rfl, q1, q2, hS.trans' q2 (fun _ _ e => e) (fun i hi e => by have e : i = p k := e; have := (hp k hk).2; omega)⟩
  have c0 := (hp 0 (by omega)).1
  have c1 := (hp 1 (by omega)).1
  have c2 := (hp 2 (by omega)).1
  have c3 := (hp 3 (by omega)).1
  have c4 := (hp 4 (by omega)).1
  have c5 := (hp 5 (by omega)).1
  obtain ⟨W0, e0, q0, m0, s0⟩ := st w 0 (by omega) c0 hS
  refine wpAnyH_store 12 (by kernel_rfl) rfl rfl 39 _ _ rfl (p 0) 0 26 _ rfl rfl rfl (c0.there (by show 0 + 26 ≤ 26; decide)) iRw hOC (e0 ▸ s0) (fun _ => ?_)
  rw [← e0]
  refine (?_ : wpAnyH Try.prog .any (lifeOps Try.f8) Q (fun w' => Keeps (fun _ => False) w1 w') 5 #[true, true, true, true, true, true, true, true, true, true, true, true, true, false, false, false, false, false] (lfF y z (lfP p)) W0)
  replace c1 := c1.keep (by show 0 < 26; decide) m0 (fun e => hne 1 0 (by omega) (by omega) (by omega) e)
  replace c2 := c2.keep (by show 0 < 26; decide) m0 (fun e => hne 2 0 (by omega) (by omega) (by omega) e)
  replace c3 := c3.keep (by show 0 < 26; decide) m0 (fun e => hne 3 0 (by omega) (by omega) (by omega) e)
  replace c4 := c4.keep (by show 0 < 26; decide) m0 (fun e => hne 4 0 (by omega) (by omega) (by omega) e)
  replace c5 := c5.keep (by show 0 < 26; decide) m0 (fun e => hne 5 0 (by omega) (by omega) (by omega) e)
  obtain ⟨W1, e1, q1, m1, s1⟩ := st W0 1 (by omega) c1 s0
  refine wpAnyH_store 13 (by kernel_rfl) rfl rfl 39 _ _ rfl (p 1) 0 26 _ rfl rfl rfl (c1.there (by show 0 + 26 ≤ 26; decide)) iRw hOC (e1 ▸ s1) (fun _ => ?_)
  rw [← e1]
  refine (?_ : wpAnyH Try.prog .any (lifeOps Try.f8) Q (fun w' => Keeps (fun _ => False) w1 w') 4 #[true, true, true, true, true, true, true, true, true, true, true, true, true, true, false, false, false, false] (lfF y z (lfP p)) W1)
  replace q0 := q0.keep (by show 0 < 26; decide) m1 (fun e => hne 0 1 (by omega) (by omega) (by omega) e)
  replace c2 := c2.keep (by show 0 < 26; decide) m1 (fun e => hne 2 1 (by omega) (by omega) (by omega) e)
  replace c3 := c3.keep (by show 0 < 26; decide) m1 (fun e => hne 3 1 (by omega) (by omega) (by omega) e)
  replace c4 := c4.keep (by show 0 < 26; decide) m1 (fun e => hne 4 1 (by omega) (by omega) (by omega) e)
  replace c5 := c5.keep (by show 0 < 26; decide) m1 (fun e => hne 5 1 (by omega) (by omega) (by omega) e)
  obtain ⟨W2, e2, q2, m2, s2⟩ := st W1 2 (by omega) c2 s1
  refine wpAnyH_store 14 (by kernel_rfl) rfl rfl 39 _ _ rfl (p 2) 0 26 _ rfl rfl rfl (c2.there (by show 0 + 26 ≤ 26; decide)) iRw hOC (e2 ▸ s2) (fun _ => ?_)
  rw [← e2]
  refine (?_ : wpAnyH Try.prog .any (lifeOps Try.f8) Q (fun w' => Keeps (fun _ => False) w1 w') 3 #[true, true, true, true, true, true, true, true, true, true, true, true, true, true, true, false, false, false] (lfF y z (lfP p)) W2)
  replace q0 := q0.keep (by show 0 < 26; decide) m2 (fun e => hne 0 2 (by omega) (by omega) (by omega) e)
  replace q1 := q1.keep (by show 0 < 26; decide) m2 (fun e => hne 1 2 (by omega) (by omega) (by omega) e)
  replace c3 := c3.keep (by show 0 < 26; decide) m2 (fun e => hne 3 2 (by omega) (by omega) (by omega) e)
  replace c4 := c4.keep (by show 0 < 26; decide) m2 (fun e => hne 4 2 (by omega) (by omega) (by omega) e)
  replace c5 := c5.keep (by show 0 < 26; decide) m2 (fun e => hne 5 2 (by omega) (by omega) (by omega) e)
  obtain ⟨W3, e3, q3, m3, s3⟩ := st W2 3 (by omega) c3 s2
  refine wpAnyH_store 15 (by kernel_rfl) rfl rfl 39 _ _ rfl (p 3) 0 26 _ rfl rfl rfl (c3.there (by show 0 + 26 ≤ 26; decide)) iRw hOC (e3 ▸ s3) (fun _ => ?_)
  rw [← e3]
  refine (?_ : wpAnyH Try.prog .any (lifeOps Try.f8) Q (fun w' => Keeps (fun _ => False) w1 w') 2 #[true, true, true, true, true, true, true, true, true, true, true, true, true, true, true, true, false, false] (lfF y z (lfP p)) W3)
  replace q0 := q0.keep (by show 0 < 26; decide) m3 (fun e => hne 0 3 (by omega) (by omega) (by omega) e)
  replace q1 := q1.keep (by show 0 < 26; decide) m3 (fun e => hne 1 3 (by omega) (by omega) (by omega) e)
  replace q2 := q2.keep (by show 0 < 26; decide) m3 (fun e => hne 2 3 (by omega) (by omega) (by omega) e)
  replace c4 := c4.keep (by show 0 < 26; decide) m3 (fun e => hne 4 3 (by omega) (by omega) (by omega) e)
  replace c5 := c5.keep (by show 0 < 26; decide) m3 (fun e => hne 5 3 (by omega) (by omega) (by omega) e)
  obtain ⟨W4, e4, q4, m4, s4⟩ := st W3 4 (by omega) c4 s3
  refine wpAnyH_store 16 (by kernel_rfl) rfl rfl 39 _ _ rfl (p 4) 0 26 _ rfl rfl rfl (c4.there (by show 0 + 26 ≤ 26; decide)) iRw hOC (e4 ▸ s4) (fun _ => ?_)
  rw [← e4]
  refine (?_ : wpAnyH Try.prog .any (lifeOps Try.f8) Q (fun w' => Keeps (fun _ => False) w1 w') 1 #[true, true, true, true, true, true, true, true, true, true, true, true, true, true, true, true, true, false] (lfF y z (lfP p)) W4)
  replace q0 := q0.keep (by show 0 < 26; decide) m4 (fun e => hne 0 4 (by omega) (by omega) (by omega) e)
  replace q1 := q1.keep (by show 0 < 26; decide) m4 (fun e => hne 1 4 (by omega) (by omega) (by omega) e)
  replace q2 := q2.keep (by show 0 < 26; decide) m4 (fun e => hne 2 4 (by omega) (by omega) (by omega) e)
  replace q3 := q3.keep (by show 0 < 26; decide) m4 (fun e => hne 3 4 (by omega) (by omega) (by omega) e)
  replace c5 := c5.keep (by show 0 < 26; decide) m4 (fun e => hne 5 4 (by omega) (by omega) (by omega) e)
  obtain ⟨W5, e5, q5, m5, s5⟩ := st W4 5 (by omega) c5 s4
  refine wpAnyH_store 17 (by kernel_rfl) rfl rfl 39 _ _ rfl (p 5) 0 26 _ rfl rfl rfl (c5.there (by show 0 + 26 ≤ 26; decide)) iRw hOC (e5 ▸ s5) (fun _ => ?_)
  rw [← e5]
  refine (?_ : wpAnyH Try.prog .any (lifeOps Try.f8) Q (fun w' => Keeps (fun _ => False) w1 w') 0 #[true, true, true, true, true, true, true, true, true, true, true, true, true, true, true, true, true, true] (lfF y z (lfP p)) W5)
  replace q0 := q0.keep (by show 0 < 26; decide) m5 (fun e => hne 0 5 (by omega) (by omega) (by omega) e)
  replace q1 := q1.keep (by show 0 < 26; decide) m5 (fun e => hne 1 5 (by omega) (by omega) (by omega) e)
  replace q2 := q2.keep (by show 0 < 26; decide) m5 (fun e => hne 2 5 (by omega) (by omega) (by omega) e)
  replace q3 := q3.keep (by show 0 < 26; decide) m5 (fun e => hne 3 5 (by omega) (by omega) (by omega) e)
  replace q4 := q4.keep (by show 0 < 26; decide) m5 (fun e => hne 4 5 (by omega) (by omega) (by omega) e)
  refine wpAnyH_done (by kernel_rfl) ?_ _
  refine hQ _ (fun k hk => ?_) s5
  rcases (by omega : k = 0 ∨ k = 1 ∨ k = 2 ∨ k = 3 ∨ k = 4 ∨ k = 5) with rfl | rfl | rfl | rfl | rfl | rfl
  · exact q0
  · exact q1
  · exact q2
  · exact q3
  · exact q4
  · exact q5
set_option maxHeartbeats 1000000 in
set_option maxRecDepth 100000 in
theorem life_allocs {Q : Exit → Act → World → Prop} {w1 : World} (y z : Value)
    (hQ : ∀ w' p, (∀ j k, j < 6 → k < 6 → j ≠ k → p j ≠ p k) → (∀ k, k < 6 → CL w' (p k) rLife.cells) → Keeps (fun _ => False) w1 w' → (∀ k, k < 6 → w1.heap.size ≤ p k) → Q .normal (lfF y z (lfP p)) w') :
    ∀ (n : Nat) (b : Nat → Bool) (x : Nat → Value) (p : Nat → Nat) (w : World), (b 0).toNat + (b 1).toNat + (b 2).toNat + (b 3).toNat + (b 4).toNat + (b 5).toNat + n = 6 → (∀ k, k < 6 → b k = true → x k = .pointer (some ⟨p k, 0, none⟩) ∧ CL w (p k) rw0.cells ∧ w1.heap.size ≤ p k) → (∀ j k, j < 6 → k < 6 → b j = true → b k = true → j ≠ k → p j ≠ p k) → Keeps (fun _ => False) w1 w →
      wpAnyH Try.prog .any (lifeOps Try.f8) Q (fun w' => Keeps (fun _ => False) w1 w') (n + 6) (lfL b) (lfF y z x) w := by
  intro n
  induction n with
  | zero =>
    intro b x p w hn hp hne hS
    have l := fun k => Bool.toNat_le (b k)
    have all : ∀ k, k < 6 → b k = true := fun k hk => by
      have e : (b k).toNat = 1 := by
        have := l 0
        have := l 1
        have := l 2
        have := l 3
        have := l 4
        have := l 5
        rcases (by omega : k = 0 ∨ k = 1 ∨ k = 2 ∨ k = 3 ∨ k = 4 ∨ k = 5) with rfl | rfl | rfl | rfl | rfl | rfl <;> omega
      cases hb : b k
      · rw [hb] at e; cases e
      · rfl
    have eL : lfL b = lfL (fun _ => true) := by
      unfold lfL
      rw [all 0 (by omega), all 1 (by omega), all 2 (by omega), all 3 (by omega), all 4 (by omega), all 5 (by omega)]
    have eF : lfF y z x = lfF y z (lfP p) := by
      unfold lfF lfP
      rw [(hp 0 (by omega) (all 0 (by omega))).1, (hp 1 (by omega) (all 1 (by omega))).1, (hp 2 (by omega) (all 2 (by omega))).1, (hp 3 (by omega) (all 3 (by omega))).1, (hp 4 (by omega) (all 4 (by omega))).1, (hp 5 (by omega) (all 5 (by omega))).1]
    rw [eL, eF]
    exact life_stores y z p (fun k hk => (hp k hk (all k hk)).2) (fun j k hj hk => hne j k hj hk (all j hj) (all k hk)) hS (fun w' h1 h2 => hQ w' p (fun j k hj hk => hne j k hj hk (all j hj) (all k hk)) h1 h2 (fun k hk => (hp k hk (all k hk)).2.2))
  | succ n ih =>
    intro b x p w hn hp hne hS
    have hnot : (b 0 && b 1 && b 2 && b 3 && b 4 && b 5) = false := by
      cases h : (b 0 && b 1 && b 2 && b 3 && b 4 && b 5)
      · rfl
      · simp only [Bool.and_eq_true] at h
        obtain ⟨⟨⟨⟨⟨h0, h1⟩, h2⟩, h3⟩, h4⟩, h5⟩ := h
        rw [h0, h1, h2, h3, h4, h5] at hn
        simp at hn
    refine ⟨fun e => absurd e (ready_ne b hnot), fun i hi => ?_⟩
    obtain ⟨k, hk, rfl, hb⟩ := ready_life b i hi hnot
    have step : ∀ (hw : World), hw = w.alloc (.cells rw0.cells.toArray 39) → Keeps (fun _ => False) w1 hw ∧ wpAnyH Try.prog .any (lifeOps Try.f8) Q (fun w' => Keeps (fun _ => False) w1 w') (n + 6) (lfL (fun j => if j = k then true else b j)) (lfF y z (fun j => if j = k then .pointer (some ⟨w.heap.size, 0, none⟩) else x j)) hw := by
      rintro hw rfl
      have ka : Keeps (fun _ => False) w1 (w.alloc (.cells rw0.cells.toArray 39)) := hS.alloc _
      refine ⟨ka, ih _ _ (fun j => if j = k then w.heap.size else p j) _ ?_ ?_ ?_ ka⟩
      · have hz : (b k).toNat = 0 := by rw [hb]; rfl
        have ht : (true).toNat = 1 := rfl
        rcases (by omega : k = 0 ∨ k = 1 ∨ k = 2 ∨ k = 3 ∨ k = 4 ∨ k = 5) with rfl | rfl | rfl | rfl | rfl | rfl <;> simp <;> omega
      · intro j hj hbj
        by_cases e : j = k
        · subst e
          simp only [if_pos]
          exact ⟨trivial, CL.made w rw0.cells _, hS.size⟩
        · simp only [if_neg e] at hbj ⊢
          obtain ⟨h1, h2, h3⟩ := hp j hj hbj
          exact ⟨h1, h2.alloc (by show 0 < 26; decide) _, h3⟩
      · intro i2 j hi2 hj hbi hbj hij
        by_cases e1 : i2 = k
        · subst e1
          have e2 : ¬ j = i2 := fun e => hij e.symm
          simp only [if_pos, if_neg e2] at hbj ⊢
          have := (hp j hj hbj).2.1.lt (by show 0 < 26; decide)
          omega
        · by_cases e2 : j = k
          · subst e2
            simp only [if_pos, if_neg e1] at hbi ⊢
            have := (hp i2 hi2 hbi).2.1.lt (by show 0 < 26; decide)
            omega
          · simp only [if_neg e1, if_neg e2] at hbi hbj ⊢
            exact hne i2 j hi2 hj hbi hbj hij
    rcases (by omega : k = 0 ∨ k = 1 ∨ k = 2 ∨ k = 3 ∨ k = 4 ∨ k = 5) with rfl | rfl | rfl | rfl | rfl | rfl
    all_goals
      refine wpOp_step rfl (fun K' hK => ?_)
      rw [if_pos (by rfl)]
      refine wp_alloc_row rfl (hK _ _ ?_)
      exact step _ rfl
/-- Six blocks of a row's cells, apart from one another and new. -/
structure LB (w0 w : World) (p : Nat → Nat) (L : Nat → List Value) : Prop where
  cl : ∀ k, k < 6 → CL w (p k) (L k)
  ge : ∀ k, k < 6 → w0.heap.size ≤ p k
  ne : ∀ j k, j < 6 → k < 6 → j ≠ k → p j ≠ p k
  len : ∀ k, (L k).length = 26
  kp : Keeps (fun _ => False) w0 w
def lup (L : Nat → List Value) (k o : Nat) (v : Value) : Nat → List Value := fun j => if j = k then (L k).set o v else L j
theorem LB.put {w0 w : World} {p : Nat → Nat} {L : Nat → List Value} (h : LB w0 w p L) {k o : Nat} (hk : k < 6) (ho : o < 26) (v : Value) : LB w0 (w.setCell ⟨p k, o, none⟩ v) p (lup L k o v) := by
  refine ⟨fun j hj => ?_, h.ge, h.ne, fun j => ?_, h.kp.setCell (p := ⟨p k, o, none⟩) (fun e => by have := h.ge k hk; have e : p k < w0.heap.size := e; omega) v⟩
  · unfold lup
    by_cases e : j = k
    · subst e
      rw [if_pos rfl]
      exact (h.cl j hj).set (by rw [h.len]; exact ho) v
    · rw [if_neg e]
      exact (h.cl j hj).other (p := ⟨p k, o, none⟩) (fun e2 => h.ne k j hk hj (fun e3 => e e3.symm) e2) v
  · unfold lup
    split
    · rw [List.length_set]; exact h.len k
    · exact h.len j
theorem run_store_bool {w : World} {b o : Nat} (hc : (w.cell? ⟨b, o, none⟩).isSome = true) (hz : w.frozen? ⟨b, o, none⟩ = false) (v : Bool) : (storeVar 4 ⟨b, o, none⟩ (.bool v)).run Try.prog w = .ok () (w.setCell ⟨b, o, none⟩ (.bool v)) := by
  obtain ⟨u, hu⟩ := Option.isSome_iff_exists.1 hc
  go_simp
theorem LB.there {w0 w : World} {p : Nat → Nat} {L : Nat → List Value} (h : LB w0 w p L) {k o : Nat} (hk : k < 6) (ho : o < 26) : (w.cell? ⟨p k, o, none⟩).isSome = true ∧ w.frozen? ⟨p k, o, none⟩ = false :=
  ⟨by rw [(h.cl k hk).c o ((L k)[o]'(by rw [h.len]; exact ho)) (by simp)]; rfl, (h.cl k hk).z o (by rw [h.len]; exact ho)⟩
theorem wpList_store_lbI {w w0 : World} {ops : Array Oper} {rest : List Oper} {o : Oper} {a : Act} {Q : Exit → Act → World → Prop} (hgd : o.guard = none) (hd : o.dst = none) (x y : Operand) (ho : o.op = .store 3 x y) {p : Nat → Nat} (k off : Nat) (hx : a.eval x = .pointer (some ⟨p k, off, none⟩)) (v : Int) (hy : a.eval y = .int .i64 v)
    {L : Nat → List Value} (hB : LB w0 w p L) (hk : k < 6) (hl : off < 26) (h : ∀ w1, LB w0 w1 p (lup L k off (.int .i64 v)) → wpList Try.prog ops Q rest a w1) : wpList Try.prog ops Q (o :: rest) a w :=
  wpList_plain hgd fun _ hK => by
    unfold Oper.wp execOp
    simp only [ho, hx, hy, Instr.storeAt, Instr.sureAddr, Sem.run_bind, Sem.run_pure, Result.andThen_ok, run_store_int (hB.there hk hl).1 (hB.there hk hl).2 v]
    refine hK _ _ ?_
    rw [hd]
    exact h _ (hB.put hk hl _)
theorem wpList_store_lbB {w w0 : World} {ops : Array Oper} {rest : List Oper} {o : Oper} {a : Act} {Q : Exit → Act → World → Prop} (hgd : o.guard = none) (hd : o.dst = none) (x y : Operand) (ho : o.op = .store 4 x y) {p : Nat → Nat} (k off : Nat) (hx : a.eval x = .pointer (some ⟨p k, off, none⟩)) (v : Bool) (hy : a.eval y = .bool v)
    {L : Nat → List Value} (hB : LB w0 w p L) (hk : k < 6) (hl : off < 26) (h : ∀ w1, LB w0 w1 p (lup L k off (.bool v)) → wpList Try.prog ops Q rest a w1) : wpList Try.prog ops Q (o :: rest) a w :=
  wpList_plain hgd fun _ hK => by
    unfold Oper.wp execOp
    simp only [ho, hx, hy, Instr.storeAt, Instr.sureAddr, Sem.run_bind, Sem.run_pure, Result.andThen_ok, run_store_bool (hB.there hk hl).1 (hB.there hk hl).2 v]
    refine hK _ _ ?_
    rw [hd]
    exact h _ (hB.put hk hl _)
theorem wpList_store_lbV {w w0 : World} {ops : Array Oper} {rest : List Oper} {o : Oper} {a : Act} {Q : Exit → Act → World → Prop} (hgd : o.guard = none) (hd : o.dst = none) (x y : Operand) (ho : o.op = .store 29 x y) {p : Nat → Nat} (k off : Nat) (hx : a.eval x = .pointer (some ⟨p k, off, none⟩)) (v1 v2 : Int) (v3 : Bool) (hy : a.eval y = .agg #[.int .i64 v1, .int .i64 v2, .bool v3])
    {L : Nat → List Value} (hB : LB w0 w p L) (hk : k < 6) (hl : off + 2 < 26) (h : ∀ w1, LB w0 w1 p (lup (lup (lup L k off (.int .i64 v1)) k (off + 1) (.int .i64 v2)) k (off + 2) (.bool v3)) → wpList Try.prog ops Q rest a w1) : wpList Try.prog ops Q (o :: rest) a w :=
  wpList_store_mid hgd 29 x y ho (p k) off #[.int .i64 v1, .int .i64 v2, .bool v3] hx hy (fun j hj => by
    have hj : j < 3 := hj
    exact hB.there hk (by omega)) (by kernel_rfl) (all_oneCell_toArray (cs := [.int .i64 v1, .int .i64 v2, .bool v3]) (fun v hv => by simp at hv; rcases hv with rfl | rfl | rfl <;> rfl))
    (by rw [hd]; exact h _ (((hB.put hk (by omega) _).put hk (by omega) _).put hk (by omega) _))
theorem LB.load {w0 w : World} {p : Nat → Nat} {L : Nat → List Value} (h : LB w0 w p L) {k : Nat} (hk : k < 6) (r : Rw) (e : L k = r.cells) : (loadVar 39 ⟨p k, 0, none⟩).run Try.prog w = .ok (.agg r.cells.toArray) w := run_rw (e ▸ h.cl k hk)
def rL0 : Rw := { rLife with kind := 1 }
def rL1 : Rw := { rLife with step := 1, kind := 7, phase := 1, object := 2, entry := 0, told := true, vN := 7 }
def rL2 : Rw := { rLife with step := 2, kind := 7, phase := 2, object := 0, told := true, puts := true, pN := 9, pX := 1 }
def rL3 : Rw := { rLife with step := 3, kind := 4, object := 2, entry := 0 }
def rL4 : Rw := { rLife with step := 4, kind := 15, phase := 3, done := true, fin := 1 }
def rL5 : Rw := { rLife with step := 5, kind := 17 }
theorem wpList_stop {P : Program} {ops : Array Oper} {rest : List Oper} {o : Oper} {a : Act} {w : World} {Q : Exit → Act → World → Prop} (d : Tmp) (_ : o.dst = some d) (h : Hid (wpList P ops Q (o :: rest) a w)) : wpList P ops Q (o :: rest) a w := h.out
def lifeL : List Rw := [rL0, rL1, rL2, rL3, rL4, rL5]
theorem life_rsl (W : World) : RSL (W.alloc (.cells (rcl lifeL).toArray 39)) (some ⟨W.heap.size, 0, none⟩) lifeL := fun i hi => ⟨W.heap.size, 0, rfl, fun j v hv => by
  have := (CL.made W (rcl lifeL) 39).c (i * 26 + j) v (rcl_get lifeL i j v hi hv)
  rw [Nat.zero_add]
  exact this⟩
end Go.Proofs.Ytlaacojicoeneaa
