import Derived.Test.YtepolcnplchfbaaWdPS
namespace Go.Proofs.Ytepolcnplchfbaa
open Go.RowKit

/-- A pair comes in: the twin is made between the two appends. -/
theorem PS.add2 {w W : World} {ρ : Nat → Nat} {vl vt : Value} {ps : List Wd} (h : PS w W ρ vl vt ps) {S : Nat} (hold : ∀ k, AnyB vl vt ps k → k < S) (hSw : w.heap.size ≤ S)
    {wb1 W1 Wm wb2 W2 : World} {vl' vt' : Value} {p : Wd} (kb1 : Keeps (fun _ => False) W wb1) (g1 : wb1.grownBy W1 vl.ownBlock) (o1 : W1.ownsRow 0 23 1 vl' (ps.length + 1) (lptr ps ++ [.pointer (some ⟨p.pb, 0, none⟩)])) (a1 : vl'.ownBlock = vl.ownBlock ∨ vl'.ownBlock = some wb1.heap.size)
    (km : Keeps (fun _ => False) W1 Wm) (hp : WI Wm p) (hnew : ∀ k, p.Blk k → S ≤ k) (hvl9 : ∀ k, p.Blk k → ¬ vl'.ownBlock = some k)
    (kb2 : Keeps (fun _ => False) Wm wb2) (g2 : wb2.grownBy W2 vt.ownBlock) (o2 : W2.ownsRow 0 27 1 vt' (ps.length + 1) (rptr ps ++ [.pointer (some ⟨p.rb, 0, none⟩)])) (a2 : vt'.ownBlock = vt.ownBlock ∨ vt'.ownBlock = some wb2.heap.size) :
    ∃ ρ', PS w W2 ρ' vl' vt' (ps ++ [p]) := by
  have k1 : Keeps (fun k => vl.ownBlock = some k) W W1 := kb1.trans' ((Keeps.refl _ wb1).grown g1 (S := fun k => vl.ownBlock = some k) (fun _ _ e => e)) (fun _ _ e => e.elim) (fun _ _ e => e)
  have km2 : Keeps (fun k => vt.ownBlock = some k) Wm W2 := kb2.trans' ((Keeps.refl _ wb2).grown g2 (S := fun k => vt.ownBlock = some k) (fun _ _ e => e)) (fun _ _ e => e.elim) (fun _ _ e => e)
  have k2 : Keeps (fun k => vt.ownBlock = some k) W1 W2 := (km.mono (fun _ _ e => e.elim)).trans km2
  have kk : Keeps (fun k => vl.ownBlock = some k ∨ vt.ownBlock = some k) W W2 := (k1.mono (fun _ _ e => .inl e)).trans (k2.mono (fun _ _ e => .inr e))
  have s1 := kb1.size
  have s2 := k1.size
  have s3 := kb2.size
  have s4 := km.size
  have s1' := g1.size
  have hvl : ∀ g, vl'.ownBlock = some g → vl.ownBlock = some g ∨ g = wb1.heap.size := fun g e => by
    rcases a1 with e' | e'
    · exact .inl (e' ▸ e)
    · rw [e'] at e; cases e; exact .inr rfl
  have hvt : ∀ g, vt'.ownBlock = some g → vt.ownBlock = some g ∨ g = wb2.heap.size := fun g e => by
    rcases a2 with e' | e'
    · exact .inl (e' ▸ e)
    · rw [e'] at e; cases e; exact .inr rfl
  have lb1 : ∀ g, vl'.ownBlock = some g → g < W1.heap.size := fun g e => owns_lt' o1 g e
  have dis : ∀ g, vl'.ownBlock = some g → vt'.ownBlock = some g → False := fun g e e' => by
    have h9 := lb1 g e
    rcases hvl g e with x | x
    · rcases hvt g e' with y | y
      · have := h.r0 g x; have := h.r1 g y; omega
      · have := hold g (.inl x); omega
    · rcases hvt g e' with y | y
      · have := h.lt (.inr (.inl y)); omega
      · omega
  refine ⟨fun k => if vl'.ownBlock = some k then 0 else if vt'.ownBlock = some k then 1 else if S ≤ k then ps.length + 2 else ρ k, ?_⟩
  have hget : ∀ (j : Nat) (q : Wd), (ps ++ [p])[j]? = some q → (j < ps.length ∧ ps[j]? = some q) ∨ (j = ps.length ∧ q = p) := fun j q hq => by
    by_cases e : j < ps.length
    · rw [List.getElem?_append_left e] at hq; exact .inl ⟨e, hq⟩
    · rw [List.getElem?_append_right (by omega)] at hq
      have : j - ps.length = 0 := by
        have := (List.getElem?_eq_some_iff.1 hq).1
        simp at this; omega
      rw [this] at hq
      simp at hq
      exact .inr ⟨by omega, hq.symm⟩
  have off1 : ∀ (j : Nat) (q : Wd) (b : Nat), ps[j]? = some q → q.Blk b → ¬ vl'.ownBlock = some b ∧ ¬ vt'.ownBlock = some b := fun j q b hq hb => by
    have hr := h.rol j q b hq hb
    have hl := h.lt (.inr (.inr ⟨j, q, hq, hb⟩))
    refine ⟨fun e => ?_, fun e => ?_⟩
    · rcases hvl b e with x | x
      · have := h.r0 b x; omega
      · omega
    · rcases hvt b e with x | x
      · have := h.r1 b x; omega
      · omega
  have off2 : ∀ b, p.Blk b → ¬ vl'.ownBlock = some b ∧ ¬ vt'.ownBlock = some b := fun b hb => by
    have hS := hnew b hb
    have hl := hp.lt hb
    refine ⟨hvl9 b hb, fun e => ?_⟩
    rcases hvt b e with x | x
    · have := hold b (.inr (.inl x)); omega
    · omega
  refine ⟨?_, ?_, fun j q hq => ?_, fun j q b hq hb => ?_, fun g e => by simp [e], fun g e => ?_, fun b hb => ?_, h.kp.trans' kk (fun _ _ e => e) (fun j hj e => ?_), by simp⟩
  · have el : lptr (ps ++ [p]) = lptr ps ++ [.pointer (some ⟨p.pb, 0, none⟩)] := by simp [lptr]
    rw [el, List.length_append]
    exact k2.owns o1 (fun g e e' => by
      rcases hvl g e with x | x
      · have := h.r0 g x; have := h.r1 g e'; omega
      · have := h.lt (.inr (.inl e')); omega)
  · have er : rptr (ps ++ [p]) = rptr ps ++ [.pointer (some ⟨p.rb, 0, none⟩)] := by simp [rptr]
    rw [er, List.length_append]
    exact o2
  · rcases hget j q hq with ⟨_, hq'⟩ | ⟨_, rfl⟩
    · exact (h.each j q hq').keeps kk (fun b hb e => by
        have hr := h.rol j q b hq' hb
        rcases e with e | e
        · have := h.r0 b e; omega
        · have := h.r1 b e; omega)
    · exact hp.keeps km2 (fun b hb e => by
        have hS := hnew b hb
        have := hold b (.inr (.inl e)); omega)
  · rcases hget j q hq with ⟨_, hq'⟩ | ⟨rfl, rfl⟩
    · obtain ⟨x, y⟩ := off1 j q b hq' hb
      have := hold b (.inr (.inr ⟨j, q, hq', hb⟩))
      simp only [x, y, if_false, if_neg (show ¬ S ≤ b by omega)]
      exact h.rol j q b hq' hb
    · obtain ⟨x, y⟩ := off2 b hb
      simp only [x, y, if_false, if_pos (hnew b hb)]
  · have : ¬ vl'.ownBlock = some g := fun e' => dis g e' e
    simp [e, this]
  · rcases hb with hb | hb | ⟨j, q, hq, hb⟩
    · rcases hvl b hb with x | x
      · exact h.lo b (.inl x)
      · have := h.kp.size; omega
    · rcases hvt b hb with x | x
      · exact h.lo b (.inr (.inl x))
      · have := h.kp.size; omega
    · rcases hget j q hq with ⟨_, hq'⟩ | ⟨_, rfl⟩
      · exact h.lo b (.inr (.inr ⟨j, q, hq', hb⟩))
      · exact Nat.le_trans hSw (hnew b hb)
  · rcases e with e | e
    · have := h.lo j (.inl e); omega
    · have := h.lo j (.inr (.inl e)); omega
/-- The first pair, wherever its lists lie. -/
theorem PS.start2 {w W : World} {p : Wd} {vl vt : Value} (hp : WI W p) (rl : W.ownsRow 0 23 1 vl 1 [.pointer (some ⟨p.pb, 0, none⟩)]) (rt : W.ownsRow 0 27 1 vt 1 [.pointer (some ⟨p.rb, 0, none⟩)])
    (h1 : ∀ k, p.Blk k → ¬ vl.ownBlock = some k ∧ ¬ vt.ownBlock = some k) (h2 : ∀ g, vt.ownBlock = some g → ¬ vl.ownBlock = some g) (hlo : ∀ k, AnyB vl vt [p] k → w.heap.size ≤ k) (kp : Keeps (fun _ => False) w W) : ∃ ρ, PS w W ρ vl vt [p] := by
  have hget : ∀ (j : Nat) (q : Wd), [p][j]? = some q → j = 0 ∧ q = p := fun j q hq => by
    cases j with
    | zero => simp at hq; exact ⟨rfl, hq.symm⟩
    | succ j => simp at hq
  refine ⟨fun k => if vl.ownBlock = some k then 0 else if vt.ownBlock = some k then 1 else 2, ⟨rl, rt, fun j q hq => ?_, fun j q k hq hk => ?_, fun k e => by simp [e], fun k e => ?_, hlo, kp, by simp⟩⟩
  · obtain ⟨_, rfl⟩ := hget j q hq; exact hp
  · obtain ⟨rfl, rfl⟩ := hget j q hq
    obtain ⟨x, y⟩ := h1 k hk
    simp only [x, y, if_false]
  · have := h2 k e
    simp [e, this]

theorem keepsOfBelow {w w' : World} (h : Below w.heap.size w w') : Keeps (fun _ => False) w w' := ⟨h.os, h.tape, h.output, h.size, fun k hk _ => h.block k hk⟩
theorem wnew {W : World} {a : Option Addr} {len : Nat} {x : Nat → Int} (h : NL W a len x) (cap : Nat) (hl : len ≤ 1048576) : Calls Try.prog 6 #[.slice a len cap] W fun e w' => ∃ b r, e = .returned (.pointer (some ⟨b, 0, none⟩)) ∧ IsDr w' b r len x 0 ∧ r ≠ b ∧ W.heap.size ≤ b ∧ W.heap.size ≤ r ∧ r < w'.heap.size ∧ Keeps (fun _ => False) W w' :=
  (newDraws_any (w := W) (a := a) (len := len) (cap := cap) (x := x) h (by omega)).mono (by
    rintro e w' ⟨rfl, hs, hd, hb⟩
    exact ⟨_, _, rfl, hd, by omega, by omega, Nat.le_refl _, by omega, keepsOfBelow hb⟩)
theorem wrnew {W : World} {a : Option Addr} {len : Nat} {x : Nat → Int} (h : NL W a len x) (cap : Nat) (hl : len ≤ 1048576) : Calls Try.prog 7 #[.slice a len cap] W fun e w' => ∃ b a' cap', e = .returned (.pointer (some ⟨b, 0, none⟩)) ∧ IsRd w' b a' cap' len x 0 ∧ W.heap.size ≤ b ∧ (∀ k, RawB a' len k → W.heap.size ≤ k ∧ k ≠ b) ∧ Keeps (fun _ => False) W w' :=
  (refNew_any (w := W) (a := a) (len := len) (cap := cap) (x := x) h (by omega)).mono (by
    rintro e w' ⟨rfl, hs, hb, a', cap', hd, hp⟩
    refine ⟨_, a', cap', rfl, hd, Nat.le_refl _, fun k hk => ?_, keepsOfBelow hb⟩
    obtain ⟨_, o, e⟩ := hk
    have := hp _ e
    simp at this
    omega)
/-- The copy with two marks behind it. -/
theorem raw_app2 {W0 W : World} {v1 : Value} {pl : Nat} {z : Nat → Int} (own : W.ownsRow W0.heap.size 2 1 v1 pl (nums z pl)) (k : Keeps (fun _ => False) W0 W) (hb : pl ≤ 1048576) :
    ∃ g cap W2, (Builtin.append_ #[25, 25] 25 #[v1, .slice (some ⟨W.heap.size, 0, none⟩) 2 2]).run Try.prog (W.alloc (.cells #[.int .i64 77, .int .i64 78] 2)) = .ok (.slice (some ⟨g, 0, none⟩) (pl + 2) cap) W2 ∧ W2.ownsRow W0.heap.size 2 1 (.slice (some ⟨g, 0, none⟩) (pl + 2) cap) (pl + 2) (nums z pl ++ [.int .i64 77, .int .i64 78]) ∧ Keeps (fun _ => False) W0 W2 ∧ pl + 2 ≤ cap ∧ cap ≤ maxLen ∧ W0.heap.size ≤ g := by
  obtain ⟨i0, hi0, hz0, hz1, hz2⟩ := info_parts i64Info
  have ka := k.alloc (.cells #[.int .i64 77, .int .i64 78] 2)
  obtain ⟨v', w', hr, ho, hg, hiff, _⟩ := run_append_own_at (P := Try.prog) (w := W.alloc (.cells #[.int .i64 77, .int .i64 78] 2)) W0.heap.size 25 25 2 i0 _ 1 8 under64s hi0 hz0 hz1 hz2 rfl (by decide) v1 pl (nums z pl) (own.alloc _) ⟨W.heap.size, 0, none⟩ 2 2 [.int .i64 77, .int .i64 78] rfl (fun j u e => by
    match j, e with
    | 0, e => simp at e; subst e; exact cell_cells (heap_alloc_new W _) rfl
    | 1, e => simp at e; subst e; exact cell_cells (o := 1) (heap_alloc_new W _) rfl) (fun u hu => by simp at hu; rcases hu with rfl | rfl <;> rfl) (by unfold maxLen; omega) (by omega) ka.size
  rcases ho.2 with ⟨rfl, h0⟩ | ⟨g, cap, cur, rfl, hb', _, hc, hc2, _⟩
  · omega
  · exact ⟨g, cap, w', hr, ho, ka.trans' ((Keeps.refl _ _).grown hg (S := fun i => v1.ownBlock = some i) (fun _ _ e => e)) (fun _ _ e => e) (fun i hi e => by have := ownsBase own i e; omega), hc, hc2, hb'⟩
theorem raw_cells {W : World} {base g pl cap : Nat} {z : Nat → Int} (own : W.ownsRow base 2 1 (.slice (some ⟨g, 0, none⟩) (pl + 2) cap) (pl + 2) (nums z pl ++ [.int .i64 77, .int .i64 78])) : (∀ i, i < pl → W.cell? ⟨g, i, none⟩ = some (.int .i64 (z i))) ∧ W.cell? ⟨g, pl, none⟩ = some (.int .i64 77) ∧ W.cell? ⟨g, pl + 1, none⟩ = some (.int .i64 78) ∧ ∀ i, W.frozen? ⟨g, i, none⟩ = false := by
  have hc := own.cells (g := g) rfl
  refine ⟨fun i hi => ?_, ?_, ?_, fun i => ?_⟩
  · have := hc i (.int .i64 (z i)) (by rw [List.getElem?_append_left (by rw [nums_len]; exact hi)]; simp [nums, hi])
    rwa [add_none, Nat.zero_add] at this
  · have := hc pl (.int .i64 77) (by rw [List.getElem?_append_right (by rw [nums_len]; exact Nat.le_refl _), nums_len]; simp)
    rwa [add_none, Nat.zero_add] at this
  · have := hc (pl + 1) (.int .i64 78) (by rw [List.getElem?_append_right (by rw [nums_len]; omega), nums_len]; simp)
    rwa [add_none, Nat.zero_add] at this
  · rcases own.2 with ⟨h, _⟩ | ⟨g', cap', cur, h, _, hg, _⟩
    · cases h
    · cases h; exact frozen_cells hg

/-- What the other calls answer of a pair. -/
theorem wd_rest {W : World} {p : Wd} {kx : Nat} (h : WI W (p.to kx)) :
    Calls Try.prog 12 #[.pointer (some ⟨p.pb, 0, none⟩)] W (fun e w' => e = .returned (.int .i64 (kx : Int)) ∧ W = w') ∧
    Calls Try.prog 13 #[.pointer (some ⟨p.rb, 0, none⟩)] W (fun e w' => e = .returned (.int .i64 (kx : Int)) ∧ W = w') ∧
    Calls Try.prog 14 #[.pointer (some ⟨p.pb, 0, none⟩)] W (fun e w' => e = .returned (.int .i64 ((p.n : Int) - (kx : Int))) ∧ Keeps (fun _ => False) W w') ∧
    ∀ w7, Keeps (fun _ => False) W w7 → Calls Try.prog 15 #[.pointer (some ⟨p.rb, 0, none⟩)] w7 (fun e w' => e = .returned (.int .i64 ((p.n : Int) - (kx : Int))) ∧ Keeps (fun _ => False) w7 w') :=
  ⟨(taken_any h.dr).mono fun _ _ x => ⟨x.1, x.2.symm⟩, (refTaken_any h.rd).mono fun _ _ x => ⟨x.1, x.2.symm⟩, wleft h.dr, fun _ k => wrleft (h.new k).rd⟩

section
variable {W : World} {b r n k : Nat} {x : Nat → Int}
theorem e_next (h : IsDr W b r n x k) (hk : k = n) : Calls Try.prog 8 #[.pointer (some ⟨b, 0, none⟩)] W (fun e w' => e = .returned (.int .i64 0) ∧ Keeps (fun _ => False) W w') :=
  (next_none h hk).mono (by rintro e w' ⟨rfl, m, rfl⟩; exact ⟨rfl, drewN_keeps _ _ m⟩)
theorem e_below (h : IsDr W b r n x k) (hk : k = n) (t : Int) (ht : 1 < t) (ht2 : In64 t) : Calls Try.prog 10 #[.pointer (some ⟨b, 0, none⟩), .int .i64 t] W (fun e w' => e = .returned (.int .i64 0) ∧ Keeps (fun _ => False) W w') :=
  (below_none h hk t ht ht2).mono (by rintro e w' ⟨rfl, m, rfl⟩; exact ⟨rfl, drewN_keeps _ _ m⟩)
theorem e_taken (h : IsDr W b r n x k) : Calls Try.prog 12 #[.pointer (some ⟨b, 0, none⟩)] W (fun e w' => e = .returned (.int .i64 (k : Int)) ∧ W = w') := (taken_any h).mono fun _ _ x => ⟨x.1, x.2.symm⟩
theorem e_left (h : IsDr W b r n x n) : Calls Try.prog 14 #[.pointer (some ⟨b, 0, none⟩)] W (fun e w' => e = .returned (.int .i64 0) ∧ Keeps (fun _ => False) W w') :=
  (left_any h).mono (by rintro e w' ⟨rfl, m, rfl⟩; exact ⟨by rw [Int.sub_self], drewN_keeps _ _ m⟩)
theorem f_next (h : IsDr W b r n x k) (hbr : r ≠ b) (hk : k < n) : Calls Try.prog 8 #[.pointer (some ⟨b, 0, none⟩)] W (fun e w' => e = .returned (.int .i64 (x k)) ∧ IsDr w' b r n x (k + 1) ∧ Keeps (fun i => i = b) W w') :=
  (next_some h hk).mono (by
    rintro e w' ⟨rfl, m, rfl⟩
    exact ⟨rfl, (h.step hbr hk).keeps (drewN_keeps (fun _ => False) _ m) (fun e => e) (fun e => e), ((Keeps.refl (fun i => i = b) W).setCell (p := ⟨b, 1, none⟩) (fun _ => rfl) _).trans (drewN_keeps _ _ m)⟩)
theorem f_below (h : IsDr W b r n x k) (hbr : r ≠ b) (hk : k < n) (t : Int) (ht : 1 < t) (ht2 : In64 t) : Calls Try.prog 10 #[.pointer (some ⟨b, 0, none⟩), .int .i64 t] W (fun e w' => e = .returned (.int .i64 (urem (x k) t)) ∧ IsDr w' b r n x (k + 1) ∧ Keeps (fun i => i = b) W w') :=
  (below_some h hk t ht ht2).mono (by
    rintro e w' ⟨rfl, m, rfl⟩
    exact ⟨rfl, (h.step hbr hk).keeps (drewN_keeps (fun _ => False) _ m) (fun e => e) (fun e => e), ((Keeps.refl (fun i => i = b) W).setCell (p := ⟨b, 1, none⟩) (fun _ => rfl) _).trans (drewN_keeps _ _ m)⟩)
end
end Go.Proofs.Ytepolcnplchfbaa
