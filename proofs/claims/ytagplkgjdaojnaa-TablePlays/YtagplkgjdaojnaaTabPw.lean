import Derived.Test.YtagplkgjdaojnaaTabPT
namespace Go.Proofs.Ytagplkgjdaojnaa
open Go.RowKit
attribute [local go_sem] Oper.semAt_some

theorem ev_peq (tb o : Nat) (w : World) : (binOp .eql 22 (.pointer (some ⟨tb, o, none⟩)) (.pointer none)).run Try.prog w = .ok (.bool false) w := by kernel_rfl
/-- The loop's state. -/
structure Ps (w W : World) (gl cl gt ct N B : Nat) (ps : List Pr) : Prop where
  psx : ∃ ρ, PS w W ρ (.slice (some ⟨gl, 0, none⟩) N cl) (.slice (some ⟨gt, 0, none⟩) N ct) ps
  nn : N = ps.length
  bd : ∀ p ∈ ps, p.rs.length ≤ B
theorem Ps.new {w W W' : World} {gl cl gt ct N B : Nat} {ps : List Pr} (h : Ps w W gl cl gt ct N B ps) (k : Keeps (fun _ => False) W W') : Ps w W' gl cl gt ct N B ps := by
  obtain ⟨ρ, hp⟩ := h.psx
  exact ⟨⟨ρ, hp.new k⟩, h.nn, h.bd⟩
theorem Ps.kp {w W : World} {gl cl gt ct N B : Nat} {ps : List Pr} (h : Ps w W gl cl gt ct N B ps) : Keeps (fun _ => False) w W := by
  obtain ⟨ρ, hp⟩ := h.psx
  exact hp.kp
theorem Ps.mono {w W : World} {gl cl gt ct N B B' : Nat} {ps : List Pr} (h : Ps w W gl cl gt ct N B ps) (hB : B ≤ B') : Ps w W gl cl gt ct N B' ps := ⟨h.psx, h.nn, fun p hp => Nat.le_trans (h.bd p hp) hB⟩
theorem Ps.at_ {w W : World} {gl cl gt ct N B : Nat} {ps : List Pr} (h : Ps w W gl cl gt ct N B ps) {q : Nat} (hq : q < N) : ∃ p, ps[q]? = some p ∧ PrI W p ∧ p.rs.length ≤ B ∧ W.cell? ⟨gl, q, none⟩ = some (.pointer (some ⟨p.T.tb, 0, none⟩)) ∧ W.cell? ⟨gt, q, none⟩ = some (.pointer (some ⟨p.rb, 0, none⟩)) ∧ ¬ p.Blk gl ∧ ¬ p.Blk gt := by
  obtain ⟨ρ, hp⟩ := h.psx
  have hn := h.nn
  obtain ⟨p, hx⟩ : ∃ p, ps[q]? = some p := ⟨ps[q]'(by omega), by simp⟩
  obtain ⟨h1, h2⟩ := hp.at2
  exact ⟨p, hx, hp.each q p hx, h.bd p (List.mem_of_getElem? hx), (h1 q p hx).1, (h1 q p hx).2, (h2 q p hx).1, (h2 q p hx).2⟩
theorem Ps.play {w W W' : World} {gl cl gt ct N B : Nat} {ps : List Pr} (h : Ps w W gl cl gt ct N B ps) {q : Nat} {p p' : Pr} (hq : ps[q]? = some p) (hI : PrI W' p') (hP : Pt W W' p p') : Ps w W' gl cl gt ct N (B + 1) (ps.set q p') := by
  obtain ⟨ρ, hp⟩ := h.psx
  refine ⟨hp.play hq hI hP, by rw [List.length_set]; exact h.nn, fun x hx => ?_⟩
  rcases List.mem_or_eq_of_mem_set hx with a | a
  · exact Nat.le_trans (h.bd x a) (Nat.le_succ _)
  · subst a
    have := h.bd p (List.mem_of_getElem? hq)
    have := hP.ln
    omega
/-- A pair comes in. -/
theorem Ps.add {w W : World} {gl cl gt ct N B : Nat} {ps : List Pr} (h : Ps w W gl cl gt ct N B ps) (hN : N ≤ 4398046511300) {w1 : World} {T : Tk} {rs : List Rd} (k1 : Keeps (fun _ => False) W w1) (hT : TV w1 T rs) (hTB : ∀ k, T.Blk k → W.heap.size ≤ k) (hrs : rs.length ≤ B) :
    ∃ g1 c1 W2, (Builtin.append_ #[51, 51] 51 #[.slice (some ⟨gl, 0, none⟩) N cl, .slice (some ⟨w1.heap.size, 0, none⟩) 1 1]).run Try.prog (w1.alloc (.cells #[.pointer (some ⟨T.tb, 0, none⟩)] 22)) = .ok (.slice (some ⟨g1, 0, none⟩) (N + 1) c1) W2 ∧ Keeps (fun k => k = gl) W W2 ∧ W2.cell? ⟨g1, N, none⟩ = some (.pointer (some ⟨T.tb, 0, none⟩)) ∧
      (∀ q p, ps[q]? = some p → W2.cell? ⟨gt, q, none⟩ = some (.pointer (some ⟨p.rb, 0, none⟩)) ∧ PrI W2 p) ∧
      ∀ (w3 : World) (rb : Nat) (vr : Value), Keeps (fun _ => False) W2 w3 → RV w3 rb vr rs → (∀ k, RBlk rb vr k → W2.heap.size ≤ k) →
        ∃ g2 c2 W4, (Builtin.append_ #[54, 54] 54 #[.slice (some ⟨gt, 0, none⟩) N ct, .slice (some ⟨w3.heap.size, 0, none⟩) 1 1]).run Try.prog (w3.alloc (.cells #[.pointer (some ⟨rb, 0, none⟩)] 52)) = .ok (.slice (some ⟨g2, 0, none⟩) (N + 1) c2) W4 ∧ Ps w W4 g1 c1 g2 c2 (N + 1) B (ps ++ [⟨T, rb, vr, rs⟩]) ∧ W4.cell? ⟨g1, N, none⟩ = some (.pointer (some ⟨T.tb, 0, none⟩)) := by
  obtain ⟨ρ, hp⟩ := h.psx
  have hn := h.nn
  have hrl := hp.rl
  have hrt := hp.rt
  rw [← hn] at hrl hrt
  obtain ⟨v1, W2, r1, o1, g1, a1⟩ := app_l (k1.owns hrl (fun _ _ e => e)) (by omega) T.tb
  obtain ⟨b1, c1, rfl⟩ := ownsRow_succ o1
  have hlen : (lptr ps).length = N := by simp [lptr, hn]
  have kk : Keeps (fun k => k = gl) W W2 := (((k1.mono (fun _ _ e => e.elim)).alloc _).grown g1 (fun _ _ e => by cases e; rfl))
  have s1 := k1.size
  have s2 := kk.size
  obtain ⟨hat, hnb⟩ := hp.at2
  have ngl : ∀ g, (Value.slice (some ⟨gt, 0, none⟩) N ct).ownBlock = some g → ¬ g = gl := fun g e e' => by
    have x1 := hp.r1 g e
    have x2 := hp.r0 gl rfl
    rw [e'] at x1
    omega
  have newc : W2.cell? ⟨b1, N, none⟩ = some (.pointer (some ⟨T.tb, 0, none⟩)) := owns_cell o1 rfl (by rw [List.getElem?_append_right (by omega), hlen]; simp)
  refine ⟨b1, c1, W2, r1, kk, newc, fun q p hq => ⟨kk.cell (hat q p hq).2 (ngl gt rfl), (hp.each q p hq).keeps kk (fun i hi e => (hnb q p hq).1 (e ▸ hi))⟩, fun w3 rb vr k3 hR hRB => ?_⟩
  obtain ⟨v2, W4, r2, o2, g2, a2⟩ := app_r (k3.owns (kk.owns hrt (fun g e => ngl g e)) (fun _ _ e => e)) (by omega) rb
  obtain ⟨b2, c2, rfl⟩ := ownsRow_succ o2
  have hBt : ∀ k, T.Blk k → k < w1.heap.size := fun k e => hT.lt e
  have nT1 : ∀ k, T.Blk k → ¬ k = gl := fun k e e' => by have := hTB k e; have := hp.lt (.inl (e' ▸ rfl : (Value.slice (some ⟨gl, 0, none⟩) N cl).ownBlock = some k)); omega
  have nT2 : ∀ k, T.Blk k → ¬ k = gt := fun k e e' => by have := hTB k e; have := hp.lt (.inr (.inl (e' ▸ rfl : (Value.slice (some ⟨gt, 0, none⟩) N ct).ownBlock = some k))); omega
  have sA : (w1.alloc (.cells #[.pointer (some ⟨T.tb, 0, none⟩)] 22)).heap.size = w1.heap.size + 1 := by simp
  have sB : (w3.alloc (.cells #[.pointer (some ⟨rb, 0, none⟩)] 52)).heap.size = w3.heap.size + 1 := by simp
  have sg1 := g1.size
  have s3 := k3.size
  have k12 : Keeps (fun k => k = gl) w1 W2 := ((Keeps.refl (fun k => k = gl) w1).alloc _).grown g1 (fun _ _ e => by cases e; rfl)
  have k34 : Keeps (fun k => k = gt) w3 W4 := ((Keeps.refl (fun k => k = gt) w3).alloc _).grown g2 (fun _ _ e => by cases e; rfl)
  have lgt : gt < W.heap.size := hp.lt (.inr (.inl rfl))
  have hT4 : TV W4 T rs := ((hT.keep k12 (fun i e e' => nT1 i e e')).new k3).keep k34 (fun i e e' => nT2 i e e')
  have hR4 : RV W4 rb vr rs := hR.keep k34 (fun i e e' => by have := hRB i e; omega)
  have b1n : b1 = gl ∨ b1 = w1.heap.size + 1 := by
    rcases a1 with e | e
    · exact .inl (Option.some.inj e)
    · rw [sA] at e; exact .inr (Option.some.inj e)
  have b2n : b2 = gt ∨ b2 = w3.heap.size + 1 := by
    rcases a2 with e | e
    · exact .inl (Option.some.inj e)
    · rw [sB] at e; exact .inr (Option.some.inj e)
  have lb1 := owns_lt' o1 b1 rfl
  have hb2n : ¬ b1 = gt := fun e => by
    rcases b1n with x | x
    · exact ngl gt rfl (by omega)
    · omega
  obtain ⟨ρ', hps⟩ := hp.add2 (p := ⟨T, rb, vr, rs⟩) (fun k hk => by
      rcases hk with e | e
      · exact hTB k e
      · have := hRB k e; omega) (k1.alloc _) g1 (by rw [← hn]; exact o1) a1 (k3.alloc _) g2 (by rw [← hn]; exact o2) a2
    ⟨hT4, hR4, fun k e e' => by have := hBt k e; have := hRB k e'; omega⟩ (fun k hk => by
      rcases hk with e | e
      · have x1 := hTB k e
        have x2 := hBt k e
        refine ⟨fun y => ?_, fun y => ?_⟩
        · have z := Option.some.inj y
          simp only at z
          rcases b1n with u | u
          · exact nT1 k e (by omega)
          · omega
        · have z := Option.some.inj y
          simp only at z
          rcases b2n with u | u
          · exact nT2 k e (by omega)
          · omega
      · have x1 := hRB k e
        have x2 := hR.lt e
        refine ⟨fun y => ?_, fun y => ?_⟩
        · have z := Option.some.inj y
          simp only at z
          omega
        · have z := Option.some.inj y
          simp only at z
          rcases b2n with u | u <;> omega)
  refine ⟨b2, c2, W4, r2, ⟨⟨ρ', hps⟩, by rw [List.length_append, ← hn]; rfl, fun x hx => ?_⟩, k34.cell (k3.cell newc (fun e => e)) hb2n⟩
  rcases List.mem_append.1 hx with e | e
  · exact h.bd x e
  · simp at e; subst e; exact hrs
end Go.Proofs.Ytagplkgjdaojnaa
