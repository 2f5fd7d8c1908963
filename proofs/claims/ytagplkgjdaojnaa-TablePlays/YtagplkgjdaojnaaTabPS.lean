import Derived.Test.YtagplkgjdaojnaaTabPl
namespace Go.Proofs.Ytagplkgjdaojnaa
open Go.RowKit

def lptr (ps : List Pr) : List Value := ps.map fun p => .pointer (some ⟨p.T.tb, 0, none⟩)
def rptr (ps : List Pr) : List Value := ps.map fun p => .pointer (some ⟨p.rb, 0, none⟩)
/-- All blocks. -/
def AnyB (vl vt : Value) (ps : List Pr) (k : Nat) : Prop := vl.ownBlock = some k ∨ vt.ownBlock = some k ∨ ∃ (i : Nat) (p : Pr), ps[i]? = some p ∧ p.Blk k
/-- Plans and twins, all apart: a block's role. -/
structure PS (w W : World) (ρ : Nat → Nat) (vl vt : Value) (ps : List Pr) : Prop where
  rl : W.ownsRow 0 22 1 vl ps.length (lptr ps)
  rt : W.ownsRow 0 52 1 vt ps.length (rptr ps)
  each : ∀ (i : Nat) (p : Pr), ps[i]? = some p → PrI W p
  rol : ∀ (i : Nat) (p : Pr) (k : Nat), ps[i]? = some p → p.Blk k → ρ k = i + 2
  r0 : ∀ k, vl.ownBlock = some k → ρ k = 0
  r1 : ∀ k, vt.ownBlock = some k → ρ k = 1
  lo : ∀ k, AnyB vl vt ps k → w.heap.size ≤ k
  kp : Keeps (fun _ => False) w W
  ne : 0 < ps.length
section
variable {w W W' : World} {ρ : Nat → Nat} {vl vt : Value} {ps : List Pr}
theorem PS.lt (h : PS w W ρ vl vt ps) {k : Nat} (hk : AnyB vl vt ps k) : k < W.heap.size := by
  rcases hk with hk | hk | ⟨i, p, hp, hk⟩
  · exact owns_lt' h.rl k hk
  · exact owns_lt' h.rt k hk
  · exact (h.each i p hp).lt hk
theorem PS.keeps {S : Nat → Prop} (h : PS w W ρ vl vt ps) (k : Keeps S W W') (hS : ∀ i, AnyB vl vt ps i → ¬ S i) (hw : ∀ i, i < w.heap.size → ¬ S i) : PS w W' ρ vl vt ps :=
  ⟨k.owns h.rl (fun g e => hS g (.inl e)), k.owns h.rt (fun g e => hS g (.inr (.inl e))), fun i p hp => (h.each i p hp).keeps k (fun g e => hS g (.inr (.inr ⟨i, p, hp, e⟩))), h.rol, h.r0, h.r1, h.lo, h.kp.trans' k (fun _ _ e => e) (fun i hi e => hw i hi e), h.ne⟩
theorem PS.new (h : PS w W ρ vl vt ps) (k : Keeps (fun _ => False) W W') : PS w W' ρ vl vt ps := h.keeps k (fun _ _ e => e) (fun _ _ e => e)
theorem lptr_get {i : Nat} {p : Pr} (h : ps[i]? = some p) : (lptr ps)[i]? = some (.pointer (some ⟨p.T.tb, 0, none⟩)) := by simp [lptr, h]
theorem rptr_get {i : Nat} {p : Pr} (h : ps[i]? = some p) : (rptr ps)[i]? = some (.pointer (some ⟨p.rb, 0, none⟩)) := by simp [rptr, h]
/-- The lists' own blocks. -/
theorem PS.at_ (h : PS w W ρ vl vt ps) : ∃ gl cl gt ct, vl = .slice (some ⟨gl, 0, none⟩) ps.length cl ∧ vt = .slice (some ⟨gt, 0, none⟩) ps.length ct ∧ (∀ (i : Nat) (p : Pr), ps[i]? = some p → W.cell? ⟨gl, i, none⟩ = some (.pointer (some ⟨p.T.tb, 0, none⟩)) ∧ W.cell? ⟨gt, i, none⟩ = some (.pointer (some ⟨p.rb, 0, none⟩))) ∧ (∀ (i : Nat) (p : Pr), ps[i]? = some p → ¬ p.Blk gl ∧ ¬ p.Blk gt) := by
  have hn := h.ne
  rcases h.rl.2 with ⟨rfl, h0⟩ | ⟨gl, cl, cur, rfl, _⟩
  · omega
  rcases h.rt.2 with ⟨rfl, h0⟩ | ⟨gt, ct, cur', rfl, _⟩
  · omega
  refine ⟨gl, cl, gt, ct, rfl, rfl, fun i p hp => ⟨?_, ?_⟩, fun i p hp => ⟨fun e => ?_, fun e => ?_⟩⟩
  · have := h.rl.cells rfl i _ (lptr_get hp); rwa [add_none, Nat.zero_add] at this
  · have := h.rt.cells rfl i _ (rptr_get hp); rwa [add_none, Nat.zero_add] at this
  · have h1 := h.rol i p gl hp e; have h2 := h.r0 gl rfl; omega
  · have h1 := h.rol i p gt hp e; have h2 := h.r1 gt rfl; omega
/-- One pair has been played on. -/
theorem PS.play (h : PS w W ρ vl vt ps) {i : Nat} {p p' : Pr} (hp : ps[i]? = some p) (hI : PrI W' p') (hP : Pt W W' p p') : ∃ ρ', PS w W' ρ' vl vt (ps.set i p') := by
  have hil : i < ps.length := (List.getElem?_eq_some_iff.1 hp).1
  have hset : ∀ (j : Nat) (q : Pr), (ps.set i p')[j]? = some q → (j = i ∧ q = p') ∨ (j ≠ i ∧ ps[j]? = some q) := fun j q hq => by
    rw [List.getElem?_set] at hq
    by_cases e : i = j
    · subst e; rw [if_pos rfl, if_pos hil] at hq; cases hq; exact .inl ⟨rfl, rfl⟩
    · rw [if_neg e] at hq; exact .inr ⟨Ne.symm e, hq⟩
  have hne : ∀ g, (vl.ownBlock = some g ∨ vt.ownBlock = some g) → ¬ p.Blk g := fun g hg e => by
    have h1 := h.rol i p g hp e
    rcases hg with hg | hg
    · have := h.r0 g hg; omega
    · have := h.r1 g hg; omega
  have el : lptr (ps.set i p') = lptr ps := by
    apply List.ext_getElem?
    intro j
    simp only [lptr, List.getElem?_map]
    rw [List.getElem?_set]
    by_cases e : i = j
    · subst e; rw [if_pos rfl, if_pos hil, hp]; simp [hP.tb]
    · rw [if_neg e]
  have er : rptr (ps.set i p') = rptr ps := by
    apply List.ext_getElem?
    intro j
    simp only [rptr, List.getElem?_map]
    rw [List.getElem?_set]
    by_cases e : i = j
    · subst e; rw [if_pos rfl, if_pos hil, hp]; simp [hP.rb]
    · rw [if_neg e]
  have hszk := h.kp.size
  refine ⟨fun k => if W.heap.size ≤ k then i + 2 else ρ k, ?_, ?_, fun j q hq => ?_, fun j q b hq hb => ?_, fun g e => ?_, fun g e => ?_, fun b hb => ?_, h.kp.trans' hP.kp (fun _ _ e => e) (fun j hj e => ?_), by simpa using h.ne⟩
  · rw [el, List.length_set]; exact hP.kp.owns h.rl (fun g e => hne g (.inl e))
  · rw [er, List.length_set]; exact hP.kp.owns h.rt (fun g e => hne g (.inr e))
  · rcases hset j q hq with ⟨rfl, rfl⟩ | ⟨hji, hq'⟩
    · exact hI
    · exact (h.each j q hq').keeps hP.kp (fun b hb e => by have h1 := h.rol j q b hq' hb; have h2 := h.rol i p b hp e; omega)
  · rcases hset j q hq with ⟨rfl, rfl⟩ | ⟨_, hq'⟩
    · rcases hP.bk b hb with x | x
      · have := h.lt (.inr (.inr ⟨_, p, hp, x⟩))
        simp only [if_neg (show ¬ W.heap.size ≤ b by omega)]
        exact h.rol _ p b hp x
      · simp only [if_pos x]
    · have := h.lt (.inr (.inr ⟨j, q, hq', hb⟩))
      simp only [if_neg (show ¬ W.heap.size ≤ b by omega)]
      exact h.rol j q b hq' hb
  · have := h.lt (.inl e)
    simp only [if_neg (show ¬ W.heap.size ≤ g by omega)]
    exact h.r0 g e
  · have := h.lt (.inr (.inl e))
    simp only [if_neg (show ¬ W.heap.size ≤ g by omega)]
    exact h.r1 g e
  · rcases hb with hb | hb | ⟨j, q, hq, hb⟩
    · exact h.lo b (.inl hb)
    · exact h.lo b (.inr (.inl hb))
    · rcases hset j q hq with ⟨rfl, rfl⟩ | ⟨_, hq'⟩
      · rcases hP.bk b hb with x | x
        · exact h.lo b (.inr (.inr ⟨_, p, hp, x⟩))
        · omega
      · exact h.lo b (.inr (.inr ⟨j, q, hq', hb⟩))
  · have := h.lo j (.inr (.inr ⟨i, p, hp, e⟩)); omega

/-- A pair comes in. -/
theorem PS.add (h : PS w W ρ vl vt ps) {p : Pr} (hp : PrI W p) {S : Nat} (hold : ∀ k, AnyB vl vt ps k → k < S) (hnew : ∀ k, p.Blk k → S ≤ k) (hSw : w.heap.size ≤ S)
    {wb1 W1 wb2 W2 : World} {vl' vt' : Value} (kb1 : Keeps (fun _ => False) W wb1) (g1 : wb1.grownBy W1 vl.ownBlock) (o1 : W1.ownsRow 0 22 1 vl' (ps.length + 1) (lptr ps ++ [.pointer (some ⟨p.T.tb, 0, none⟩)])) (a1 : vl'.ownBlock = vl.ownBlock ∨ vl'.ownBlock = some wb1.heap.size)
    (kb2 : Keeps (fun _ => False) W1 wb2) (g2 : wb2.grownBy W2 vt.ownBlock) (o2 : W2.ownsRow 0 52 1 vt' (ps.length + 1) (rptr ps ++ [.pointer (some ⟨p.rb, 0, none⟩)])) (a2 : vt'.ownBlock = vt.ownBlock ∨ vt'.ownBlock = some wb2.heap.size) :
    ∃ ρ', PS w W2 ρ' vl' vt' (ps ++ [p]) := by
  have k1 : Keeps (fun k => vl.ownBlock = some k) W W1 := kb1.trans' ((Keeps.refl _ wb1).grown g1 (S := fun k => vl.ownBlock = some k) (fun _ _ e => e)) (fun _ _ e => e.elim) (fun _ _ e => e)
  have k2 : Keeps (fun k => vt.ownBlock = some k) W1 W2 := kb2.trans' ((Keeps.refl _ wb2).grown g2 (S := fun k => vt.ownBlock = some k) (fun _ _ e => e)) (fun _ _ e => e.elim) (fun _ _ e => e)
  have kk : Keeps (fun k => vl.ownBlock = some k ∨ vt.ownBlock = some k) W W2 := (k1.mono (fun _ _ e => .inl e)).trans (k2.mono (fun _ _ e => .inr e))
  have s1 := kb1.size
  have s2 := k1.size
  have s3 := kb2.size
  have s1' := g1.size
  have hvl : ∀ g, vl'.ownBlock = some g → vl.ownBlock = some g ∨ g = wb1.heap.size := fun g e => by
    rcases a1 with e' | e'
    · exact .inl (e' ▸ e)
    · rw [e'] at e; cases e; exact .inr rfl
  have hvt : ∀ g, vt'.ownBlock = some g → vt.ownBlock = some g ∨ g = wb2.heap.size := fun g e => by
    rcases a2 with e' | e'
    · exact .inl (e' ▸ e)
    · rw [e'] at e; cases e; exact .inr rfl
  have lb1 : ∀ g, vl'.ownBlock = some g → g < W1.heap.size := fun g e => owns_lt' o1 g e
  have dis : ∀ g, vl'.ownBlock = some g → vt'.ownBlock = some g → False := fun g e e' => by
    have h9 := lb1 g e
    rcases hvl g e with x | x
    · rcases hvt g e' with y | y
      · have := h.r0 g x; have := h.r1 g y; omega
      · have := hold g (.inl x); omega
    · rcases hvt g e' with y | y
      · have := h.lt (.inr (.inl y)); omega
      · omega
  refine ⟨fun k => if vl'.ownBlock = some k then 0 else if vt'.ownBlock = some k then 1 else if S ≤ k then ps.length + 2 else ρ k, ?_⟩
  have hget : ∀ (j : Nat) (q : Pr), (ps ++ [p])[j]? = some q → (j < ps.length ∧ ps[j]? = some q) ∨ (j = ps.length ∧ q = p) := fun j q hq => by
    by_cases e : j < ps.length
    · rw [List.getElem?_append_left e] at hq; exact .inl ⟨e, hq⟩
    · rw [List.getElem?_append_right (by omega)] at hq
      have : j - ps.length = 0 := by
        have := (List.getElem?_eq_some_iff.1 hq).1
        simp at this; omega
      rw [this] at hq
      simp at hq
      exact .inr ⟨by omega, hq.symm⟩
  have off1 : ∀ (j : Nat) (q : Pr) (b : Nat), ps[j]? = some q → q.Blk b → ¬ vl'.ownBlock = some b ∧ ¬ vt'.ownBlock = some b := fun j q b hq hb => by
    have hr := h.rol j q b hq hb
    have hl := h.lt (.inr (.inr ⟨j, q, hq, hb⟩))
    refine ⟨fun e => ?_, fun e => ?_⟩
    · rcases hvl b e with x | x
      · have := h.r0 b x; omega
      · omega
    · rcases hvt b e with x | x
      · have := h.r1 b x; omega
      · omega
  have off2 : ∀ b, p.Blk b → ¬ vl'.ownBlock = some b ∧ ¬ vt'.ownBlock = some b := fun b hb => by
    have hS := hnew b hb
    have hl := hp.lt hb
    refine ⟨fun e => ?_, fun e => ?_⟩
    · rcases hvl b e with x | x
      · have := hold b (.inl x); omega
      · omega
    · rcases hvt b e with x | x
      · have := hold b (.inr (.inl x)); omega
      · omega
  refine ⟨?_, ?_, fun j q hq => ?_, fun j q b hq hb => ?_, fun g e => by simp [e], fun g e => ?_, fun b hb => ?_, h.kp.trans' kk (fun _ _ e => e) (fun j hj e => ?_), by simp⟩
  · have el : lptr (ps ++ [p]) = lptr ps ++ [.pointer (some ⟨p.T.tb, 0, none⟩)] := by simp [lptr]
    rw [el, List.length_append]
    exact k2.owns o1 (fun g e e' => by
      rcases hvl g e with x | x
      · have := h.r0 g x; have := h.r1 g e'; omega
      · have := h.lt (.inr (.inl e')); omega)
  · have er : rptr (ps ++ [p]) = rptr ps ++ [.pointer (some ⟨p.rb, 0, none⟩)] := by simp [rptr]
    rw [er, List.length_append]
    exact o2
  · rcases hget j q hq with ⟨_, hq'⟩ | ⟨_, rfl⟩
    · exact (h.each j q hq').keeps kk (fun b hb e => by
        have hr := h.rol j q b hq' hb
        rcases e with e | e
        · have := h.r0 b e; omega
        · have := h.r1 b e; omega)
    · exact hp.keeps kk (fun b hb e => by
        have hS := hnew b hb
        rcases e with e | e
        · have := hold b (.inl e); omega
        · have := hold b (.inr (.inl e)); omega)
  · rcases hget j q hq with ⟨_, hq'⟩ | ⟨rfl, rfl⟩
    · obtain ⟨x, y⟩ := off1 j q b hq' hb
      have := hold b (.inr (.inr ⟨j, q, hq', hb⟩))
      simp only [x, y, if_false, if_neg (show ¬ S ≤ b by omega)]
      exact h.rol j q b hq' hb
    · obtain ⟨x, y⟩ := off2 b hb
      simp only [x, y, if_false, if_pos (hnew b hb)]
  · have : ¬ vl'.ownBlock = some g := fun e' => dis g e' e
    simp [e, this]
  · rcases hb with hb | hb | ⟨j, q, hq, hb⟩
    · rcases hvl b hb with x | x
      · exact h.lo b (.inl x)
      · have := h.kp.size; omega
    · rcases hvt b hb with x | x
      · exact h.lo b (.inr (.inl x))
      · have := h.kp.size; omega
    · rcases hget j q hq with ⟨_, hq'⟩ | ⟨_, rfl⟩
      · exact h.lo b (.inr (.inr ⟨j, q, hq', hb⟩))
      · exact Nat.le_trans hSw (hnew b hb)
  · rcases e with e | e
    · have := h.lo j (.inl e); omega
    · have := h.lo j (.inr (.inl e)); omega
/-- A pair comes in. -/
theorem PS.add2 (h : PS w W ρ vl vt ps) {p : Pr} (hnew : ∀ k, p.Blk k → W.heap.size ≤ k)
    {wb1 W1 wb2 W2 : World} {vl' vt' : Value} (kb1 : Keeps (fun _ => False) W wb1) (g1 : wb1.grownBy W1 vl.ownBlock) (o1 : W1.ownsRow 0 22 1 vl' (ps.length + 1) (lptr ps ++ [.pointer (some ⟨p.T.tb, 0, none⟩)])) (a1 : vl'.ownBlock = vl.ownBlock ∨ vl'.ownBlock = some wb1.heap.size)
    (kb2 : Keeps (fun _ => False) W1 wb2) (g2 : wb2.grownBy W2 vt.ownBlock) (o2 : W2.ownsRow 0 52 1 vt' (ps.length + 1) (rptr ps ++ [.pointer (some ⟨p.rb, 0, none⟩)])) (a2 : vt'.ownBlock = vt.ownBlock ∨ vt'.ownBlock = some wb2.heap.size)
    (hp : PrI W2 p) (off2 : ∀ b, p.Blk b → ¬ vl'.ownBlock = some b ∧ ¬ vt'.ownBlock = some b) :
    ∃ ρ', PS w W2 ρ' vl' vt' (ps ++ [p]) := by
  have hold : ∀ k, AnyB vl vt ps k → k < W.heap.size := fun k hk => h.lt hk
  have hSw := h.kp.size
  have k1 : Keeps (fun k => vl.ownBlock = some k) W W1 := kb1.trans' ((Keeps.refl _ wb1).grown g1 (S := fun k => vl.ownBlock = some k) (fun _ _ e => e)) (fun _ _ e => e.elim) (fun _ _ e => e)
  have k2 : Keeps (fun k => vt.ownBlock = some k) W1 W2 := kb2.trans' ((Keeps.refl _ wb2).grown g2 (S := fun k => vt.ownBlock = some k) (fun _ _ e => e)) (fun _ _ e => e.elim) (fun _ _ e => e)
  have kk : Keeps (fun k => vl.ownBlock = some k ∨ vt.ownBlock = some k) W W2 := (k1.mono (fun _ _ e => .inl e)).trans (k2.mono (fun _ _ e => .inr e))
  have s1 := kb1.size
  have s2 := k1.size
  have s3 := kb2.size
  have s1' := g1.size
  have hvl : ∀ g, vl'.ownBlock = some g → vl.ownBlock = some g ∨ g = wb1.heap.size := fun g e => by
    rcases a1 with e' | e'
    · exact .inl (e' ▸ e)
    · rw [e'] at e; cases e; exact .inr rfl
  have hvt : ∀ g, vt'.ownBlock = some g → vt.ownBlock = some g ∨ g = wb2.heap.size := fun g e => by
    rcases a2 with e' | e'
    · exact .inl (e' ▸ e)
    · rw [e'] at e; cases e; exact .inr rfl
  have lb1 : ∀ g, vl'.ownBlock = some g → g < W1.heap.size := fun g e => owns_lt' o1 g e
  have dis : ∀ g, vl'.ownBlock = some g → vt'.ownBlock = some g → False := fun g e e' => by
    have h9 := lb1 g e
    rcases hvl g e with x | x
    · rcases hvt g e' with y | y
      · have := h.r0 g x; have := h.r1 g y; omega
      · have := hold g (.inl x); omega
    · rcases hvt g e' with y | y
      · have := h.lt (.inr (.inl y)); omega
      · omega
  refine ⟨fun k => if vl'.ownBlock = some k then 0 else if vt'.ownBlock = some k then 1 else if W.heap.size ≤ k then ps.length + 2 else ρ k, ?_⟩
  have hget : ∀ (j : Nat) (q : Pr), (ps ++ [p])[j]? = some q → (j < ps.length ∧ ps[j]? = some q) ∨ (j = ps.length ∧ q = p) := fun j q hq => by
    by_cases e : j < ps.length
    · rw [List.getElem?_append_left e] at hq; exact .inl ⟨e, hq⟩
    · rw [List.getElem?_append_right (by omega)] at hq
      have : j - ps.length = 0 := by
        have := (List.getElem?_eq_some_iff.1 hq).1
        simp at this; omega
      rw [this] at hq
      simp at hq
      exact .inr ⟨by omega, hq.symm⟩
  have off1 : ∀ (j : Nat) (q : Pr) (b : Nat), ps[j]? = some q → q.Blk b → ¬ vl'.ownBlock = some b ∧ ¬ vt'.ownBlock = some b := fun j q b hq hb => by
    have hr := h.rol j q b hq hb
    have hl := h.lt (.inr (.inr ⟨j, q, hq, hb⟩))
    refine ⟨fun e => ?_, fun e => ?_⟩
    · rcases hvl b e with x | x
      · have := h.r0 b x; omega
      · omega
    · rcases hvt b e with x | x
      · have := h.r1 b x; omega
      · omega
  refine ⟨?_, ?_, fun j q hq => ?_, fun j q b hq hb => ?_, fun g e => by simp [e], fun g e => ?_, fun b hb => ?_, h.kp.trans' kk (fun _ _ e => e) (fun j hj e => ?_), by simp⟩
  · have el : lptr (ps ++ [p]) = lptr ps ++ [.pointer (some ⟨p.T.tb, 0, none⟩)] := by simp [lptr]
    rw [el, List.length_append]
    exact k2.owns o1 (fun g e e' => by
      rcases hvl g e with x | x
      · have := h.r0 g x; have := h.r1 g e'; omega
      · have := h.lt (.inr (.inl e')); omega)
  · have er : rptr (ps ++ [p]) = rptr ps ++ [.pointer (some ⟨p.rb, 0, none⟩)] := by simp [rptr]
    rw [er, List.length_append]
    exact o2
  · rcases hget j q hq with ⟨_, hq'⟩ | ⟨_, rfl⟩
    · exact (h.each j q hq').keeps kk (fun b hb e => by
        have hr := h.rol j q b hq' hb
        rcases e with e | e
        · have := h.r0 b e; omega
        · have := h.r1 b e; omega)
    · exact hp
  · rcases hget j q hq with ⟨_, hq'⟩ | ⟨rfl, rfl⟩
    · obtain ⟨x, y⟩ := off1 j q b hq' hb
      have := hold b (.inr (.inr ⟨j, q, hq', hb⟩))
      simp only [x, y, if_false, if_neg (show ¬ W.heap.size ≤ b by omega)]
      exact h.rol j q b hq' hb
    · obtain ⟨x, y⟩ := off2 b hb
      simp only [x, y, if_false, if_pos (hnew b hb)]
  · have : ¬ vl'.ownBlock = some g := fun e' => dis g e' e
    simp [e, this]
  · rcases hb with hb | hb | ⟨j, q, hq, hb⟩
    · rcases hvl b hb with x | x
      · exact h.lo b (.inl x)
      · have := h.kp.size; omega
    · rcases hvt b hb with x | x
      · exact h.lo b (.inr (.inl x))
      · have := h.kp.size; omega
    · rcases hget j q hq with ⟨_, hq'⟩ | ⟨_, rfl⟩
      · exact h.lo b (.inr (.inr ⟨j, q, hq', hb⟩))
      · exact Nat.le_trans hSw (hnew b hb)
  · rcases e with e | e
    · have := h.lo j (.inl e); omega
    · have := h.lo j (.inr (.inl e)); omega
end
end Go.Proofs.Ytagplkgjdaojnaa
