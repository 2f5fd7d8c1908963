import Derived.Test.YtepolcnplchfbaaWdOpen
namespace Go.Proofs.Ytepolcnplchfbaa
open Go.RowKit

def lptr (ps : List Wd) : List Value := ps.map fun p => .pointer (some ⟨p.pb, 0, none⟩)
def rptr (ps : List Wd) : List Value := ps.map fun p => .pointer (some ⟨p.rb, 0, none⟩)
/-- All blocks. -/
def AnyB (vl vt : Value) (ps : List Wd) (k : Nat) : Prop := vl.ownBlock = some k ∨ vt.ownBlock = some k ∨ ∃ (i : Nat) (p : Wd), ps[i]? = some p ∧ p.Blk k
/-- Plans and twins, all apart: a block's role. -/
structure PS (w W : World) (ρ : Nat → Nat) (vl vt : Value) (ps : List Wd) : Prop where
  rl : W.ownsRow 0 23 1 vl ps.length (lptr ps)
  rt : W.ownsRow 0 27 1 vt ps.length (rptr ps)
  each : ∀ (i : Nat) (p : Wd), ps[i]? = some p → WI W p
  rol : ∀ (i : Nat) (p : Wd) (k : Nat), ps[i]? = some p → p.Blk k → ρ k = i + 2
  r0 : ∀ k, vl.ownBlock = some k → ρ k = 0
  r1 : ∀ k, vt.ownBlock = some k → ρ k = 1
  lo : ∀ k, AnyB vl vt ps k → w.heap.size ≤ k
  kp : Keeps (fun _ => False) w W
  ne : 0 < ps.length
section
variable {w W W' : World} {ρ : Nat → Nat} {vl vt : Value} {ps : List Wd}
theorem PS.lt (h : PS w W ρ vl vt ps) {k : Nat} (hk : AnyB vl vt ps k) : k < W.heap.size := by
  rcases hk with hk | hk | ⟨i, p, hp, hk⟩
  · exact owns_lt' h.rl k hk
  · exact owns_lt' h.rt k hk
  · exact (h.each i p hp).lt hk
theorem PS.keeps {S : Nat → Prop} (h : PS w W ρ vl vt ps) (k : Keeps S W W') (hS : ∀ i, AnyB vl vt ps i → ¬ S i) (hw : ∀ i, i < w.heap.size → ¬ S i) : PS w W' ρ vl vt ps :=
  ⟨k.owns h.rl (fun g e => hS g (.inl e)), k.owns h.rt (fun g e => hS g (.inr (.inl e))), fun i p hp => (h.each i p hp).keeps k (fun g e => hS g (.inr (.inr ⟨i, p, hp, e⟩))), h.rol, h.r0, h.r1, h.lo, h.kp.trans' k (fun _ _ e => e) (fun i hi e => hw i hi e), h.ne⟩
theorem PS.new (h : PS w W ρ vl vt ps) (k : Keeps (fun _ => False) W W') : PS w W' ρ vl vt ps := h.keeps k (fun _ _ e => e) (fun _ _ e => e)
theorem lptr_get {i : Nat} {p : Wd} (h : ps[i]? = some p) : (lptr ps)[i]? = some (.pointer (some ⟨p.pb, 0, none⟩)) := by simp [lptr, h]
theorem rptr_get {i : Nat} {p : Wd} (h : ps[i]? = some p) : (rptr ps)[i]? = some (.pointer (some ⟨p.rb, 0, none⟩)) := by simp [rptr, h]
/-- The lists' own blocks. -/
theorem PS.at_ (h : PS w W ρ vl vt ps) : ∃ gl cl gt ct, vl = .slice (some ⟨gl, 0, none⟩) ps.length cl ∧ vt = .slice (some ⟨gt, 0, none⟩) ps.length ct ∧ (∀ (i : Nat) (p : Wd), ps[i]? = some p → W.cell? ⟨gl, i, none⟩ = some (.pointer (some ⟨p.pb, 0, none⟩)) ∧ W.cell? ⟨gt, i, none⟩ = some (.pointer (some ⟨p.rb, 0, none⟩))) ∧ (∀ (i : Nat) (p : Wd), ps[i]? = some p → ¬ p.Blk gl ∧ ¬ p.Blk gt) := by
  have hn := h.ne
  rcases h.rl.2 with ⟨rfl, h0⟩ | ⟨gl, cl, cur, rfl, _⟩
  · omega
  rcases h.rt.2 with ⟨rfl, h0⟩ | ⟨gt, ct, cur', rfl, _⟩
  · omega
  refine ⟨gl, cl, gt, ct, rfl, rfl, fun i p hp => ⟨?_, ?_⟩, fun i p hp => ⟨fun e => ?_, fun e => ?_⟩⟩
  · have := h.rl.cells rfl i _ (lptr_get hp); rwa [add_none, Nat.zero_add] at this
  · have := h.rt.cells rfl i _ (rptr_get hp); rwa [add_none, Nat.zero_add] at this
  · have h1 := h.rol i p gl hp e; have h2 := h.r0 gl rfl; omega
  · have h1 := h.rol i p gt hp e; have h2 := h.r1 gt rfl; omega
/-- One pair has been played on. -/
theorem PS.play (h : PS w W ρ vl vt ps) {i : Nat} {p : Wd} (hp : ps[i]? = some p) {a : Nat} (hI : WI W' (p.to a)) (k : Keeps p.Blk W W') : PS w W' ρ vl vt (ps.set i (p.to a)) := by
  have hil : i < ps.length := (List.getElem?_eq_some_iff.1 hp).1
  have hset : ∀ (j : Nat) (q : Wd), (ps.set i (p.to a))[j]? = some q → (j = i ∧ q = p.to a) ∨ (j ≠ i ∧ ps[j]? = some q) := fun j q hq => by
    rw [List.getElem?_set] at hq
    by_cases e : i = j
    · subst e; rw [if_pos rfl, if_pos hil] at hq; cases hq; exact .inl ⟨rfl, rfl⟩
    · rw [if_neg e] at hq; exact .inr ⟨Ne.symm e, hq⟩
  have hany : ∀ b, AnyB vl vt (ps.set i (p.to a)) b → AnyB vl vt ps b := fun b hb => by
    rcases hb with hb | hb | ⟨j, q, hq, hb⟩
    · exact .inl hb
    · exact .inr (.inl hb)
    · rcases hset j q hq with ⟨rfl, rfl⟩ | ⟨_, hq'⟩
      · exact .inr (.inr ⟨_, p, hp, hb⟩)
      · exact .inr (.inr ⟨j, q, hq', hb⟩)
  have hne : ∀ g, (vl.ownBlock = some g ∨ vt.ownBlock = some g) → ¬ p.Blk g := fun g hg e => by
    have h1 := h.rol i p g hp e
    rcases hg with hg | hg
    · have := h.r0 g hg; omega
    · have := h.r1 g hg; omega
  have el : lptr (ps.set i (p.to a)) = lptr ps := by
    apply List.ext_getElem?
    intro j
    simp only [lptr, List.getElem?_map]
    rw [List.getElem?_set]
    by_cases e : i = j
    · subst e; rw [if_pos rfl, if_pos hil, hp]; rfl
    · rw [if_neg e]
  have er : rptr (ps.set i (p.to a)) = rptr ps := by
    apply List.ext_getElem?
    intro j
    simp only [rptr, List.getElem?_map]
    rw [List.getElem?_set]
    by_cases e : i = j
    · subst e; rw [if_pos rfl, if_pos hil, hp]; rfl
    · rw [if_neg e]
  refine ⟨?_, ?_, fun j q hq => ?_, fun j q b hq hb => ?_, h.r0, h.r1, fun b hb => h.lo b (hany b hb), h.kp.trans' k (fun _ _ e => e) (fun j hj e => ?_), by simpa using h.ne⟩
  · rw [el, List.length_set]; exact k.owns h.rl (fun g e => hne g (.inl e))
  · rw [er, List.length_set]; exact k.owns h.rt (fun g e => hne g (.inr e))
  · rcases hset j q hq with ⟨rfl, rfl⟩ | ⟨hji, hq'⟩
    · exact hI
    · exact (h.each j q hq').keeps k (fun b hb e => by have h1 := h.rol j q b hq' hb; have h2 := h.rol i p b hp e; omega)
  · rcases hset j q hq with ⟨rfl, rfl⟩ | ⟨_, hq'⟩
    · exact h.rol _ p b hp hb
    · exact h.rol j q b hq' hb
  · have := h.lo j (.inr (.inr ⟨i, p, hp, e⟩)); omega

/-- A pair comes in. -/
theorem PS.add (h : PS w W ρ vl vt ps) {p : Wd} (hp : WI W p) {S : Nat} (hold : ∀ k, AnyB vl vt ps k → k < S) (hnew : ∀ k, p.Blk k → S ≤ k) (hSw : w.heap.size ≤ S)
    {wb1 W1 wb2 W2 : World} {vl' vt' : Value} (kb1 : Keeps (fun _ => False) W wb1) (g1 : wb1.grownBy W1 vl.ownBlock) (o1 : W1.ownsRow 0 23 1 vl' (ps.length + 1) (lptr ps ++ [.pointer (some ⟨p.pb, 0, none⟩)])) (a1 : vl'.ownBlock = vl.ownBlock ∨ vl'.ownBlock = some wb1.heap.size)
    (kb2 : Keeps (fun _ => False) W1 wb2) (g2 : wb2.grownBy W2 vt.ownBlock) (o2 : W2.ownsRow 0 27 1 vt' (ps.length + 1) (rptr ps ++ [.pointer (some ⟨p.rb, 0, none⟩)])) (a2 : vt'.ownBlock = vt.ownBlock ∨ vt'.ownBlock = some wb2.heap.size) :
    ∃ ρ', PS w W2 ρ' vl' vt' (ps ++ [p]) := by
  have k1 : Keeps (fun k => vl.ownBlock = some k) W W1 := kb1.trans' ((Keeps.refl _ wb1).grown g1 (S := fun k => vl.ownBlock = some k) (fun _ _ e => e)) (fun _ _ e => e.elim) (fun _ _ e => e)
  have k2 : Keeps (fun k => vt.ownBlock = some k) W1 W2 := kb2.trans' ((Keeps.refl _ wb2).grown g2 (S := fun k => vt.ownBlock = some k) (fun _ _ e => e)) (fun _ _ e => e.elim) (fun _ _ e => e)
  have kk : Keeps (fun k => vl.ownBlock = some k ∨ vt.ownBlock = some k) W W2 := (k1.mono (fun _ _ e => .inl e)).trans (k2.mono (fun _ _ e => .inr e))
  have s1 := kb1.size
  have s2 := k1.size
  have s3 := kb2.size
  have s1' := g1.size
  have hvl : ∀ g, vl'.ownBlock = some g → vl.ownBlock = some g ∨ g = wb1.heap.size := fun g e => by
    rcases a1 with e' | e'
    · exact .inl (e' ▸ e)
    · rw [e'] at e; cases e; exact .inr rfl
  have hvt : ∀ g, vt'.ownBlock = some g → vt.ownBlock = some g ∨ g = wb2.heap.size := fun g e => by
    rcases a2 with e' | e'
    · exact .inl (e' ▸ e)
    · rw [e'] at e; cases e; exact .inr rfl
  have lb1 : ∀ g, vl'.ownBlock = some g → g < W1.heap.size := fun g e => owns_lt' o1 g e
  have dis : ∀ g, vl'.ownBlock = some g → vt'.ownBlock = some g → False := fun g e e' => by
    have h9 := lb1 g e
    rcases hvl g e with x | x
    · rcases hvt g e' with y | y
      · have := h.r0 g x; have := h.r1 g y; omega
      · have := hold g (.inl x); omega
    · rcases hvt g e' with y | y
      · have := h.lt (.inr (.inl y)); omega
      · omega
  refine ⟨fun k => if vl'.ownBlock = some k then 0 else if vt'.ownBlock = some k then 1 else if S ≤ k then ps.length + 2 else ρ k, ?_⟩
  have hget : ∀ (j : Nat) (q : Wd), (ps ++ [p])[j]? = some q → (j < ps.length ∧ ps[j]? = some q) ∨ (j = ps.length ∧ q = p) := fun j q hq => by
    by_cases e : j < ps.length
    · rw [List.getElem?_append_left e] at hq; exact .inl ⟨e, hq⟩
    · rw [List.getElem?_append_right (by omega)] at hq
      have : j - ps.length = 0 := by
        have := (List.getElem?_eq_some_iff.1 hq).1
        simp at this; omega
      rw [this] at hq
      simp at hq
      exact .inr ⟨by omega, hq.symm⟩
  have off1 : ∀ (j : Nat) (q : Wd) (b : Nat), ps[j]? = some q → q.Blk b → ¬ vl'.ownBlock = some b ∧ ¬ vt'.ownBlock = some b := fun j q b hq hb => by
    have hr := h.rol j q b hq hb
    have hl := h.lt (.inr (.inr ⟨j, q, hq, hb⟩))
    refine ⟨fun e => ?_, fun e => ?_⟩
    · rcases hvl b e with x | x
      · have := h.r0 b x; omega
      · omega
    · rcases hvt b e with x | x
      · have := h.r1 b x; omega
      · omega
  have off2 : ∀ b, p.Blk b → ¬ vl'.ownBlock = some b ∧ ¬ vt'.ownBlock = some b := fun b hb => by
    have hS := hnew b hb
    have hl := hp.lt hb
    refine ⟨fun e => ?_, fun e => ?_⟩
    · rcases hvl b e with x | x
      · have := hold b (.inl x); omega
      · omega
    · rcases hvt b e with x | x
      · have := hold b (.inr (.inl x)); omega
      · omega
  refine ⟨?_, ?_, fun j q hq => ?_, fun j q b hq hb => ?_, fun g e => by simp [e], fun g e => ?_, fun b hb => ?_, h.kp.trans' kk (fun _ _ e => e) (fun j hj e => ?_), by simp⟩
  · have el : lptr (ps ++ [p]) = lptr ps ++ [.pointer (some ⟨p.pb, 0, none⟩)] := by simp [lptr]
    rw [el, List.length_append]
    exact k2.owns o1 (fun g e e' => by
      rcases hvl g e with x | x
      · have := h.r0 g x; have := h.r1 g e'; omega
      · have := h.lt (.inr (.inl e')); omega)
  · have er : rptr (ps ++ [p]) = rptr ps ++ [.pointer (some ⟨p.rb, 0, none⟩)] := by simp [rptr]
    rw [er, List.length_append]
    exact o2
  · rcases hget j q hq with ⟨_, hq'⟩ | ⟨_, rfl⟩
    · exact (h.each j q hq').keeps kk (fun b hb e => by
        have hr := h.rol j q b hq' hb
        rcases e with e | e
        · have := h.r0 b e; omega
        · have := h.r1 b e; omega)
    · exact hp.keeps kk (fun b hb e => by
        have hS := hnew b hb
        rcases e with e | e
        · have := hold b (.inl e); omega
        · have := hold b (.inr (.inl e)); omega)
  · rcases hget j q hq with ⟨_, hq'⟩ | ⟨rfl, rfl⟩
    · obtain ⟨x, y⟩ := off1 j q b hq' hb
      have := hold b (.inr (.inr ⟨j, q, hq', hb⟩))
      simp only [x, y, if_false, if_neg (show ¬ S ≤ b by omega)]
      exact h.rol j q b hq' hb
    · obtain ⟨x, y⟩ := off2 b hb
      simp only [x, y, if_false, if_pos (hnew b hb)]
  · have : ¬ vl'.ownBlock = some g := fun e' => dis g e' e
    simp [e, this]
  · rcases hb with hb | hb | ⟨j, q, hq, hb⟩
    · rcases hvl b hb with x | x
      · exact h.lo b (.inl x)
      · have := h.kp.size; omega
    · rcases hvt b hb with x | x
      · exact h.lo b (.inr (.inl x))
      · have := h.kp.size; omega
    · rcases hget j q hq with ⟨_, hq'⟩ | ⟨_, rfl⟩
      · exact h.lo b (.inr (.inr ⟨j, q, hq', hb⟩))
      · exact Nat.le_trans hSw (hnew b hb)
  · rcases e with e | e
    · have := h.lo j (.inl e); omega
    · have := h.lo j (.inr (.inl e)); omega
end
/-- The first pair. -/
theorem PS.start {w W : World} {p : Wd} (hp : WI W p) (kp : Keeps (fun _ => False) w W) (hlo : ∀ k, p.Blk k → w.heap.size ≤ k) :
    ∃ ρ, PS w ((W.alloc (.cells #[.pointer (some ⟨p.pb, 0, none⟩)] 23)).alloc (.cells #[.pointer (some ⟨p.rb, 0, none⟩)] 27)) ρ (.slice (some ⟨W.heap.size, 0, none⟩) 1 1) (.slice (some ⟨W.heap.size + 1, 0, none⟩) 1 1) [p] := by
  have k1 : Keeps (fun _ => False) W ((W.alloc (.cells #[.pointer (some ⟨p.pb, 0, none⟩)] 23)).alloc (.cells #[.pointer (some ⟨p.rb, 0, none⟩)] 27)) := ((Keeps.refl _ W).alloc _).alloc _
  have hl : ∀ k, p.Blk k → k < W.heap.size := fun k hk => hp.lt hk
  have hget : ∀ (j : Nat) (q : Wd), [p][j]? = some q → j = 0 ∧ q = p := fun j q hq => by
    cases j with
    | zero => simp at hq; exact ⟨rfl, hq.symm⟩
    | succ j => simp at hq
  have o2 := World.ownsRow_lit (base := 0) (e := 27) (size := 1) (W.alloc (.cells #[.pointer (some ⟨p.pb, 0, none⟩)] 23)) #[.pointer (some ⟨p.rb, 0, none⟩)] 1 (Nat.zero_le _) (by unfold maxLen; omega) rfl
  have o1 := World.ownsRow_lit (base := 0) (e := 23) (size := 1) W #[.pointer (some ⟨p.pb, 0, none⟩)] 1 (Nat.zero_le _) (by unfold maxLen; omega) rfl
  rw [World.size_alloc] at o2
  refine ⟨fun k => if k = W.heap.size then 0 else if k = W.heap.size + 1 then 1 else 2, ⟨o1.alloc _, o2, fun j q hq => ?_, fun j q k hq hk => ?_, fun k e => ?_, fun k e => ?_, fun k hk => ?_, kp.trans k1, by simp⟩⟩
  · obtain ⟨_, rfl⟩ := hget j q hq; exact hp.new k1
  · obtain ⟨rfl, rfl⟩ := hget j q hq
    have := hl k hk
    simp only [if_neg (show ¬ k = W.heap.size by omega), if_neg (show ¬ k = W.heap.size + 1 by omega)]
  · cases e; simp
  · cases e; simp
  · have := kp.size
    rcases hk with hk | hk | ⟨j, q, hq, hk⟩
    · cases hk; exact this
    · cases hk; show w.heap.size ≤ W.heap.size + 1; omega
    · obtain ⟨_, rfl⟩ := hget j q hq; exact hlo k hk

theorem PS.at2 {w W : World} {ρ : Nat → Nat} {ps : List Wd} {gl cl gt ct N N' : Nat} (h : PS w W ρ (.slice (some ⟨gl, 0, none⟩) N cl) (.slice (some ⟨gt, 0, none⟩) N' ct) ps) : (∀ (i : Nat) (p : Wd), ps[i]? = some p → W.cell? ⟨gl, i, none⟩ = some (.pointer (some ⟨p.pb, 0, none⟩)) ∧ W.cell? ⟨gt, i, none⟩ = some (.pointer (some ⟨p.rb, 0, none⟩))) ∧ (∀ (i : Nat) (p : Wd), ps[i]? = some p → ¬ p.Blk gl ∧ ¬ p.Blk gt) := by
  obtain ⟨gl', cl', gt', ct', el, et, h1, h2⟩ := h.at_
  cases el
  cases et
  exact ⟨h1, h2⟩

theorem set_get {ps : List Wd} {t : Nat} {p q : Wd} (h : ps[t]? = some p) : (ps.set t q)[t]? = some q := by
  rw [List.getElem?_set, if_pos rfl, if_pos (List.getElem?_eq_some_iff.1 h).1]
theorem who_of (who : Int) {l : Nat} (h0 : 0 < l) (h1 : l ≤ 1048577) : ∃ q : Nat, q < l ∧ wrap64 ((IntKind.u64.wrap who).tmod (l : Int)) = (q : Int) := by
  have e : IntKind.u64.wrap who = who % 18446744073709551616 := by
    unfold IntKind.wrap
    simp [IntKind.signed, IntKind.bits]
  have hn : 0 ≤ IntKind.u64.wrap who := by rw [e]; omega
  have h2 : (IntKind.u64.wrap who).tmod (l : Int) = (IntKind.u64.wrap who) % (l : Int) := Int.tmod_eq_emod_of_nonneg hn
  have h3 := Int.emod_nonneg (IntKind.u64.wrap who) (b := (l : Int)) (by omega)
  have h4 := Int.emod_lt_of_pos (IntKind.u64.wrap who) (b := (l : Int)) (by omega)
  rw [h2]
  generalize IntKind.u64.wrap who % (l : Int) = r at h3 h4
  refine ⟨r.toNat, by omega, ?_⟩
  unfold wrap64
  omega

theorem lptrInfo : (Try.prog.info? 23).map (fun i => (i.zero, i.size, i.bytes)) = some (some (.pointer none), 1, 8) := by kernel_rfl
theorem rptrInfo : (Try.prog.info? 27).map (fun i => (i.zero, i.size, i.bytes)) = some (some (.pointer none), 1, 8) := by kernel_rfl
theorem underL : Try.prog.underlying 26 = some (.slice 23) := by kernel_rfl
theorem underR : Try.prog.underlying 29 = some (.slice 27) := by kernel_rfl
theorem app_l {W : World} {v : Value} {n : Nat} {xs : List Value} (own : W.ownsRow 0 23 1 v n xs) (hn : n ≤ 1048577) (b : Nat) :
    ∃ v' W', (Builtin.append_ #[26, 26] 26 #[v, .slice (some ⟨W.heap.size, 0, none⟩) 1 1]).run Try.prog (W.alloc (.cells #[.pointer (some ⟨b, 0, none⟩)] 23)) = .ok v' W' ∧ W'.ownsRow 0 23 1 v' (n + 1) (xs ++ [.pointer (some ⟨b, 0, none⟩)]) ∧ (W.alloc (.cells #[.pointer (some ⟨b, 0, none⟩)] 23)).grownBy W' v.ownBlock ∧ (v'.ownBlock = v.ownBlock ∨ v'.ownBlock = some (W.alloc (.cells #[.pointer (some ⟨b, 0, none⟩)] 23)).heap.size) := by
  obtain ⟨i0, hi0, hz0, hz1, hz2⟩ := info_parts lptrInfo
  obtain ⟨v', w', hr, ho, hg, _, h5⟩ := run_append_own_at (P := Try.prog) (w := W.alloc (.cells #[.pointer (some ⟨b, 0, none⟩)] 23)) 0 26 26 23 i0 _ 1 8 underL hi0 hz0 hz1 hz2 rfl (by decide) v n xs (own.alloc _) ⟨W.heap.size, 0, none⟩ 1 1 [.pointer (some ⟨b, 0, none⟩)] rfl (fun j u e => by
    cases j with
    | zero => simp at e; subst e; exact cell_cells (heap_alloc_new W _) rfl
    | succ j => simp at e) (fun u hu => by simp at hu; subst hu; rfl) (by unfold maxLen; omega) (by omega) (Nat.zero_le _)
  exact ⟨v', w', hr, ho, hg, h5⟩
theorem app_r {W : World} {v : Value} {n : Nat} {xs : List Value} (own : W.ownsRow 0 27 1 v n xs) (hn : n ≤ 1048577) (b : Nat) :
    ∃ v' W', (Builtin.append_ #[29, 29] 29 #[v, .slice (some ⟨W.heap.size, 0, none⟩) 1 1]).run Try.prog (W.alloc (.cells #[.pointer (some ⟨b, 0, none⟩)] 27)) = .ok v' W' ∧ W'.ownsRow 0 27 1 v' (n + 1) (xs ++ [.pointer (some ⟨b, 0, none⟩)]) ∧ (W.alloc (.cells #[.pointer (some ⟨b, 0, none⟩)] 27)).grownBy W' v.ownBlock ∧ (v'.ownBlock = v.ownBlock ∨ v'.ownBlock = some (W.alloc (.cells #[.pointer (some ⟨b, 0, none⟩)] 27)).heap.size) := by
  obtain ⟨i0, hi0, hz0, hz1, hz2⟩ := info_parts rptrInfo
  obtain ⟨v', w', hr, ho, hg, _, h5⟩ := run_append_own_at (P := Try.prog) (w := W.alloc (.cells #[.pointer (some ⟨b, 0, none⟩)] 27)) 0 29 29 27 i0 _ 1 8 underR hi0 hz0 hz1 hz2 rfl (by decide) v n xs (own.alloc _) ⟨W.heap.size, 0, none⟩ 1 1 [.pointer (some ⟨b, 0, none⟩)] rfl (fun j u e => by
    cases j with
    | zero => simp at e; subst e; exact cell_cells (heap_alloc_new W _) rfl
    | succ j => simp at e) (fun u hu => by simp at hu; subst hu; rfl) (by unfold maxLen; omega) (by omega) (Nat.zero_le _)
  exact ⟨v', w', hr, ho, hg, h5⟩

end Go.Proofs.Ytepolcnplchfbaa
