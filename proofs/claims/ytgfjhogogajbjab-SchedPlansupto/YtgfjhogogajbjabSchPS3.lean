import Derived.Test.YtgfjhogogajbjabSchPS2
namespace Go.Proofs.Ytgfjhogogajbjab
open Go.RowKit Go.Shelf

/-- The first pair. -/
theorem PS.start {w W : World} {p : Pr} (hp : PrI W p) (kp : Keeps (fun _ => False) w W) (hlo : ∀ k, p.Blk k → w.heap.size ≤ k) :
    ∃ ρ, PS w ((W.alloc (.cells #[.pointer (some ⟨p.pb, 0, none⟩)] 24)).alloc (.cells #[.pointer (some ⟨p.rb, 0, none⟩)] 56)) ρ (.slice (some ⟨W.heap.size, 0, none⟩) 1 1) (.slice (some ⟨W.heap.size + 1, 0, none⟩) 1 1) [p] := by
  have k1 : Keeps (fun _ => False) W ((W.alloc (.cells #[.pointer (some ⟨p.pb, 0, none⟩)] 24)).alloc (.cells #[.pointer (some ⟨p.rb, 0, none⟩)] 56)) := ((Keeps.refl _ W).alloc _).alloc _
  have hl : ∀ k, p.Blk k → k < W.heap.size := fun k hk => hp.lt hk
  have hget : ∀ (j : Nat) (q : Pr), [p][j]? = some q → j = 0 ∧ q = p := fun j q hq => by
    cases j with
    | zero => simp at hq; exact ⟨rfl, hq.symm⟩
    | succ j => simp at hq
  have o2 := World.ownsRow_lit (base := 0) (e := 56) (size := 1) (W.alloc (.cells #[.pointer (some ⟨p.pb, 0, none⟩)] 24)) #[.pointer (some ⟨p.rb, 0, none⟩)] 1 (Nat.zero_le _) (by unfold maxLen; omega) rfl
  have o1 := World.ownsRow_lit (base := 0) (e := 24) (size := 1) W #[.pointer (some ⟨p.pb, 0, none⟩)] 1 (Nat.zero_le _) (by unfold maxLen; omega) rfl
  rw [World.size_alloc] at o2
  refine ⟨fun k => if k = W.heap.size then 0 else if k = W.heap.size + 1 then 1 else 2, ⟨o1.alloc _, o2, fun j q hq => ?_, fun j q k hq hk => ?_, fun k e => ?_, fun k e => ?_, fun k hk => ?_, kp.trans k1, by simp⟩⟩
  · obtain ⟨_, rfl⟩ := hget j q hq; exact hp.new k1
  · obtain ⟨rfl, rfl⟩ := hget j q hq
    have := hl k hk
    simp only [if_neg (show ¬ k = W.heap.size by omega), if_neg (show ¬ k = W.heap.size + 1 by omega)]
  · cases e; simp
  · cases e; simp
  · have := kp.size
    rcases hk with hk | hk | ⟨j, q, hq, hk⟩
    · cases hk; exact this
    · cases hk; show w.heap.size ≤ W.heap.size + 1; omega
    · obtain ⟨_, rfl⟩ := hget j q hq; exact hlo k hk

theorem PS.at2 {w W : World} {ρ : Nat → Nat} {ps : List Pr} {gl cl gt ct N N' : Nat} (h : PS w W ρ (.slice (some ⟨gl, 0, none⟩) N cl) (.slice (some ⟨gt, 0, none⟩) N' ct) ps) : (∀ (i : Nat) (p : Pr), ps[i]? = some p → W.cell? ⟨gl, i, none⟩ = some (.pointer (some ⟨p.pb, 0, none⟩)) ∧ W.cell? ⟨gt, i, none⟩ = some (.pointer (some ⟨p.rb, 0, none⟩))) ∧ (∀ (i : Nat) (p : Pr), ps[i]? = some p → ¬ p.Blk gl ∧ ¬ p.Blk gt) := by
  obtain ⟨gl', cl', gt', ct', el, et, h1, h2⟩ := h.at_
  cases el
  cases et
  exact ⟨h1, h2⟩

theorem size_drew (w : World) : w.drew.heap.size = w.heap.size := rfl
theorem set_get {ps : List Pr} {t : Nat} {p q : Pr} (h : ps[t]? = some p) : (ps.set t q)[t]? = some q := by
  rw [List.getElem?_set, if_pos rfl, if_pos (List.getElem?_eq_some_iff.1 h).1]
/-- A copy of the picks. -/
theorem pick_app1 {W0 W : World} (k : Keeps (fun _ => False) W0 W) {g0 : Nat} (hg : W.heap[g0]? = some (.cells #[] 2 (0, 0))) (hg0 : W0.heap.size ≤ g0) {pa : Option Addr} {pl : Nat} {z : Nat → Int} (nl : NL W0 pa pl z) (hb : pl ≤ 1048576) (pc : Nat) :
    ∃ v1 W1, (Builtin.append_ #[22, 22] 22 #[.slice (some ⟨g0, 0, none⟩) 0 0, .slice pa pl pc]).run Try.prog W = .ok v1 W1 ∧ W1.ownsRow W0.heap.size 2 1 v1 pl (nums z pl) ∧ v1 ≠ .slice none 0 0 ∧ Keeps (fun _ => False) W0 W1 ∧ Keeps (fun i => i = g0) W W1 := by
  have own : W.ownsRow W0.heap.size 2 1 (.slice (some ⟨g0, 0, none⟩) 0 0) 0 (nums z 0) := ⟨rfl, .inr ⟨g0, 0, #[], rfl, hg0, hg, Nat.le_refl _, by unfold maxLen; omega, rfl, rfl⟩⟩
  obtain ⟨v1, W1, h1, h2, h3, h4⟩ := appendNl (cap := pc) own (by simp) (nl.new k) (by omega) k.size
  have e : nums (catz z 0 z) (0 + pl) = nums z pl := by
    rw [Nat.zero_add]
    have : catz z 0 z = z := by funext i; simp [catz]
    rw [this]
  rw [e, Nat.zero_add] at h2
  exact ⟨v1, W1, h1, h2, h4, k.trans' h3 (fun _ _ e => e) (fun i hi e => by simp [Value.ownBlock] at e; omega), h3.mono (fun i _ e => by simp [Value.ownBlock] at e; exact e.symm)⟩
theorem pick_app2 {W0 W : World} {v1 : Value} {pl : Nat} {z : Nat → Int} (own : W.ownsRow W0.heap.size 2 1 v1 pl (nums z pl)) (_hv : v1 ≠ .slice none 0 0) (k : Keeps (fun _ => False) W0 W) {gm : Nat} (hm : W.cell? ⟨gm, 0, none⟩ = some (.int .i64 (-77))) (hb : pl ≤ 1048576) :
    ∃ g cap W2, (Builtin.append_ #[22, 22] 22 #[v1, .slice (some ⟨gm, 0, none⟩) 1 1]).run Try.prog W = .ok (.slice (some ⟨g, 0, none⟩) (pl + 1) cap) W2 ∧ W2.ownsRow W0.heap.size 2 1 (.slice (some ⟨g, 0, none⟩) (pl + 1) cap) (pl + 1) (nums z pl ++ [.int .i64 (-77)]) ∧ Keeps (fun _ => False) W0 W2 ∧ pl + 1 ≤ cap ∧ cap ≤ maxLen ∧ W0.heap.size ≤ g := by
  obtain ⟨i0, hi0, hz0, hz1, hz2⟩ := info_parts i64Info
  obtain ⟨v', w', hr, ho, hg, hiff, _⟩ := run_append_own_at (P := Try.prog) (w := W) W0.heap.size 22 22 2 i0 _ 1 8 under64s hi0 hz0 hz1 hz2 rfl (by decide) v1 pl (nums z pl) own ⟨gm, 0, none⟩ 1 1 [.int .i64 (-77)] rfl (fun j u e => by
    cases j with
    | zero => simp at e; subst e; exact hm
    | succ j => simp at e) (fun u hu => by simp at hu; subst hu; rfl) (by unfold maxLen; omega) (by omega) k.size
  rcases ho.2 with ⟨rfl, h0⟩ | ⟨g, cap, cur, rfl, hb', _, hc, hc2, _⟩
  · omega
  · exact ⟨g, cap, w', hr, ho, k.trans' ((Keeps.refl _ W).grown hg (S := fun i => v1.ownBlock = some i) (fun _ _ e => e)) (fun _ _ e => e) (fun i hi e => by have := ownsBase own i e; omega), hc, hc2, hb'⟩
theorem pick_cells {W : World} {base g pl cap : Nat} {z : Nat → Int} (own : W.ownsRow base 2 1 (.slice (some ⟨g, 0, none⟩) (pl + 1) cap) (pl + 1) (nums z pl ++ [.int .i64 (-77)])) : (∀ i, i < pl → W.cell? ⟨g, i, none⟩ = some (.int .i64 (z i))) ∧ W.cell? ⟨g, pl, none⟩ = some (.int .i64 (-77)) ∧ ∀ i, W.frozen? ⟨g, i, none⟩ = false := by
  have hc := own.cells (g := g) rfl
  refine ⟨fun i hi => ?_, ?_, fun i => ?_⟩
  · have := hc i (.int .i64 (z i)) (by rw [List.getElem?_append_left (by rw [nums_len]; exact hi)]; simp [nums, hi])
    rwa [add_none, Nat.zero_add] at this
  · have := hc pl (.int .i64 (-77)) (by rw [List.getElem?_append_right (by rw [nums_len]; exact Nat.le_refl _), nums_len]; simp)
    rwa [add_none, Nat.zero_add] at this
  · rcases own.2 with ⟨h, _⟩ | ⟨g', cap', cur, h, _, hg, _⟩
    · cases h
    · cases h; exact frozen_cells hg
theorem lptrInfo : (Try.prog.info? 24).map (fun i => (i.zero, i.size, i.bytes)) = some (some (.pointer none), 1, 8) := by kernel_rfl
theorem rptrInfo : (Try.prog.info? 56).map (fun i => (i.zero, i.size, i.bytes)) = some (some (.pointer none), 1, 8) := by kernel_rfl
theorem underL : Try.prog.underlying 59 = some (.slice 24) := by kernel_rfl
theorem underR : Try.prog.underlying 60 = some (.slice 56) := by kernel_rfl
theorem app_l {W : World} {v : Value} {n : Nat} {xs : List Value} (own : W.ownsRow 0 24 1 v n xs) (hn : n ≤ 1048577) (b : Nat) :
    ∃ v' W', (Builtin.append_ #[59, 59] 59 #[v, .slice (some ⟨W.heap.size, 0, none⟩) 1 1]).run Try.prog (W.alloc (.cells #[.pointer (some ⟨b, 0, none⟩)] 24)) = .ok v' W' ∧ W'.ownsRow 0 24 1 v' (n + 1) (xs ++ [.pointer (some ⟨b, 0, none⟩)]) ∧ (W.alloc (.cells #[.pointer (some ⟨b, 0, none⟩)] 24)).grownBy W' v.ownBlock ∧ (v'.ownBlock = v.ownBlock ∨ v'.ownBlock = some (W.alloc (.cells #[.pointer (some ⟨b, 0, none⟩)] 24)).heap.size) := by
  obtain ⟨i0, hi0, hz0, hz1, hz2⟩ := info_parts lptrInfo
  obtain ⟨v', w', hr, ho, hg, _, h5⟩ := run_append_own_at (P := Try.prog) (w := W.alloc (.cells #[.pointer (some ⟨b, 0, none⟩)] 24)) 0 59 59 24 i0 _ 1 8 underL hi0 hz0 hz1 hz2 rfl (by decide) v n xs (own.alloc _) ⟨W.heap.size, 0, none⟩ 1 1 [.pointer (some ⟨b, 0, none⟩)] rfl (fun j u e => by
    cases j with
    | zero => simp at e; subst e; exact cell_cells (heap_alloc_new W _) rfl
    | succ j => simp at e) (fun u hu => by simp at hu; subst hu; rfl) (by unfold maxLen; omega) (by omega) (Nat.zero_le _)
  exact ⟨v', w', hr, ho, hg, h5⟩
theorem app_r {W : World} {v : Value} {n : Nat} {xs : List Value} (own : W.ownsRow 0 56 1 v n xs) (hn : n ≤ 1048577) (b : Nat) :
    ∃ v' W', (Builtin.append_ #[60, 60] 60 #[v, .slice (some ⟨W.heap.size, 0, none⟩) 1 1]).run Try.prog (W.alloc (.cells #[.pointer (some ⟨b, 0, none⟩)] 56)) = .ok v' W' ∧ W'.ownsRow 0 56 1 v' (n + 1) (xs ++ [.pointer (some ⟨b, 0, none⟩)]) ∧ (W.alloc (.cells #[.pointer (some ⟨b, 0, none⟩)] 56)).grownBy W' v.ownBlock ∧ (v'.ownBlock = v.ownBlock ∨ v'.ownBlock = some (W.alloc (.cells #[.pointer (some ⟨b, 0, none⟩)] 56)).heap.size) := by
  obtain ⟨i0, hi0, hz0, hz1, hz2⟩ := info_parts rptrInfo
  obtain ⟨v', w', hr, ho, hg, _, h5⟩ := run_append_own_at (P := Try.prog) (w := W.alloc (.cells #[.pointer (some ⟨b, 0, none⟩)] 56)) 0 60 60 56 i0 _ 1 8 underR hi0 hz0 hz1 hz2 rfl (by decide) v n xs (own.alloc _) ⟨W.heap.size, 0, none⟩ 1 1 [.pointer (some ⟨b, 0, none⟩)] rfl (fun j u e => by
    cases j with
    | zero => simp at e; subst e; exact cell_cells (heap_alloc_new W _) rfl
    | succ j => simp at e) (fun u hu => by simp at hu; subst hu; rfl) (by unfold maxLen; omega) (by omega) (Nat.zero_le _)
  exact ⟨v', w', hr, ho, hg, h5⟩

theorem who_of (who : Int) {l : Nat} (h0 : 0 < l) (h1 : l ≤ 1048577) : ∃ q : Nat, q < l ∧ wrap64 ((IntKind.u64.wrap who).tmod (l : Int)) = (q : Int) := by
  have e : IntKind.u64.wrap who = who % 18446744073709551616 := by
    unfold IntKind.wrap
    simp [IntKind.signed, IntKind.bits]
  have hn : 0 ≤ IntKind.u64.wrap who := by rw [e]; omega
  have h2 : (IntKind.u64.wrap who).tmod (l : Int) = (IntKind.u64.wrap who) % (l : Int) := Int.tmod_eq_emod_of_nonneg hn
  have h3 := Int.emod_nonneg (IntKind.u64.wrap who) (b := (l : Int)) (by omega)
  have h4 := Int.emod_lt_of_pos (IntKind.u64.wrap who) (b := (l : Int)) (by omega)
  rw [h2]
  generalize IntKind.u64.wrap who % (l : Int) = r at h3 h4
  refine ⟨r.toNat, by omega, ?_⟩
  unfold wrap64
  omega

end Go.Proofs.Ytgfjhogogajbjab
