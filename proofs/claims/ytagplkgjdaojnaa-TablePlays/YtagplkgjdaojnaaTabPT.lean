import Derived.Test.YtagplkgjdaojnaaTabPS
import Derived.Test.YtagplkgjdaojnaaTabOpen
namespace Go.Proofs.Ytagplkgjdaojnaa
open Go.RowKit

theorem PS.at2 {w W : World} {ρ : Nat → Nat} {ps : List Pr} {gl cl gt ct N N' : Nat} (h : PS w W ρ (.slice (some ⟨gl, 0, none⟩) N cl) (.slice (some ⟨gt, 0, none⟩) N' ct) ps) : (∀ (i : Nat) (p : Pr), ps[i]? = some p → W.cell? ⟨gl, i, none⟩ = some (.pointer (some ⟨p.T.tb, 0, none⟩)) ∧ W.cell? ⟨gt, i, none⟩ = some (.pointer (some ⟨p.rb, 0, none⟩))) ∧ (∀ (i : Nat) (p : Pr), ps[i]? = some p → ¬ p.Blk gl ∧ ¬ p.Blk gt) := by
  obtain ⟨gl', cl', gt', ct', el, et, h1, h2⟩ := h.at_
  cases el
  cases et
  exact ⟨h1, h2⟩

theorem set_get {ps : List Pr} {t : Nat} {p q : Pr} (h : ps[t]? = some p) : (ps.set t q)[t]? = some q := by
  rw [List.getElem?_set, if_pos rfl, if_pos (List.getElem?_eq_some_iff.1 h).1]
theorem cell_cells {w : World} {b o : Nat} {cs : Array Value} {t : TypeId} {v : Value} (h : w.heap[b]? = some (.cells cs t (0, 0))) (hv : cs[o]? = some v) : w.cell? ⟨b, o, none⟩ = some v := by
  simp [World.cell?, h, hv]
theorem lptrInfo : (Try.prog.info? 22).map (fun i => (i.zero, i.size, i.bytes)) = some (some (.pointer none), 1, 8) := by kernel_rfl
theorem rptrInfo : (Try.prog.info? 52).map (fun i => (i.zero, i.size, i.bytes)) = some (some (.pointer none), 1, 8) := by kernel_rfl
theorem underL : Try.prog.underlying 51 = some (.slice 22) := by kernel_rfl
theorem underR : Try.prog.underlying 54 = some (.slice 52) := by kernel_rfl
theorem app_l {W : World} {v : Value} {n : Nat} {xs : List Value} (own : W.ownsRow 0 22 1 v n xs) (hn : n ≤ 4398046511300) (b : Nat) :
    ∃ v' W', (Builtin.append_ #[51, 51] 51 #[v, .slice (some ⟨W.heap.size, 0, none⟩) 1 1]).run Try.prog (W.alloc (.cells #[.pointer (some ⟨b, 0, none⟩)] 22)) = .ok v' W' ∧ W'.ownsRow 0 22 1 v' (n + 1) (xs ++ [.pointer (some ⟨b, 0, none⟩)]) ∧ (W.alloc (.cells #[.pointer (some ⟨b, 0, none⟩)] 22)).grownBy W' v.ownBlock ∧ (v'.ownBlock = v.ownBlock ∨ v'.ownBlock = some (W.alloc (.cells #[.pointer (some ⟨b, 0, none⟩)] 22)).heap.size) := by
  obtain ⟨i0, hi0, hz0, hz1, hz2⟩ := info_parts lptrInfo
  obtain ⟨v', w', hr, ho, hg, _, h5⟩ := run_append_own_at (P := Try.prog) (w := W.alloc (.cells #[.pointer (some ⟨b, 0, none⟩)] 22)) 0 51 51 22 i0 _ 1 8 underL hi0 hz0 hz1 hz2 rfl (by decide) v n xs (own.alloc _) ⟨W.heap.size, 0, none⟩ 1 1 [.pointer (some ⟨b, 0, none⟩)] rfl (fun j u e => by
    cases j with
    | zero => simp at e; subst e; exact cell_cells (heap_alloc_new W _) rfl
    | succ j => simp at e) (fun u hu => by simp at hu; subst hu; rfl) (by unfold maxLen; omega) (by omega) (Nat.zero_le _)
  exact ⟨v', w', hr, ho, hg, h5⟩
theorem app_r {W : World} {v : Value} {n : Nat} {xs : List Value} (own : W.ownsRow 0 52 1 v n xs) (hn : n ≤ 4398046511300) (b : Nat) :
    ∃ v' W', (Builtin.append_ #[54, 54] 54 #[v, .slice (some ⟨W.heap.size, 0, none⟩) 1 1]).run Try.prog (W.alloc (.cells #[.pointer (some ⟨b, 0, none⟩)] 52)) = .ok v' W' ∧ W'.ownsRow 0 52 1 v' (n + 1) (xs ++ [.pointer (some ⟨b, 0, none⟩)]) ∧ (W.alloc (.cells #[.pointer (some ⟨b, 0, none⟩)] 52)).grownBy W' v.ownBlock ∧ (v'.ownBlock = v.ownBlock ∨ v'.ownBlock = some (W.alloc (.cells #[.pointer (some ⟨b, 0, none⟩)] 52)).heap.size) := by
  obtain ⟨i0, hi0, hz0, hz1, hz2⟩ := info_parts rptrInfo
  obtain ⟨v', w', hr, ho, hg, _, h5⟩ := run_append_own_at (P := Try.prog) (w := W.alloc (.cells #[.pointer (some ⟨b, 0, none⟩)] 52)) 0 54 54 52 i0 _ 1 8 underR hi0 hz0 hz1 hz2 rfl (by decide) v n xs (own.alloc _) ⟨W.heap.size, 0, none⟩ 1 1 [.pointer (some ⟨b, 0, none⟩)] rfl (fun j u e => by
    cases j with
    | zero => simp at e; subst e; exact cell_cells (heap_alloc_new W _) rfl
    | succ j => simp at e) (fun u hu => by simp at hu; subst hu; rfl) (by unfold maxLen; omega) (by omega) (Nat.zero_le _)
  exact ⟨v', w', hr, ho, hg, h5⟩

theorem who_of (who : Int) {l : Nat} (h0 : 0 < l) (h1 : l ≤ 4398046511300) : ∃ q : Nat, q < l ∧ wrap64 ((IntKind.u64.wrap who).tmod (l : Int)) = (q : Int) := by
  have e : IntKind.u64.wrap who = who % 18446744073709551616 := by
    unfold IntKind.wrap
    simp [IntKind.signed, IntKind.bits]
  have hn : 0 ≤ IntKind.u64.wrap who := by rw [e]; omega
  have h2 : (IntKind.u64.wrap who).tmod (l : Int) = (IntKind.u64.wrap who) % (l : Int) := Int.tmod_eq_emod_of_nonneg hn
  have h3 := Int.emod_nonneg (IntKind.u64.wrap who) (b := (l : Int)) (by omega)
  have h4 := Int.emod_lt_of_pos (IntKind.u64.wrap who) (b := (l : Int)) (by omega)
  rw [h2]
  generalize IntKind.u64.wrap who % (l : Int) = r at h3 h4
  refine ⟨r.toNat, by omega, ?_⟩
  unfold wrap64
  omega


/-- The two first pairs. -/
theorem PS.start2 {w W1 W4 : World} {tb0 tb1 rb0 rb1 : Nat} (h0 : PrI W4 ⟨⟨tb0, .slice none 0 0, none, .slice none 0 0⟩, rb0, .slice none 0 0, []⟩) (h1 : PrI W4 ⟨⟨tb1, .slice none 0 0, none, .slice none 0 0⟩, rb1, .slice none 0 0, []⟩)
    (kp : Keeps (fun _ => False) w W1) (k14 : Keeps (fun _ => False) (W1.alloc (.cells #[.pointer (some ⟨tb0, 0, none⟩), .pointer (some ⟨tb1, 0, none⟩)] 22)) W4) (n1 : w.heap.size ≤ tb1) (n2 : tb1 < tb0) (n3 : tb0 < W1.heap.size) (n4 : W1.heap.size < rb0) (n5 : rb0 < rb1) (n6 : rb1 < W4.heap.size) :
    ∃ ρ, PS w (W4.alloc (.cells #[.pointer (some ⟨rb0, 0, none⟩), .pointer (some ⟨rb1, 0, none⟩)] 52)) ρ (.slice (some ⟨W1.heap.size, 0, none⟩) 2 2) (.slice (some ⟨W4.heap.size, 0, none⟩) 2 2) [⟨⟨tb0, .slice none 0 0, none, .slice none 0 0⟩, rb0, .slice none 0 0, []⟩, ⟨⟨tb1, .slice none 0 0, none, .slice none 0 0⟩, rb1, .slice none 0 0, []⟩] := by
  have kA : Keeps (fun _ => False) W4 (W4.alloc (.cells #[.pointer (some ⟨rb0, 0, none⟩), .pointer (some ⟨rb1, 0, none⟩)] 52)) := (Keeps.refl _ W4).alloc _
  have o1 := World.ownsRow_lit (base := 0) (e := 22) (size := 1) W1 #[.pointer (some ⟨tb0, 0, none⟩), .pointer (some ⟨tb1, 0, none⟩)] 2 (Nat.zero_le _) (by unfold maxLen; omega) rfl
  have o2 := World.ownsRow_lit (base := 0) (e := 52) (size := 1) W4 #[.pointer (some ⟨rb0, 0, none⟩), .pointer (some ⟨rb1, 0, none⟩)] 2 (Nat.zero_le _) (by unfold maxLen; omega) rfl
  have hb : ∀ (a b k : Nat), (⟨⟨a, .slice none 0 0, none, .slice none 0 0⟩, b, .slice none 0 0, []⟩ : Pr).Blk k → k = a ∨ k = b := fun a b k hk => by
    rcases hk with (e | e | e | e) | (e | e)
    · exact .inl e
    · cases e
    · cases e
    · cases e
    · exact .inr e
    · cases e
  have hget : ∀ (j : Nat) (q : Pr), ([⟨⟨tb0, .slice none 0 0, none, .slice none 0 0⟩, rb0, .slice none 0 0, []⟩, ⟨⟨tb1, .slice none 0 0, none, .slice none 0 0⟩, rb1, .slice none 0 0, []⟩] : List Pr)[j]? = some q → (j = 0 ∧ q = ⟨⟨tb0, .slice none 0 0, none, .slice none 0 0⟩, rb0, .slice none 0 0, []⟩) ∨ (j = 1 ∧ q = ⟨⟨tb1, .slice none 0 0, none, .slice none 0 0⟩, rb1, .slice none 0 0, []⟩) := fun j q hq => by
    have hj : j < 2 := (List.getElem?_eq_some_iff.1 hq).1
    rcases (by omega : j = 0 ∨ j = 1) with rfl | rfl
    · simp at hq; exact .inl ⟨rfl, hq.symm⟩
    · simp at hq; exact .inr ⟨rfl, hq.symm⟩
  have s1 := kp.size
  refine ⟨fun k => if k = W1.heap.size then 0 else if k = W4.heap.size then 1 else if k = tb0 ∨ k = rb0 then 2 else 3, ⟨kA.owns (k14.owns o1 (fun _ _ e => e)) (fun _ _ e => e), o2, fun j q hq => ?_, fun j q k hq hk => ?_, fun k e => ?_, fun k e => ?_, fun k hk => ?_, ((kp.alloc _).trans k14).trans kA, by simp⟩⟩
  · rcases hget j q hq with ⟨_, rfl⟩ | ⟨_, rfl⟩
    · exact h0.new kA
    · exact h1.new kA
  · rcases hget j q hq with ⟨rfl, rfl⟩ | ⟨rfl, rfl⟩
    · have := hb _ _ _ hk
      simp only [if_neg (show ¬ k = W1.heap.size by omega), if_neg (show ¬ k = W4.heap.size by omega), if_pos this]
    · have := hb _ _ _ hk
      simp only [if_neg (show ¬ k = W1.heap.size by omega), if_neg (show ¬ k = W4.heap.size by omega), if_neg (show ¬ (k = tb0 ∨ k = rb0) by omega)]
  · cases e; simp
  · cases e
    have : ¬ W4.heap.size = W1.heap.size := by omega
    simp [this]
  · rcases hk with hk | hk | ⟨j, q, hq, hk⟩
    · cases hk; exact s1
    · cases hk; show w.heap.size ≤ W4.heap.size; omega
    · rcases hget j q hq with ⟨_, rfl⟩ | ⟨_, rfl⟩
      · have := hb _ _ _ hk; omega
      · have := hb _ _ _ hk; omega
end Go.Proofs.Ytagplkgjdaojnaa
