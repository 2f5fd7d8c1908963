import Derived.Test.YtmnmphkkcabkiaaG08
import Derived.Shelf.SlSortCmp.WholeK
import Derived.Ground.SlsfProg
namespace Go.Proofs.Ytmnmphkkcabkiaa
open Go.RowKit Go.WideShapes
attribute [local go_sem] Oper.semAt_some run_store_nf run_store_f
set_option maxHeartbeats 1000000 in
set_option maxRecDepth 100000 in
theorem atell_2 {base p q z wb rb : Nat} {X : World} {t : Tv} {sv : Value} {S : Nat} {L : List Value} {R : Ending → World → Prop} {x1 x4 x5 x6 x7 x8 x9 x10 x11 x12 x13 x14 x15 x16 x17 x18 x19 x20 x21 x22 x23 x24 x25 x26 x27 x28 x29 x30 x31 x32 x33 x34 x35 x36 x37 x38 : Value} (hsv : sv.oneCell' = true) (ha : CL X p (t.cells sv nilv ++ [.map (some wb), .map (some rb)])) (hq : CL X q (t.cells sv nilv)) (hz : CL X z (tv0.cells nilv nilv)) (hqz : q ≠ z) (hsX : X.ownsRow base 44 9 sv S L) (hsb : ∀ b, sv.ownBlock = some b → b ≠ q ∧ b ≠ z)
    (HT : Calls Try.prog 43 #[.map (some wb)] X fun e w' => ∃ v, e = .returned v ∧ w'.ownsRow X.heap.size 46 4 v t.wrs.length (wcl t.wrs) ∧ Keeps (fun _ => False) X w')
    (hP : ∀ W wv, W.ownsRow base 44 9 sv S L → W.ownsRow X.heap.size 46 4 wv t.wrs.length (wcl t.wrs) → Keeps (fun b => b = q ∨ b = z) X W → R (.returned (.agg (t.cells sv wv).toArray)) W) : (atT3 Try.f25).wp Try.prog (bodyPost Try.prog Try.f25 R) { tmps := #[.pointer (some ⟨p, 0, none⟩), x1, .pointer (some ⟨z, 0, none⟩), .pointer (some ⟨q, 0, none⟩), x4, x5, x6, x7, x8, x9, x10, x11, x12, x13, x14, x15, x16, x17, x18, x19, x20, x21, x22, x23, x24, x25, x26, x27, x28, x29, x30, x31, x32, x33, x34, x35, x36, x37, x38], defers := [] } X := by
  have HP : Hid (∀ W wv, W.ownsRow base 44 9 sv S L → W.ownsRow X.heap.size 46 4 wv t.wrs.length (wcl t.wrs) → Keeps (fun b => b = q ∨ b = z) X W → R (.returned (.agg (t.cells sv wv).toArray)) W) := hP
  clear hP
  have a11 := ha.c 11 _ rfl
  have hlq := hq.lt (by show 0 < 11; decide)
  have hlz := hz.lt (by show 0 < 11; decide)
  dsimp only [atT3, Try.f25]
  refine wp_seq_k (fun KK hKK => ?_)
  have hKH : Hid _ := hKK
  clear hKK
  go_wp2_with (go_at_call 43; refine HT.mono ?_; clear HT; rintro e w1 ⟨v, rfl, hw1, k1⟩; have hq1 := hq.keep (by show 0 < 11; decide) k1 (fun e => e); have hz1 := hz.keep (by show 0 < 11; decide) k1 (fun e => e); have q10 := hq1.c 10 _ rfl; have zq10 := hq1.z 10 (by show 10 < 11; decide); have ev := own_slice hw1; obtain ⟨av, cv, rfl, -⟩ := ev)
  refine hKH.out _ _ ?_
  clear hKH KK
  have hq2 : CL (w1.setCell ⟨q, 10, none⟩ (.slice av t.wrs.length cv)) q (t.cells sv (.slice av t.wrs.length cv)) := hq1.set (o := 10) (by show 10 < 11; decide) _
  have hz2 := hz1.other (p := ⟨q, 10, none⟩) hqz (.slice av t.wrs.length cv)
  have k2 : Keeps (fun b => b = q) w1 (w1.setCell ⟨q, 10, none⟩ (.slice av t.wrs.length cv)) := (Keeps.refl (fun b => b = q) w1).setCell (p := ⟨q, 10, none⟩) (fun _ => rfl) _
  have hs2 := k2.owns (k1.owns hsX (fun _ _ e => e)) (fun b e1 e2 => (hsb b e1).1 e2)
  have hw2 := k2.owns hw1 (fun b e1 e2 => by have := owns_baseT hw1 b e1; have e2 : b = q := e2; omega)
  have kk2 : Keeps (fun b => b = q ∨ b = z) X (w1.setCell ⟨q, 10, none⟩ (.slice av t.wrs.length cv)) := (k1.mono (fun _ _ e => e.elim)).trans' k2 (fun _ _ e => e) (fun b _ e => .inl e)
  generalize w1.setCell ⟨q, 10, none⟩ (.slice av t.wrs.length cv) = W2 at *
  have hR2 := run_txB hq2
  have hOC := one_tx t (sv := sv) (wv := .slice av t.wrs.length cv) hsv rfl
  clear hq1 hz1 q10 zq10 k1 k2 a11
  go_wp2_with (first | (refine wpList_load_run rfl 42 _ rfl ⟨q, 0, none⟩ rfl _ hR2 ?_; clear hR2) | (refine wpList_store_cl rfl 42 _ _ rfl z 0 11 (t.cells sv (.slice av t.wrs.length cv)).toArray rfl rfl rfl hz2 (by show 11 ≤ 11; decide) iTx hOC ?_; intro w5 hc5 k5 hsz5; clear hsz5; have hI5 : CL w5 z (t.cells sv (.slice av t.wrs.length cv)) := hc5; have hR5 := run_txB hI5))
  exact bodyPost_ret (v := .agg (t.cells sv (.slice av t.wrs.length cv)).toArray) ((results_cell1 (p := 2) (ty := 42) rfl _ _ _).trans hR5) rfl (HP.out _ _ (k5.owns hs2 (fun b e1 e2 => (hsb b e1).2 e2)) (k5.owns hw2 (fun b e1 e2 => by have := owns_baseT hw2 b e1; have e2 : b = z := e2; omega)) (kk2.trans' k5 (fun _ _ e => e) (fun b _ e => .inr e)))
set_option maxHeartbeats 1000000 in
set_option maxRecDepth 100000 in
theorem atell_any {base p wb rb m : Nat} {w : World} {t : Tv} {sv : Value} {c : Int → Nat} (hA : PA base w p t sv wb rb c m) (hI : ∀ s ∈ t.saws, I64 s.entry) (hm : m ≤ 980000000000)
    (HT : ∀ W, MV W wb t.wrs.length (wof t.wrs) → Calls Try.prog 43 #[.map (some wb)] W fun e w' => ∃ v, e = .returned v ∧ w'.ownsRow W.heap.size 46 4 v t.wrs.length (wcl t.wrs) ∧ Keeps (fun _ => False) W w') :
    Calls Try.prog 25 #[.pointer (some ⟨p, 0, none⟩)] w fun e w' => ∃ wv, e = .returned (.agg (t.cells sv wv).toArray) ∧ w'.ownsRow base 44 9 sv t.saws.length (scl (t.saws.map (telG c))) ∧ w'.ownsRow w.heap.size 46 4 wv t.wrs.length (wcl t.wrs) ∧ Keeps (fun b => sv.ownBlock = some b) w w' := by
  obtain ⟨asl, csl, es, -⟩ := own_slice hA.s
  have hsv : sv.oneCell' = true := by rw [es]; rfl
  have hlp := hA.cl.lt (by show 0 < 13; decide)
  have hls := fun b e => owns_lt' hA.s b e
  obtain ⟨W1, hW1⟩ : ∃ W1, W1 = w.alloc (.cells #[.int .i64 0, .int .i64 0, .int .i64 0, .int .i64 0, .int .i64 0, .int .i64 0, .int .i64 0, .int .i64 0, .int .i64 0, .slice none 0 0, .slice none 0 0] 42) := ⟨_, rfl⟩
  have k1 : Keeps (fun _ => False) w W1 := by rw [hW1]; exact (Keeps.refl _ w).alloc _
  have z1 : W1.heap.size = w.heap.size + 1 := by rw [hW1]; simp
  have m1 : CL W1 w.heap.size (tv0.cells nilv nilv) := by rw [hW1]; exact CL.made w (tv0.cells nilv nilv) _
  obtain ⟨W2, hW2⟩ : ∃ W2, W2 = W1.alloc (.cells #[.int .i64 0, .int .i64 0, .int .i64 0, .int .i64 0, .int .i64 0, .int .i64 0, .int .i64 0, .int .i64 0, .int .i64 0, .slice none 0 0, .slice none 0 0] 42) := ⟨_, rfl⟩
  have k2 : Keeps (fun _ => False) W1 W2 := by rw [hW2]; exact (Keeps.refl _ W1).alloc _
  have m2 : CL W2 (w.heap.size + 1) (tv0.cells nilv nilv) := by rw [hW2, ← z1]; exact CL.made W1 (tv0.cells nilv nilv) _
  have hR1 := run_tx (W := W1) (b := p) (o := 0) (t := t) (sv := sv) (wv := nilv) (fun j v e => by
    rw [Nat.zero_add]
    exact k1.cell (hA.cl.c j v (by rw [List.getElem?_append_left (List.getElem?_eq_some_iff.1 e).1]; exact e)) (fun e => e))
  have hOC := one_tx t (sv := sv) (wv := nilv) hsv rfl
  have HA : Hid (PA base w p t sv wb rb c m) := hA
  have HW2 : Hid (W2 = W1.alloc (.cells #[.int .i64 0, .int .i64 0, .int .i64 0, .int .i64 0, .int .i64 0, .int .i64 0, .int .i64 0, .int .i64 0, .int .i64 0, .slice none 0 0, .slice none 0 0] 42)) := hW2
  have HW1 : Hid (W1 = w.alloc (.cells #[.int .i64 0, .int .i64 0, .int .i64 0, .int .i64 0, .int .i64 0, .int .i64 0, .int .i64 0, .int .i64 0, .int .i64 0, .slice none 0 0, .slice none 0 0] 42)) := hW1
  have HZ1 : Hid (W1.heap.size = w.heap.size + 1) := z1
  clear hA hW1 hW2 es z1
  go_enter Try.func25, Try.ntmps25
  refine wp_seq_k (fun KK hKK => ?_)
  have hKH : Hid _ := hKK
  clear hKK
  go_wp2_with fail
  refine hKH.out _ _ ?_
  clear hKH KK
  rw [← HW1.out]
  refine wp_seq_k (fun KK hKK => ?_)
  have hKH : Hid _ := hKK
  clear hKK
  go_wp2_with (first | (refine wpList_load_run rfl 42 _ rfl ⟨p, 0, none⟩ rfl _ hR1 ?_; clear hR1) | (rw [← HW2.out]; clear HW2; rw [HZ1.out]; refine wpList_store_cl rfl 42 _ _ rfl (w.heap.size + 1) 0 11 (t.cells sv nilv).toArray rfl rfl rfl m2 (by show 11 ≤ 11; decide) iTx hOC ?_; intro w5 hc5 k5 hsz5; have hI5 : CL w5 (w.heap.size + 1) (t.cells sv nilv) := hc5))
  refine hKH.out _ _ ?_
  clear hKH KK
  have K5 : Keeps (fun _ => False) w w5 := (k1.trans k2).trans' k5 (fun _ _ e => e) (fun i hi e => by have e : i = w.heap.size + 1 := e; omega)
  have P5 := HA.out.keep K5 (fun e => e) (fun e => e) (fun e => e) (fun _ _ e => e)
  have m5 : CL w5 w.heap.size (tv0.cells nilv nilv) := (m1.keep (by show 0 < 11; decide) k2 (fun e => e)).keep (by show 0 < 11; decide) k5 (fun e => by have e : w.heap.size = w.heap.size + 1 := e; omega)
  have hqs : ∀ b, sv.ownBlock = some b → b ≠ w.heap.size + 1 := fun b e => by have := hls b e; omega
  refine atell_1 P5 hI5 hqs hI hm ?_
  intro W6 _ _ _ _ _ _ _ _ _ _ _ _ _ _ _ _ _ _ _ _ _ _ _ _ _ _ _ _ _ _ _ _ _ _ _ _ hs6 k6
  have hnq : ¬ sv.ownBlock = some (w.heap.size + 1) := fun e => hqs _ e rfl
  have hnz : ¬ sv.ownBlock = some w.heap.size := fun e => by have := hls _ e; omega
  have hnp : ¬ sv.ownBlock = some p := fun e => (HA.out.sb _ e).1 rfl
  have hnw : ¬ sv.ownBlock = some wb := fun e => (HA.out.sb _ e).2.1 rfl
  refine atell_2 hsv (P5.cl.keep (by show 0 < 13; decide) k6 hnp) (hI5.keep (by show 0 < 11; decide) k6 hnq) (m5.keep (by show 0 < 11; decide) k6 hnz) (by omega) hs6 (fun b e => ⟨hqs b e, by have := hls b e; omega⟩) (HT _ (P5.w.keep k6 hnw)) (fun W wv h1 h2 h3 => ⟨wv, rfl, h1, owns_low h2 (Nat.le_trans K5.size k6.size), ?_⟩)
  exact ((K5.mono (fun _ _ e => e.elim)).trans' k6 (fun _ _ e => e) (fun _ _ e => e)).trans' h3 (fun _ _ e => e) (fun b hb e => by rcases e with e | e <;> omega)
end Go.Proofs.Ytmnmphkkcabkiaa

namespace Go.Proofs.Ytmnmphkkcabkiaa
open Go.RowKit
theorem folP_no {f : Nat → Int} {r : Rw} {q : Nat} (hk : r.kind ≠ 0) : folP f r q (q * 5 + 3) = r.no := by
  rw [folP_at hk (by omega) (by omega)]
  have g : fol1 f r q (q * 5 + 3) = r.no := by unfold fol1; rw [up_at]
  unfold fol2
  split
  · rw [up_ne (by omega), up_ne (by omega), up_ne (by omega), up_ne (by omega)]; exact g
  · split
    · rw [up_ne (by omega), up_ne (by omega), up_ne (by omega)]; exact g
    · split
      · rw [up_ne (by omega)]; exact g
      · exact g
theorem folP_other {f : Nat → Int} {r : Rw} {th q o : Nat} (hk : r.kind ≠ 0) (hq : q < 6) (e : q ≠ th) (ho : o < 5) : folP f r th (q * 5 + o) = f (q * 5 + o) := by
  rw [folP_at hk (by omega) (by omega)]
  have g : fol1 f r th (q * 5 + o) = f (q * 5 + o) := by unfold fol1; rw [up_ne (by omega), up_ne (by omega), up_ne (by omega)]
  unfold fol2
  split
  · rw [up_ne (by omega), up_ne (by omega), up_ne (by omega), up_ne (by omega)]; exact g
  · split
    · rw [up_ne (by omega), up_ne (by omega), up_ne (by omega)]; exact g
    · split
      · rw [up_ne (by omega)]; exact g
      · exact g
theorem fit_no {f : Nat → Int} {r : Rw} {th : Nat} (h : fitP f r th = true) (h0 : r.kind ≠ 0) (h1 : r.kind ≠ 1) (h2 : r.kind ≠ 2) : r.no = f (th * 5 + 3) ∧ f (th * 5) ≠ 0 := by
  unfold fitP at h
  rw [if_neg h0] at h
  split at h
  · cases h
  · split at h
    · simp only [Bool.and_eq_true, eq3_iff, beq_iff_eq] at h
      obtain ⟨⟨a, _, _, b⟩, _⟩ := h
      exact ⟨b, by rw [a]; decide⟩
    · simp only [Bool.and_eq_true, eq3_iff, beq_iff_eq] at h
      obtain ⟨⟨⟨⟨_, a⟩, _, _, b⟩, _⟩, _⟩ := h
      exact ⟨b, by rw [a]; decide⟩
theorem addD_stamp (t : Tv) (r : Rw) : (addD t r).stamp = t.stamp := by
  unfold addD addW addS addE addF
  repeat (first | rfl | split)
theorem stamp_inv {l : List Rw} (h : fstP l 0 (f0 6) = none) : ∀ k, k ≤ l.length → ∀ th, th < 6 → fAt l k (th * 5) ≠ 0 → ((txK l k).1.getD (fAt l k (th * 5 + 3) - 1).toNat tv0).stamp = (txK l k).2 th
  | 0, _, th, ht, h0 => by
    refine absurd ?_ h0
    show f0 6 (th * 5) = 0
    unfold f0
    rw [if_neg (by omega)]
  | k + 1, hk, th, ht, h0 => by
    have ih := stamp_inv h k (by omega) th ht
    have hvi := txK_vi h k (by omega)
    have hfit := (row_ok h (show k < l.length by omega)).2
    have hro := hvi.row hfit
    show ((stT (txK l k) (l.getD k rw0)).1.getD (folP (fAt l k) (l.getD k rw0) (l.getD k rw0).thread.toNat (th * 5 + 3) - 1).toNat tv0).stamp = (stT (txK l k) (l.getD k rw0)).2 th
    have h0' : folP (fAt l k) (l.getD k rw0) (l.getD k rw0).thread.toNat (th * 5) ≠ 0 := h0
    clear h0
    generalize l.getD k rw0 = r at *
    generalize txK l k = s at *
    generalize fAt l k = f at *
    by_cases hk0 : r.kind = 0
    · have e1 : folP f r r.thread.toNat = f := by unfold folP; rw [if_pos hk0]
      have e2 : stT s r = s := by
        unfold stT
        rw [if_neg (by omega), if_neg (by omega), if_neg (by rw [hk0]; decide)]
      rw [e1] at h0' ⊢
      rw [e2]
      exact ih h0'
    have hth := hro.th hk0
    obtain ⟨tr, etr⟩ : ∃ tr, r.thread.toNat = tr := ⟨_, rfl⟩
    have htr : tr < 6 := by omega
    rw [etr] at h0' hfit ⊢
    by_cases hq : th = tr
    · subst hq
      rw [folP_no hk0]
      by_cases h1 : r.kind = 1
      · have hno := (hro.b (.inl h1)).1
        unfold stT
        rw [if_pos h1, hno, show ((s.1.length : Int) + 1 - 1).toNat = s.1.length by omega]
        dsimp only
        rw [getD_app_right, etr, up_at]
        rfl
      by_cases h2 : r.kind = 2
      · have hno := (hro.b (.inr h2)).1
        unfold stT
        rw [if_neg h1, if_pos h2, hno, show ((s.1.length : Int) + 1 - 1).toNat = s.1.length by omega]
        dsimp only
        rw [getD_app_right, etr]
        rfl
      obtain ⟨hno, hst⟩ := fit_no hfit hk0 h1 h2
      have ih := ih hst
      rw [← hno] at ih
      unfold stT
      rw [if_neg h1, if_neg h2]
      by_cases hof : ofD r.kind = true
      · rw [if_pos hof]
        dsimp only
        have hb := hro.o hof
        rw [getD_set_eq (by omega), addD_stamp]
        exact ih
      · rw [if_neg hof]
        exact ih
    · have e0 := folP_other (f := f) (r := r) (o := 0) hk0 ht hq (by omega)
      rw [Nat.add_zero] at e0
      rw [e0] at h0'
      rw [folP_other hk0 ht hq (by omega)]
      have ih := ih h0'
      have hb := hvi.t th ht h0'
      unfold stT
      by_cases h1 : r.kind = 1
      · rw [if_pos h1]
        dsimp only
        rw [getD_app_left (by omega), etr, up_ne hq]
        exact ih
      rw [if_neg h1]
      by_cases h2 : r.kind = 2
      · rw [if_pos h2]
        dsimp only
        rw [getD_app_left (by omega)]
        exact ih
      rw [if_neg h2]
      by_cases hof : ofD r.kind = true
      · rw [if_pos hof]
        dsimp only
        by_cases e : (f (th * 5 + 3) - 1).toNat = (r.no - 1).toNat
        · rw [← e, getD_set_eq (by omega), addD_stamp]
          exact ih
        · rw [getD_set_ne e]
          exact ih
      · rw [if_neg hof]
        exact ih
end Go.Proofs.Ytmnmphkkcabkiaa

/-
  DERIVED: THE SHELF's CONTRACTS AT THIS DUMP, IN PLAIN WORDS (tools/lay-plain.mjs out of 'YtmnmphkkcabkiaaHtXSrc.lean', which tools/lay-shelf.mjs wrote): THE SAME DECLARATIONS UNDER THE SAME NAMES: 'import', 'namespace', 'open', 'def', 'theorem' AND NOTHING ELSE: no command of the shelf's: FOR A HAND-IN. Each laying: the table of numbers ('.._ren') and one theorem, a field a fact of the dump's own or the kernel's comparison; each contract: ONE APPLICATION.
-/
namespace Go.Proofs
open Go.Shelf
def Try.sortW_ren : Go.Shelf.Ren := ⟨fun | 6 => 57 | 15 => 63 | 14 => 62 | 28 => 73 | 29 => 74 | 20 => 65 | 21 => 66 | 22 => 67 | 23 => 68 | 24 => 69 | 25 => 70 | 26 => 71 | 27 => 72 | 46 => 75 | 47 => 76 | 48 => 77 | 49 => 78 | 50 => 79 | 57 => 80 | n => n, fun | 22 => 40 | 24 => 46 | 25 => 118 | 3 => 3 | 39 => 125 | 0 => 0 | 53 => 135 | 55 => 137 | 4 => 4 | 46 => 128 | 45 => 127 | 50 => 132 | 5 => 5 | 9 => 9 | 66 => 138 | 70 => 142 | 76 => 144 | 77 => 84 | n => n, fun | n => n⟩
theorem Try.sortW : Go.Proofs.SlLaysF0.n6 Try.prog Try.sortW_ren := {
  mixed := by kernel_rfl
  f6 := ⟨Try.f57.name, by decide, Try.func57.trans (congrArg some (by kernel_rfl))⟩
  f14 := ⟨Try.f62.name, by decide, Try.func62.trans (congrArg some (by kernel_rfl))⟩
  f15 := Try.func63.trans (congrArg some (by kernel_rfl))
  f20 := ⟨Try.f65.name, by decide, Try.func65.trans (congrArg some (by kernel_rfl))⟩
  f21 := ⟨Try.f66.name, by decide, Try.func66.trans (congrArg some (by kernel_rfl))⟩
  f22 := ⟨Try.f67.name, by decide, Try.func67.trans (congrArg some (by kernel_rfl))⟩
  f23 := ⟨Try.f68.name, by decide, Try.func68.trans (congrArg some (by kernel_rfl))⟩
  f24 := ⟨Try.f69.name, by decide, Try.func69.trans (congrArg some (by kernel_rfl))⟩
  f25 := ⟨Try.f70.name, by decide, Try.func70.trans (congrArg some (by kernel_rfl))⟩
  f26 := ⟨Try.f71.name, by decide, Try.func71.trans (congrArg some (by kernel_rfl))⟩
  f27 := ⟨Try.f72.name, by decide, Try.func72.trans (congrArg some (by kernel_rfl))⟩
  f28 := Try.func73.trans (congrArg some (by kernel_rfl))
  f29 := Try.func74.trans (congrArg some (by kernel_rfl))
  f46 := ⟨Try.f75.name, by decide, Try.func75.trans (congrArg some (by kernel_rfl))⟩
  f47 := Try.func76.trans (congrArg some (by kernel_rfl))
  f48 := Try.func77.trans (congrArg some (by kernel_rfl))
  f49 := ⟨Try.f78.name, by decide, Try.func78.trans (congrArg some (by kernel_rfl))⟩
  f50 := ⟨Try.f79.name, by decide, Try.func79.trans (congrArg some (by kernel_rfl))⟩
  f57 := ⟨Try.f80.name, by decide, Try.func80.trans (congrArg some (by kernel_rfl))⟩
  t0 := Try.underlying0
  a0 := Try.isAgg0
  z0 := Try.sizeOf0
  v0 := Try.zeroValue0
  t3 := Try.underlying3
  a3 := Try.isAgg3
  z3 := Try.sizeOf3
  v3 := Try.zeroValue3
  t4 := Try.underlying4
  a4 := Try.isAgg4
  z4 := Try.sizeOf4
  v4 := Try.zeroValue4
  t5 := Try.underlying5
  a5 := Try.isAgg5
  z5 := Try.sizeOf5
  v5 := Try.zeroValue5
  t9 := Try.underlying9
  a9 := Try.isAgg9
  z9 := Try.sizeOf9
  v9 := Try.zeroValue9
  t22 := Try.underlying40
  a22 := Try.isAgg40
  z22 := Try.sizeOf40
  v22 := Try.zeroValue40
  t25 := Try.underlying118
  a25 := Try.isAgg118
  z25 := Try.sizeOf118
  v25 := Try.zeroValue118
  t39 := Try.underlying125
  a39 := Try.isAgg125
  z39 := Try.sizeOf125
  v39 := Try.zeroValue125
  t45 := Try.underlying127
  a45 := Try.isAgg127
  z45 := Try.sizeOf127
  v45 := Try.zeroValue127
  t46 := Try.underlying128
  a46 := Try.isAgg128
  z46 := Try.sizeOf128
  v46 := Try.zeroValue128
  t50 := Try.underlying132
  a50 := Try.isAgg132
  z50 := Try.sizeOf132
  v50 := Try.zeroValue132
  t53 := Try.underlying135
  a53 := Try.isAgg135
  z53 := Try.sizeOf135
  v53 := Try.zeroValue135
  t55 := Try.underlying137
  a55 := Try.isAgg137
  z55 := Try.sizeOf137
  v55 := Try.zeroValue137
  t66 := Try.underlying138
  a66 := Try.isAgg138
  z66 := Try.sizeOf138
  v66 := Try.zeroValue138
  t70 := Try.underlying142
  a70 := Try.isAgg142
  z70 := Try.sizeOf142
  v70 := Try.zeroValue142
  t76 := Try.underlying144
  a76 := Try.isAgg144
  z76 := Try.sizeOf144
  v76 := Try.zeroValue144
  t77 := Try.underlying84
  a77 := Try.isAgg84
  z77 := Try.sizeOf84
  v77 := Try.zeroValue84 }
end Go.Proofs

namespace Go.Proofs.Ytmnmphkkcabkiaa
open Go.RowKit Go.WideShapes
theorem wof_iff {o : Int} {u : Value} : ∀ {l : List Wo}, l.Pairwise (fun x y => x.object ≠ y.object) → (wof l o = some u ↔ ∃ y ∈ l, y.object = o ∧ y.val = u)
  | [], _ => by
    refine ⟨fun h => ?_, fun ⟨_, h, _⟩ => ?_⟩
    · cases h
    · simp at h
  | x :: l, hd => by
    have h1 := (List.pairwise_cons.1 hd).1
    have ih := wof_iff (o := o) (u := u) (List.pairwise_cons.1 hd).2
    unfold wof
    by_cases e : x.object = o
    · rw [if_pos e]
      refine ⟨fun h => ⟨x, by simp, e, Option.some.inj h⟩, fun ⟨y, hy, e1, e2⟩ => ?_⟩
      rcases List.mem_cons.1 hy with rfl | hy
      · rw [e2]
      · exact absurd (e.trans e1.symm) (h1 y hy)
    · rw [if_neg e, ih]
      refine ⟨fun ⟨y, hy, r⟩ => ⟨y, by simp [hy], r⟩, fun ⟨y, hy, e1, e2⟩ => ?_⟩
      rcases List.mem_cons.1 hy with rfl | hy
      · exact absurd e1 e
      · exact ⟨y, hy, e1, e2⟩
theorem wof_perm {l m : List Wo} (p : l.Perm m) (hd : l.Pairwise (fun x y => x.object ≠ y.object)) (o : Int) : wof l o = wof m o := by
  have hm : m.Pairwise (fun x y => x.object ≠ y.object) := (p.pairwise_iff (fun {_ _} h => Ne.symm h)).1 hd
  have key : ∀ u, wof l o = some u ↔ wof m o = some u := fun u => by
    rw [wof_iff hd, wof_iff hm]
    exact ⟨fun ⟨y, hy, r⟩ => ⟨y, p.mem_iff.1 hy, r⟩, fun ⟨y, hy, r⟩ => ⟨y, p.mem_iff.2 hy, r⟩⟩
  cases h : wof l o with
  | some u => exact ((key u).1 h).symm
  | none =>
    cases h2 : wof m o with
    | none => rfl
    | some u =>
      rw [(key u).2 h2] at h
      cases h
theorem tell_eq {ws ls ms : List Wo} (hw : Inc ws) (hwi : ∀ x ∈ ws, I64 x.object) (hd : ls.Pairwise (fun x y => x.object ≠ y.object)) (hi : ∀ x ∈ ls, I64 x.object) (he : ∀ o, I64 o → wof ls o = wof ws o) (p : ls.Perm ms) (hs : ms.Pairwise (fun x y => ¬ y.object < x.object)) : ms = ws := by
  have hm : ms.Pairwise (fun x y => x.object ≠ y.object) := (p.pairwise_iff (fun {_ _} h => Ne.symm h)).1 hd
  have hinc : Inc ms := (hm.and hs).imp (fun {_ _} e => by have := e.1; have := e.2; omega)
  refine Inc.ext hinc hw (fun o => ?_)
  rw [← wof_perm p hd o]
  by_cases ho : I64 o
  · exact he o ho
  · have e1 : wof ls o = none := wof_none (fun y hy e => ho (by rw [← e]; exact hi y hy))
    have e2 : wof ws o = none := wof_none (fun y hy e => ho (by rw [← e]; exact hwi y hy))
    rw [e1, e2]
end Go.Proofs.Ytmnmphkkcabkiaa

namespace Go.Proofs.Ytmnmphkkcabkiaa
open Go.RowKit
theorem PA.more {base p wb rb m m' : Nat} {W : World} {t : Tv} {sv : Value} {c : Int → Nat} (h : PA base W p t sv wb rb c m) (hm : m ≤ m') : PA base W p t sv wb rb c m' :=
  ⟨h.cl, h.s, h.w, h.i, (by obtain ⟨n, h1, h2⟩ := h.r; exact ⟨n, by omega, h2⟩), h.n1, h.n2, h.n3, h.sb, fun k => Nat.le_trans (h.cm k) hm, Nat.le_trans h.ls.1 hm, Nat.le_trans h.ls.2 hm⟩
def pcl (pb : Nat → Nat) (n : Nat) : List Value := (List.range n).map (fun i => .pointer (some ⟨pb i, 0, none⟩))
theorem pcl_succ (pb : Nat → Nat) (n : Nat) : pcl pb (n + 1) = pcl pb n ++ [.pointer (some ⟨pb n, 0, none⟩)] := by
  unfold pcl
  rw [List.range_succ, List.map_append]
  rfl
theorem pcl_congr {pb pb' : Nat → Nat} {n : Nat} (h : ∀ i, i < n → pb i = pb' i) : pcl pb n = pcl pb' n := by
  unfold pcl
  exact List.map_congr_left (fun i hi => by rw [h i (List.mem_range.1 hi)])
structure AT (base : Nat) (W : World) (v : Value) (n : Nat) (pb : Nat → Nat) (T : Nat → Tv) (sv : Nat → Value) (wb rb : Nat → Nat) (c : Nat → Int → Nat) (ρ : Nat → Nat) (m : Nat) : Prop where
  o : W.ownsRow base 71 1 v n (pcl pb n)
  a : ∀ i, i < n → PA base W (pb i) (T i) (sv i) (wb i) (rb i) (c i) m
  r0 : ∀ b, v.ownBlock = some b → ρ b = 1
  rp : ∀ i, i < n → ρ (pb i) = 2 + 4 * i
  rw : ∀ i, i < n → ρ (wb i) = 3 + 4 * i
  rr : ∀ i, i < n → ρ (rb i) = 4 + 4 * i
  rs : ∀ i, i < n → ∀ b, (sv i).ownBlock = some b → ρ b = 5 + 4 * i
  gb : ∀ i, i < n → base ≤ pb i ∧ base ≤ wb i ∧ base ≤ rb i
  bb : base ≤ W.heap.size
theorem AT.first (W : World) (pb : Nat → Nat) (T : Nat → Tv) (sv : Nat → Value) (wb rb : Nat → Nat) (c : Nat → Int → Nat) (ρ : Nat → Nat) (m : Nat) : AT W.heap.size W (.slice none 0 0) 0 pb T sv wb rb c ρ m :=
  ⟨World.ownsRow_nil _ _ _ _, fun i hi => by omega, (fun b e => by cases e), fun i hi => by omega, fun i hi => by omega, fun i hi => by omega, fun i hi => by omega, fun i hi => by omega, Nat.le_refl _⟩
theorem AT.keepB {base n m : Nat} {W W' : World} {v : Value} {pb wb rb : Nat → Nat} {T : Nat → Tv} {sv : Nat → Value} {c : Nat → Int → Nat} {ρ : Nat → Nat} (h : AT base W v n pb T sv wb rb c ρ m) {S : Nat → Prop} (k : Keeps S W W') (hS : ∀ i, base ≤ i → i < W.heap.size → ¬ S i) : AT base W' v n pb T sv wb rb c ρ m :=
  ⟨k.owns h.o (fun b e e' => hS b (owns_baseT h.o b e) (owns_lt' h.o b e) e'), fun i hi => (h.a i hi).keep k (hS _ (h.gb i hi).1 ((h.a i hi).cl.lt (by show 0 < 13; decide))) (hS _ (h.gb i hi).2.1 (h.a i hi).w.lt) (hS _ (h.gb i hi).2.2 (by obtain ⟨_, _, h2⟩ := (h.a i hi).r; exact h2.lt)) (fun b e => hS b (owns_baseT (h.a i hi).s b e) (owns_lt' (h.a i hi).s b e)), h.r0, h.rp, h.rw, h.rr, h.rs, h.gb, Nat.le_trans h.bb k.size⟩
theorem AT.learn {base n m i : Nat} {W W' : World} {v : Value} {pb wb rb : Nat → Nat} {T : Nat → Tv} {sv : Nat → Value} {c : Nat → Int → Nat} {ρ : Nat → Nat} (h : AT base W v n pb T sv wb rb c ρ m) (hi : i < n) {t' : Tv} {sv' : Value} {c' : Int → Nat} (hf : PF base W W' (pb i) t' (sv i) sv' (wb i) (rb i) c' m) :
    AT base W' v n pb (fun j => if j = i then t' else T j) (fun j => if j = i then sv' else sv j) wb rb (fun j => if j = i then c' else c j) (fun b => if b < W.heap.size then ρ b else 5 + 4 * i) (m + 1) ∧ Keeps (fun b => base ≤ b) W W' := by
  have lp := fun j hj => (h.a j hj).cl.lt (by show 0 < 13; decide)
  have lw := fun j hj => (h.a j hj).w.lt
  have lr := fun j hj => (by obtain ⟨_, _, h2⟩ := (h.a j hj).r; exact h2.lt : rb j < W.heap.size)
  refine ⟨⟨?_, fun j hj => ?_, fun b e => ?_, fun j hj => ?_, fun j hj => ?_, fun j hj => ?_, fun j hj b e => ?_, h.gb, Nat.le_trans h.bb hf.k.size⟩, hf.k.mono (fun b hb e => ?_)⟩
  · exact hf.k.owns h.o (fun b e e' => by
      have h1 := h.r0 b e
      rcases e' with e' | e' | e' | e'
      · rw [e', h.rp i hi] at h1; omega
      · rw [e', h.rw i hi] at h1; omega
      · rw [e', h.rr i hi] at h1; omega
      · have := h.rs i hi b e'; omega)
  · by_cases e : j = i
    · subst e
      rw [if_pos rfl, if_pos rfl, if_pos rfl]
      exact hf.a
    · skip
      rw [if_neg e, if_neg e, if_neg e]
      have key : ∀ b x, ρ b = x + 4 * j → (x = 2 ∨ x = 3 ∨ x = 4 ∨ x = 5) → ¬ (b = pb i ∨ b = wb i ∨ b = rb i ∨ (sv i).ownBlock = some b) := fun b x hx hx' e' => by
        rcases e' with e' | e' | e' | e'
        · rw [e', h.rp i hi] at hx; omega
        · rw [e', h.rw i hi] at hx; omega
        · rw [e', h.rr i hi] at hx; omega
        · have := h.rs i hi b e'; omega
      exact ((h.a j hj).keep hf.k (key _ 2 (h.rp j hj) (by omega)) (key _ 3 (h.rw j hj) (by omega)) (key _ 4 (h.rr j hj) (by omega)) (fun b e => key b 5 (h.rs j hj b e) (by omega))).more (by omega)
  · rw [if_pos (owns_lt' h.o b e)]
    exact h.r0 b e
  · rw [if_pos (lp j hj)]
    exact h.rp j hj
  · rw [if_pos (lw j hj)]
    exact h.rw j hj
  · rw [if_pos (lr j hj)]
    exact h.rr j hj
  · by_cases e' : j = i
    · subst e'
      rw [if_pos rfl] at e
      rcases hf.bs b e with h1 | h1
      · rw [if_pos (owns_lt' (h.a j hj).s b h1)]
        exact h.rs j hj b h1
      · rw [if_neg (by omega)]
    · skip
      rw [if_neg e'] at e
      rw [if_pos (owns_lt' (h.a j hj).s b e)]
      exact h.rs j hj b e
  · rcases e with e | e | e | e
    · rw [e]; exact (h.gb i hi).1
    · rw [e]; exact (h.gb i hi).2.1
    · rw [e]; exact (h.gb i hi).2.2
    · exact owns_baseT (h.a i hi).s b e
end Go.Proofs.Ytmnmphkkcabkiaa

namespace Go.Proofs.Ytmnmphkkcabkiaa
open Go.RowKit Go.Shelf Go.Lib Go.Sort Go.WideShapes
instance : Inhabited Wo := ⟨⟨0, 0, 0, false⟩⟩
theorem row_laid {w : World} {base g cap n size k : Nat} {e : TypeId} {F : Array Value} {xs : List Value} {os : Array Obj} (h : w.ownsRow base e size (.slice (some ⟨g, 0, none⟩) n cap) n xs) (hF : F.size = n * size) :
    (grow (putRow id (Sort.ahead w k) g 0 F) os).ownsRow base e size (.slice (some ⟨g, 0, none⟩) n cap) n F.toList ∧ Keeps (fun b => b = g) w (grow (putRow id (Sort.ahead w k) g 0 F) os) := by
  have hgr : w.grownBy (grow (putRow id (Sort.ahead w k) g 0 F) os) (some g) := by
    refine ⟨rfl, rfl, rfl, by simp, fun i hi hne => ?_⟩
    rw [heap_grow_old _ _ (by simpa using hi)]
    have hgi : g ≠ i := fun e => hne (by rw [e])
    simp [putRow, mapBlock, Sort.ahead, Array.getElem?_modify, hgi]
  refine ⟨⟨by simpa using hF, ?_⟩, (Keeps.refl _ w).grown hgr (fun _ _ e => by cases e; rfl)⟩
  rcases h.2 with ⟨h0, _⟩ | ⟨g', cap', cur, hv, hb, hc, h1, h2, h3, -⟩
  · cases h0
  injection hv with hv1 _ hv2
  injection hv1 with hv1
  injection hv1 with hv1 _ _
  subst hv1 hv2
  refine .inr ⟨g, cap, putCells id 0 F cur, rfl, hb, ?_, h1, h2, by simp [putCells, h3], ?_⟩
  · have hg : g < w.heap.size := (Array.getElem?_eq_some_iff.1 hc).1
    rw [heap_grow_old _ _ (by simpa using hg)]
    simp [putRow, mapBlock, Sort.ahead, Array.getElem?_modify, hc, onCells]
  · have hle : n * size ≤ cap * size := Nat.mul_le_mul_right _ h1
    apply List.ext_getElem?
    intro j
    by_cases hj : j < n * size
    · rw [List.getElem?_take_of_lt hj, Array.getElem?_toList, Array.getElem?_toList]
      simp [putCells, hF, hj, show j < cur.size by omega]
    · rw [List.getElem?_take_eq_none (by omega), List.getElem?_eq_none (by simp; omega)]
theorem flat_wcl (l : List Wo) : (flatK Wo.cells 4 l.toArray).toList = wcl l := by
  apply List.ext_getElem?
  intro t
  by_cases h : t < l.length * 4
  · have hi : t / 4 < l.length := by omega
    have hx : l[t / 4]? = some l[t / 4] := List.getElem?_eq_getElem hi
    have hl4 : (l[t / 4]).cells.length = 4 := rfl
    have hj : t % 4 < (l[t / 4]).cells.length := by omega
    have hv : (l[t / 4]).cells[t % 4]? = some ((l[t / 4]).cells[t % 4]) := List.getElem?_eq_getElem hj
    have e := wcl_get l (t / 4) l[t / 4] hx (t % 4) _ hv
    rw [show t / 4 * 4 + t % 4 = t by omega] at e
    rw [e, Array.getElem?_toList]
    simp [flatK, h, hi, hj]
  · rw [List.getElem?_eq_none (by simp; omega), List.getElem?_eq_none (by rw [wcl_len]; omega)]
end Go.Proofs.Ytmnmphkkcabkiaa

namespace Go.Proofs.Ytmnmphkkcabkiaa
open Go.RowKit Go.Shelf Go.Lib Go.Sort Go.WideShapes
theorem ltW (x y : Wo) : ltOf (fun x y : Wo => Lib.compareInt x.object y.object) x y = decide (x.object < y.object) := by
  unfold ltOf Lib.compareInt
  by_cases h1 : x.object < y.object
  · simp [h1]
  · by_cases h2 : y.object < x.object <;> simp [h1, h2]
theorem swoW : SWO (ltOf fun x y : Wo => Lib.compareInt x.object y.object) where
  irrefl x := by rw [ltW]; simp
  trans x y z h1 h2 := by rw [ltW] at *; simp at *; omega
  ntrans x y z h1 h2 := by rw [ltW] at *; simp at *; omega
theorem cmpLaysW (blk off size : Nat) (w : World) : CmpLays Try.prog 58 #[] Wo.cells 4 (fun x y => Lib.compareInt x.object y.object) blk off size w :=
  fun _ _ _ _ x y => (cmpW_any x y _).mono (by
    rintro e w' ⟨rfl, rfl⟩
    exact ⟨rfl, 0, _, by rw [alloc_eq_grow, alloc_eq_grow, grow_grow]; rfl⟩)
set_option maxHeartbeats 1000000 in
theorem sortW_any {w : World} {base g cap n : Nat} {ls : List Wo} (h : w.ownsRow base 46 4 (.slice (some ⟨g, 0, none⟩) n cap) n (wcl ls)) (hn : ls.length = n) (hsz : n < 4611686018427387904) : Calls Try.prog 57 #[.slice (some ⟨g, 0, none⟩) n cap, .func (.func 58) #[] #[]] w fun e w' => e = .returned (.tuple #[]) ∧ ∃ ms : List Wo, ls.Perm ms ∧ ms.Pairwise (fun x y => ¬ y.object < x.object) ∧ w'.ownsRow base 46 4 (.slice (some ⟨g, 0, none⟩) n cap) n (wcl ms) ∧ Keeps (fun b => b = g) w w' := by
  have hcl := own_cl h
  have hH : HoldsK Wo.cells 4 w g 0 ls.toArray := fun j hj => by
    have hj4 : j < ls.length * 4 := by simpa using hj
    have e : (flatK Wo.cells 4 ls.toArray).toList[j]? = (wcl ls)[j]? := by rw [flat_wcl]
    rw [Array.getElem?_toList] at e
    rw [Nat.zero_add]
    refine ⟨hcl.c j _ (e ▸ ?_), hcl.z j (by rw [wcl_len]; exact hj4)⟩
    rw [getElem!_pos _ j hj]
    exact Array.getElem?_eq_getElem hj
  have eg : ∀ args w, (callFunc 58 args).run Try.prog w = .ok (.enter 58 args) w := enters_of Try.func58 (by kernel_rfl) rfl
  have hcon := AnyQ.slices_SortFunc Try.sortW 4 (fun _ => by kernel_rfl) (fun _ => by kernel_rfl) Wo.cells (fun _ => rfl) (fun x v hv => by simp [Wo.cells] at hv; rcases hv with rfl | rfl | rfl | rfl <;> rfl) (fun x y => Lib.compareInt x.object y.object) swoW 58 #[] g 0 cap ls.toArray w eg (cmpLaysW g 0 ls.toArray.size w) hH (owns_lt' h g rfl) (by simpa [hn] using hsz)
  have e0 : ls.toArray.size = n := by simpa using hn
  rw [e0] at hcon
  change Calls Try.prog 57 _ _ _ at hcon
  refine hcon.mono ?_
  rintro e w' ⟨rfl, d', k, os, hp, hs, rfl⟩
  have hd : d'.size = n := by rw [hp.1]; exact e0
  have hperm := hp.2.2
  rw [← hd] at hperm
  have e1 : (d'.extract 0 d'.size).toList = d'.toList := by simp
  have e2 : (ls.toArray.extract 0 d'.size).toList = ls := by rw [hd, ← e0]; simp
  rw [e1, e2] at hperm
  obtain ⟨q1, q2⟩ := row_laid (k := k) (os := os) (F := flatK Wo.cells 4 d') h (by simp [hd])
  have e3 : (flatK Wo.cells 4 d').toList = wcl d'.toList := flat_wcl d'.toList
  rw [e3] at q1
  refine ⟨rfl, d'.toList, hperm.symm, ?_, q1, q2⟩
  rw [List.pairwise_iff_getElem]
  intro i j hi hj hij
  have hi' : i < d'.size := by simpa using hi
  have hj' : j < d'.size := by simpa using hj
  have := hs i j (Nat.zero_le _) hij (by omega)
  rw [ltW, getElem!_pos _ i hi', getElem!_pos _ j hj'] at this
  simpa using this
end Go.Proofs.Ytmnmphkkcabkiaa

namespace Go.Proofs.Ytmnmphkkcabkiaa
open Go.RowKit Go.WideShapes
attribute [local go_sem] Oper.semAt_some run_store_nf run_store_f
def SortNone : Prop := ∀ w, Calls Try.prog 57 #[.slice none 0 0, .func (.func 58) #[] #[]] w fun e w' => e = .returned (.tuple #[]) ∧ w' = w
set_option maxHeartbeats 1000000 in
set_option maxRecDepth 100000 in
theorem tell_2 {b base n : Nat} {w X : World} {ws ls : List Wo} {lv : Value} {R : Ending → World → Prop} {y1 y2 y4 y5 y6 y7 y8 y9 y10 y11 y12 y13 y14 y15 y16 y17 y18 y19 y20 y21 : Value} (hN : SortNone) (hw : Inc ws) (hwi : ∀ x ∈ ws, I64 x.object) (hown : X.ownsRow base 46 4 lv ls.length (wcl ls)) (hln : ls.length ≤ n) (hn : n ≤ 980000000000) (hd : ls.Pairwise (fun x y => x.object ≠ y.object)) (hi : ∀ x ∈ ls, I64 x.object) (he : ∀ o, I64 o → wof ls o = wof ws o) (hb : w.heap.size ≤ base) (kX : Keeps (fun _ => False) w X)
    (hP : ∀ W v, W.ownsRow base 46 4 v ws.length (wcl ws) → Keeps (fun _ => False) w W → R (.returned v) W) : (tlT3 Try.f43).wp Try.prog (bodyPost Try.prog Try.f43 R) { tmps := #[.map (some b), y1, y2, lv, y4, y5, y6, y7, y8, y9, y10, y11, y12, y13, y14, y15, y16, y17, y18, y19, y20, y21], defers := [] } X := by
  have HP : Hid (∀ W v, W.ownsRow base 46 4 v ws.length (wcl ws) → Keeps (fun _ => False) w W → R (.returned v) W) := hP
  clear hP
  obtain ⟨a3, c3, rfl, -, -, ha3⟩ := own_slice hown
  dsimp only [tlT3, Try.f43]
  rcases hown.2 with ⟨h0, h00⟩ | ⟨g, cap, cur, hv, hbg, -⟩
  · have hls : ls = [] := List.length_eq_zero_iff.1 h00
    subst hls
    have hws : [] = ws := tell_eq hw hwi hd hi he (List.Perm.refl _) List.Pairwise.nil
    subst hws
    injection h0 with q1 _ q3
    subst q1 q3
    have hso := hN X
    go_wp2_with (go_at_call 57; refine hso.mono ?_; clear hso; rintro e w9 ⟨rfl, rfl⟩)
    exact HP.out _ _ hown kX
  · injection hv with q1 _ q3
    subst q1 q3
    have hso := sortW_any hown rfl (by omega)
    generalize hL : ls.length = L at *
    go_wp2_with (go_at_call 57; refine hso.mono ?_; clear hso; rintro e w9 ⟨rfl, ms, hp, hs, ho9, k9⟩)
    have e := tell_eq hw hwi hd hi he hp (hs.imp (fun {_ _} e => by omega))
    subst e
    have el : ms.length = L := by rw [← hp.length_eq, hL]
    exact HP.out _ _ (by rw [el]; exact ho9) (kX.trans' k9 (fun _ _ e => e) (fun i h1 e => by have e : i = g := e; omega))
set_option maxHeartbeats 1000000 in
set_option maxRecDepth 100000 in
theorem tell_any {b n : Nat} {w : World} {ws : List Wo} (hN : SortNone) (hM : MV w b n (wof ws)) (hn : n ≤ 980000000000) (hw : Inc ws) (hwi : ∀ x ∈ ws, I64 x.object) : Calls Try.prog 43 #[.map (some b)] w fun e w' => ∃ v, e = .returned v ∧ w'.ownsRow w.heap.size 46 4 v ws.length (wcl ws) ∧ Keeps (fun _ => False) w w' := by
  have HM : Hid (MV w b n (wof ws)) := hM
  clear hM
  go_enter Try.func43, Try.ntmps43
  refine wp_seq_k (fun KK hKK => ?_)
  have hKH : Hid _ := hKK
  clear hKK
  go_wp2_with fail
  refine hKH.out _ _ ?_
  clear hKH KK
  refine wp_seq_k (fun KK hKK => ?_)
  have hKH : Hid _ := hKK
  clear hKK
  go_wp2_with fail
  refine hKH.out _ _ ?_
  clear hKH KK
  refine tell_1 HM.out hn ?_
  intro W lv ls _ _ _ _ _ _ _ _ _ _ _ _ _ _ _ _ _ _ _ _ h1 h2 h3 h4 h5 h6
  exact tell_2 hN hw hwi h1 h2 hn h3 h4 h5 (Nat.le_refl _) h6 (fun W2 v g1 g2 => ⟨v, rfl, g1, g2⟩)
end Go.Proofs.Ytmnmphkkcabkiaa

namespace Go.Proofs.Ytmnmphkkcabkiaa
open Go.RowKit
theorem uPa : Try.prog.underlying 69 = some (.slice 71) := by kernel_rfl
theorem iPa : (Try.prog.info? 71).map (fun i => (i.zero, i.size, i.bytes)) = some (some (.pointer none), 1, 8) := by kernel_rfl
theorem PA.base {base base' p wb rb m : Nat} {W : World} {t : Tv} {c : Int → Nat} (h : PA base W p t nilv wb rb c m) (hs : t.saws = []) : PA base' W p t nilv wb rb c m :=
  ⟨h.cl, by rw [hs]; exact World.ownsRow_nil _ _ _ _, h.w, h.i, h.r, h.n1, h.n2, h.n3, h.sb, h.cm, h.ls⟩
theorem AT.add {base n m : Nat} {W0 W : World} {v : Value} {pb wb rb : Nat → Nat} {T : Nat → Tv} {sv : Nat → Value} {c : Nat → Int → Nat} {ρ : Nat → Nat} (h0 : AT base W0 v n pb T sv wb rb c ρ m) {S : Nat → Prop} (k : Keeps S W0 W) (hS : ∀ i, base ≤ i → ¬ S i) {p wbn rbn : Nat} {t : Tv} {cn : Int → Nat} (hp : PA W0.heap.size W p t nilv wbn rbn cn m) (g1 : W0.heap.size ≤ p) (g2 : W0.heap.size ≤ wbn) (g3 : W0.heap.size ≤ rbn) (hs : t.saws = []) (hk : (n + 1) * 8 ≤ 140737488355328) :
    ∃ v' W', (Builtin.append_ #[69, 69] 69 #[v, .slice (some ⟨W.heap.size, 0, none⟩) 1 1]).run Try.prog (W.alloc (.cells #[.pointer (some ⟨p, 0, none⟩)] 71)) = .ok v' W' ∧
      AT base W' v' (n + 1) (fun i => if i = n then p else pb i) (fun i => if i = n then t else T i) (fun i => if i = n then nilv else sv i) (fun i => if i = n then wbn else wb i) (fun i => if i = n then rbn else rb i) (fun i => if i = n then cn else c i) (fun b => if b < W0.heap.size then ρ b else if b = p then 2 + 4 * n else if b = wbn then 3 + 4 * n else if b = rbn then 4 + 4 * n else 1) m ∧ Keeps (fun i => v.ownBlock = some i) W W' := by
  have h := h0.keepB k (fun i h1 _ => hS i h1)
  obtain ⟨v', W', hr, ho, kk, hbl⟩ := append_sz uPa iPa rfl (by decide) h.o h.bb (by decide) hk [.pointer (some ⟨p, 0, none⟩)] rfl (fun u hu => by
    simp at hu
    rw [hu]
    rfl)
  have lp : p < W.heap.size := hp.cl.lt (by show 0 < 13; decide)
  have lw := hp.w.lt
  have lr : rbn < W.heap.size := by obtain ⟨_, _, h2⟩ := hp.r; exact h2.lt
  have l0 : ∀ b, v.ownBlock = some b → b < W0.heap.size := fun b e => owns_lt' h0.o b e
  have hzz := k.size
  have hbb := h0.bb
  have n1 := hp.n1
  have n2 := hp.n2
  have n3 := hp.n3
  have kp := hp.keep kk (fun e => by have := l0 _ e; omega) (fun e => by have := l0 _ e; omega) (fun e => by have := l0 _ e; omega) (fun b e => by cases e)
  refine ⟨v', W', hr, ⟨?_, fun i hi => ?_, fun b e => ?_, fun i hi => ?_, fun i hi => ?_, fun i hi => ?_, fun i hi b e => ?_, fun i hi => ?_, Nat.le_trans h.bb kk.size⟩, kk⟩
  · rw [pcl_succ, if_pos rfl, pcl_congr (pb' := pb) (fun i hi => if_neg (by omega))]
    exact ho
  · by_cases e : i = n
    · subst e
      rw [if_pos rfl, if_pos rfl, if_pos rfl, if_pos rfl, if_pos rfl, if_pos rfl]
      exact kp.base hs
    · rw [if_neg e, if_neg e, if_neg e, if_neg e, if_neg e, if_neg e]
      have hi' : i < n := by omega
      have key : ∀ b x, ρ b = x + 4 * i → 2 ≤ x → ¬ v.ownBlock = some b := fun b x hx h2 e => by have := h.r0 b e; omega
      exact (h.a i hi').keep kk (key _ 2 (h.rp i hi') (by omega)) (key _ 3 (h.rw i hi') (by omega)) (key _ 4 (h.rr i hi') (by omega)) (fun b e => key b 5 (h.rs i hi' b e) (by omega))
  · rcases hbl with hb | hb
    · rw [hb] at e
      rw [if_pos (l0 b e)]
      exact h.r0 b e
    · rw [hb] at e
      have e := Option.some.inj e
      rw [if_neg (by omega), if_neg (by omega), if_neg (by omega), if_neg (by omega)]
  · by_cases e : i = n
    · subst e
      rw [if_pos rfl, if_neg (by omega), if_pos rfl]
    · have hi' : i < n := by omega
      rw [if_neg e, if_pos ((h0.a i hi').cl.lt (by show 0 < 13; decide))]
      exact h.rp i hi'
  · by_cases e : i = n
    · subst e
      rw [if_pos rfl, if_neg (by omega), if_neg n1, if_pos rfl]
    · have hi' : i < n := by omega
      rw [if_neg e, if_pos (h0.a i hi').w.lt]
      exact h.rw i hi'
  · by_cases e : i = n
    · subst e
      rw [if_pos rfl, if_neg (by omega), if_neg n2, if_neg (fun e => n3 e.symm), if_pos rfl]
    · have hi' : i < n := by omega
      have : rb i < W0.heap.size := by obtain ⟨_, _, h2⟩ := (h0.a i hi').r; exact h2.lt
      rw [if_neg e, if_pos this]
      exact h.rr i hi'
  · by_cases e' : i = n
    · subst e'
      rw [if_pos rfl] at e
      cases e
    · have hi' : i < n := by omega
      rw [if_neg e'] at e
      rw [if_pos (owns_lt' (h0.a i hi').s b e)]
      exact h.rs i hi' b e
  · by_cases e : i = n
    · subst e
      rw [if_pos rfl, if_pos rfl, if_pos rfl]
      exact ⟨by omega, by omega, by omega⟩
    · rw [if_neg e, if_neg e, if_neg e]
      exact h.gb i (by omega)
end Go.Proofs.Ytmnmphkkcabkiaa

namespace Go.Proofs.Ytmnmphkkcabkiaa
open Go.RowKit
theorem AT.congr {base n m : Nat} {W : World} {v : Value} {pb wb rb : Nat → Nat} {T T' : Nat → Tv} {sv : Nat → Value} {c c' : Nat → Int → Nat} {ρ : Nat → Nat} (h : AT base W v n pb T sv wb rb c ρ m) (h1 : ∀ i, i < n → T i = T' i) (h2 : ∀ i, i < n → c i = c' i) : AT base W v n pb T' sv wb rb c' ρ m :=
  ⟨h.o, fun i hi => by rw [← h1 i hi, ← h2 i hi]; exact h.a i hi, h.r0, h.rp, h.rw, h.rr, h.rs, h.gb, h.bb⟩
theorem AT.more {base n m m' : Nat} {W : World} {v : Value} {pb wb rb : Nat → Nat} {T : Nat → Tv} {sv : Nat → Value} {c : Nat → Int → Nat} {ρ : Nat → Nat} (h : AT base W v n pb T sv wb rb c ρ m) (hm : m ≤ m') : AT base W v n pb T sv wb rb c ρ m' :=
  ⟨h.o, fun i hi => (h.a i hi).more hm, h.r0, h.rp, h.rw, h.rr, h.rs, h.gb, h.bb⟩
theorem cK_zero {l : List Rw} (h : fstP l 0 (f0 6) = none) : ∀ k, k ≤ l.length → ∀ i, (txK l k).1.length ≤ i → cK l k i = fun _ => 0
  | 0, _, _, _ => rfl
  | k + 1, hk, i, hi => by
    have hlen : (txK l (k + 1)).1.length = (txK l k).1.length + beg1 (l.getD k rw0) := stT_len _ _
    have ih := cK_zero h k (by omega) i (by omega)
    have hro := txK_ro h (show k < l.length by omega)
    show (if ofD (l.getD k rw0).kind = true ∧ ((l.getD k rw0).no - 1).toNat = i then relC (cK l k i) (l.getD k rw0) else cK l k i) = _
    rw [if_neg (fun e => by have := hro.o e.1; have := e.2; omega)]
    exact ih
theorem addD_fnl (t : Tv) (r : Rw) : (addD t r).fnl = t.fnl ∨ (addD t r).fnl = r.step := by
  have e1 : (addD t r).fnl = (addF t r).fnl := by
    unfold addD addW addS addE
    repeat (first | rfl | split)
  rw [e1]
  unfold addF
  split
  · exact .inr rfl
  · exact .inl rfl
theorem fnl_inv {l : List Rw} (h : fstP l 0 (f0 6) = none) : ∀ k, k ≤ l.length → ∀ i, i < (txK l k).1.length → ((txK l k).1.getD i tv0).fnl = -1 ∨ 0 ≤ ((txK l k).1.getD i tv0).fnl
  | 0, _, i, hi => absurd hi (Nat.not_lt_zero _)
  | k + 1, hk, i, hi => by
    have ih := fnl_inv h k (by omega)
    have hst := (row_ok h (show k < l.length by omega)).1
    have hi' : i < (stT (txK l k) (l.getD k rw0)).1.length := hi
    show ((stT (txK l k) (l.getD k rw0)).1.getD i tv0).fnl = -1 ∨ 0 ≤ ((stT (txK l k) (l.getD k rw0)).1.getD i tv0).fnl
    generalize l.getD k rw0 = r at *
    generalize txK l k = s at *
    rw [stT_len] at hi'
    unfold beg1 at hi'
    unfold stT
    have app : ∀ st, i < s.1.length + 1 → ((s.1 ++ [begD r st]).getD i tv0).fnl = -1 ∨ 0 ≤ ((s.1 ++ [begD r st]).getD i tv0).fnl := fun st hi => by
      by_cases e : i = s.1.length
      · subst e
        rw [getD_app_right]
        exact .inl rfl
      · rw [getD_app_left (by omega)]
        exact ih i (by omega)
    by_cases h1 : r.kind = 1
    · rw [if_pos (.inl h1)] at hi'
      rw [if_pos h1]
      exact app _ hi'
    rw [if_neg h1]
    by_cases h2 : r.kind = 2
    · rw [if_pos (.inr h2)] at hi'
      rw [if_pos h2]
      exact app _ hi'
    rw [if_neg (show ¬ (r.kind = 1 ∨ r.kind = 2) by omega)] at hi'
    rw [if_neg h2]
    by_cases hof : ofD r.kind = true
    · rw [if_pos hof]
      dsimp only
      by_cases e : i = (r.no - 1).toNat
      · subst e
        rw [getD_set_eq (by omega)]
        rcases addD_fnl (s.1.getD (r.no - 1).toNat tv0) r with e2 | e2
        · rw [e2]
          exact ih _ (by omega)
        · rw [e2, hst]
          exact .inr (by omega)
      · rw [getD_set_ne e]
        exact ih i (by omega)
    · rw [if_neg hof]
      exact ih i (by omega)
end Go.Proofs.Ytmnmphkkcabkiaa

