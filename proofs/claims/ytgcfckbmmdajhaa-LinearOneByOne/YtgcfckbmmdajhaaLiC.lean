import Derived.Test.YtgcfckbmmdajhaaLiB
import Derived.Maps.RangeWalk
namespace Go.Proofs.Ytgcfckbmmdajhaa
open Go.RowKit Go.Maps Go.ChangeMaps Go.MapKept Go.WideShapes
theorem i64_wfL {x : Int} (h : (Lit.int .i64 x).wf = true) : I64 x := by
  simp [Lit.wf, IntKind.min, IntKind.max, IntKind.bits, IntKind.signed] at h
  unfold I64
  omega
theorem sameKeyL (a b : Int) : (Lit.int .i64 a).sameKey (.int .i64 b) = decide (a = b) := by
  by_cases h : a = b
  · subst h
    simp [Lit.sameKey]
  · simp [Lit.sameKey, h]
/-- The least so far. -/
structure LI (f : Int → Bool) (left : Lit → Bool) (x : Int) : Prop where
  i : I64 x
  m : x = 9223372036854775807 ∨ f x = true
  l : ∀ k, I64 k → f k = true → left (.int .i64 k) = false → x ≤ k
  s : ∀ k, I64 k → left (.int .i64 k) = true → f k = true
theorem LI.next {f : Int → Bool} {left : Lit → Bool} {x k : Int} (h : LI f left x) (hk : I64 k) (hl : left (.int .i64 k) = true) : LI f (fun z => left z && !z.sameKey (.int .i64 k)) (min x k) := by
  have hf := h.s k hk hl
  refine ⟨?_, ?_, fun q hq hfq e => ?_, fun q hq e => ?_⟩
  · have := h.i
    unfold I64 at *
    omega
  · by_cases c : x ≤ k
    · rw [Int.min_eq_left c]
      exact h.m
    · rw [Int.min_eq_right (by omega)]
      exact .inr hf
  · rw [sameKeyL] at e
    by_cases c : q = k
    · subst c
      exact Int.min_le_right _ _
    · have e2 : left (.int .i64 q) = false := by simpa [c] using e
      exact Int.le_trans (Int.min_le_left _ _) (h.l q hq hfq e2)
  · simp only [Bool.and_eq_true] at e
    exact h.s q hq e.1
/-- The least of a set. -/
def Lst (f : Int → Bool) (x : Int) : Prop := I64 x ∧ (∀ k, I64 k → f k = true → x ≤ k) ∧ ((∃ k, I64 k ∧ f k = true) → f x = true)
set_option maxHeartbeats 600000 in
set_option maxRecDepth 100000 in
theorem least_any {w : World} {mb n : Nat} {f : Int → Bool} (h : SV w mb n f) : Calls Try.prog 37 #[.map (some mb)] w fun e w' => ∃ x, e = .returned (.int .i64 x) ∧ Lst f x ∧ Keeps (fun _ => False) w w' := by
  obtain ⟨D, h1, h2, h3⟩ := h
  have hbl := h1.lt
  have HD3 : Hid (∀ k, I64 k → Maps.has D (.int .i64 k) = f k) := h3
  clear h3
  go_enter Try.func37, Try.ntmps37
  go_wp2_with (refine wpList_range_own w rfl _ 53 rfl 2 67 keyedL underS unitElem mb n D rfl h1 ?_; intro w1 hr1 hg1 hz1)
  (try simp only [List.getElem_toArray]); (try simp only [List.getElem_cons_succ]); (try simp only [List.getElem_cons_zero]); (try simp only [Act.put]); (try simp only [List.setIfInBounds_toArray]); (repeat first | simp only [List.set_cons_succ] | simp only [List.set_cons_zero])
  have k1 : Keeps (fun _ => False) w w1 := (Keeps.refl _ w).grown hg1 (fun _ _ e => by cases e)
  rw [h2] at hr1
  go_loopw [3, 4] (fun lv _ Wr => ∃ (left : Lit → Bool) (cnt : Nat) (x : Int), lv = .int .i64 x ∧ Wr.ranges Try.prog 2 unitElem mb w.heap.size n D left cnt ∧ LI f left x ∧ Keeps (fun _ => False) w Wr) (fun _ _ Wr => Wr.rangeLeft mb w.heap.size)
  case atStart =>
    refine ⟨_, _, _, rfl, hr1, ⟨⟨by omega, by omega⟩, .inl rfl, fun k hk hf e => ?_, fun k hk e => ?_⟩, k1⟩
    · rw [HD3.out k hk, hf] at e
      cases e
    · rw [← HD3.out k hk]
      exact e
  case round =>
    obtain ⟨left, cnt, x, rfl, hrg, hL, kr⟩ := hrel
    clear hr1 k1 hg1 hz1
    have hle := hrg.left_eq
    have hrl := hrg.lt
    by_cases hc : cnt = 0
    · go_wp2_with (refine wpList_next_ranges wr rfl _ rfl 2 keyedL unitElem (Value.int .i64) (fun _ : Unit => Value.agg #[]) (fun key kl hk => by obtain ⟨x, rfl, _⟩ := Maps.keyOf_int_inv underL hk; exact ⟨x, rfl⟩) (fun v y hv => ⟨(), (unitElem_inv hv).1⟩) mb w.heap.size n D left cnt rfl hrg (fun _ hl => ?_) (fun _ _ _ _ _ _ _ _ _ _ _ hlt => absurd hlt (by omega)))
      go_ret
      refine ⟨x, rfl, ⟨hL.i, fun k hk hf => hL.l k hk hf (hl _), fun ⟨k, hk, hf⟩ => ?_⟩, kr⟩
      rcases hL.m with e | e
      · have := hL.l k hk hf (hl _)
        have hk2 := hk.2
        have e2 : x = k := by omega
        rw [e2]
        exact hf
      · exact e
    · have hne : ¬ mb = w.heap.size := by omega
      have HL : Hid (LI f left x) := hL
      clear hL
      go_wp2_with (refine wpList_next_ranges wr rfl _ rfl 2 keyedL unitElem (Value.int .i64) (fun _ : Unit => Value.agg #[]) (fun key kl hk => by obtain ⟨x, rfl, _⟩ := Maps.keyOf_int_inv underL hk; exact ⟨x, rfl⟩) (fun v y hv => ⟨(), (unitElem_inv hv).1⟩) mb w.heap.size n D left cnt rfl hrg (fun h0 => absurd h0 hc) ?_; intro q cv kl yy w2 cnt2 hkey hlk hy hat hrg2 hlt2 hgr2 hsz2 hen2; clear hsz2; obtain ⟨x', ex, ek, hwx⟩ := Maps.keyOf_int_inv underL hkey; injection ex with _ ex; subst ex; subst ek; have k2 : Keeps (fun i => i = w.heap.size) wr w2 := (Keeps.refl _ wr).grown hgr2 (fun _ _ e => by cases e; rfl); have HN : Hid (LI f (fun z => left z && !z.sameKey (.int .i64 q)) (min x q)) := HL.out.next (i64_wfL hwx) hlk; clear hat hy hkey HL; (try dsimp only at hen2))
      have em : (if q < x then q else x) = min x q := by
        split <;> omega
      rw [em]
      refine ⟨⟨_, _, _, rfl, hrg2, HN.out, kr.trans' k2 (fun _ _ e => e) (fun i hi e => by have e : i = w.heap.size := e; omega)⟩, ?_⟩
      rw [hrg2.left_eq, hle]
      exact hlt2
end Go.Proofs.Ytgcfckbmmdajhaa
