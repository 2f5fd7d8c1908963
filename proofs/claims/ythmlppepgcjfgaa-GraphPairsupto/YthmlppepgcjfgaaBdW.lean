import Derived.Test.YthmlppepgcjfgaaBdV
namespace Go.Proofs.Ythmlppepgcjfgaa
open Go.RowKit Go.Deep
attribute [local go_sem] Oper.semAt_some run_store_nf run_store_f
def sk1 : Sw := ⟨0, 1, 0, false, false, false, 0, 0, false⟩
def sk0 : Sw := ⟨0, 0, 0, false, false, false, 0, 0, false⟩
def wk0 : Wo := ⟨0, 0, 0, false⟩
def wk1 : Wo := ⟨1, 0, 0, false⟩
def tk0 : Tv := ⟨0, 0, 0, 0, 0, 0, 5, 9, 1, [sk1], [wk0]⟩
def tk1 : Tv := ⟨0, 0, 0, 0, 0, 1, 6, 10, 1, [sk0], [wk1]⟩
def skL : List Tv := [tk0, tk1]
theorem skL_b : BuA skL [⟨0, 1, 2, 1⟩, ⟨1, 0, 2, 0⟩] 0 := by
  refine .inr ⟨⟨by decide, fun i hi => ?_⟩, rfl, ?_, fun e => ?_⟩
  · have hi : i < 2 := hi
    match i, hi with
    | 0, _ => exact fun _ => ⟨by decide, fun j hj => absurd hj (Nat.not_lt_zero j)⟩
    | 1, _ => exact fun _ => ⟨by decide, fun j hj _ => by
        have : j = 0 := by omega
        subst this
        decide⟩
  · unfold SrtE
    refine List.pairwise_cons.2 ⟨fun e he => ?_, List.pairwise_cons.2 ⟨(fun _ h => nomatch h), List.Pairwise.nil⟩⟩
    simp at he
    subst he
    exact .inl (by decide)
  · constructor
    · intro he
      simp at he
      rcases he with rfl | rfl
      · exact ⟨0, 1, 0, by decide, by decide, ⟨by decide, rfl, rfl⟩, by decide, .inr (.inr ⟨by decide, by decide, rfl⟩)⟩
      · exact ⟨1, 0, 0, by decide, by decide, ⟨by decide, rfl, rfl⟩, by decide, .inr (.inr ⟨by decide, by decide, rfl⟩)⟩
    · rintro ⟨t, u, i, ht, hu, ⟨hn, _, _⟩, hi, h⟩
      have ht : t < 2 := ht
      have hu : u < 2 := hu
      match t, u, ht, hu, hn with
      | 0, 0, _, _, hn => exact absurd rfl hn
      | 1, 1, _, _, hn => exact absurd rfl hn
      | 0, 1, _, _, _ =>
        have hi : i < 1 := hi
        have : i = 0 := by omega
        subst this
        rcases h with ⟨h1, _, _⟩ | ⟨_, h2, _⟩ | ⟨_, _, rfl⟩
        · exact absurd h1 (by decide)
        · exact absurd h2 (by decide)
        · exact List.mem_cons_self ..
      | 1, 0, _, _, _ =>
        have hi : i < 1 := hi
        have : i = 0 := by omega
        subst this
        rcases h with ⟨h1, _, _⟩ | ⟨_, h2, _⟩ | ⟨_, _, rfl⟩
        · exact absurd h1 (by decide)
        · exact absurd h2 (by decide)
        · exact List.mem_cons_of_mem _ (List.mem_cons_self ..)
theorem skL_i : TsI skL := by
  refine ⟨by decide, by decide, fun i hi => ?_, fun i hi => ?_⟩
  · have hi : i < 2 := hi
    match i, hi with
    | 0, _ => exact ⟨by decide, by decide⟩
    | 1, _ => exact ⟨by decide, by decide⟩
  · have hi : i < 2 := hi
    match i, hi with
    | 0, _ => exact ⟨fun s hs => by simp [skL, tk0] at hs; subst hs; exact ⟨by decide, by decide⟩, fun s hs => by simp [skL, tk0] at hs; subst hs; exact ⟨by decide, by decide⟩⟩
    | 1, _ => exact ⟨fun s hs => by simp [skL, tk1] at hs; subst hs; exact ⟨by decide, by decide⟩, fun s hs => by simp [skL, tk1] at hs; subst hs; exact ⟨by decide, by decide⟩⟩
theorem SWM.one {W : World} {b : Nat} {s : Sw} (h : CL W b s.cells) : SWM W (some ⟨b, 0, none⟩) [s] := fun i hi => by
  have : i = 0 := by simp at hi; exact hi
  subst this
  refine ⟨b, 0, rfl, fun j v hv => ?_⟩
  rw [show 0 + 0 * 9 + j = j by omega]
  exact h.c j v hv
theorem WOM.one {W : World} {b : Nat} {s : Wo} (h : CL W b s.cells) : WOM W (some ⟨b, 0, none⟩) [s] := fun i hi => by
  have : i = 0 := by simp at hi; exact hi
  subst this
  refine ⟨b, 0, rfl, fun j v hv => ?_⟩
  rw [show 0 + 0 * 4 + j = j by omega]
  exact h.c j v hv
def lpk (b c : Nat) : Lp := ⟨some ⟨b, 0, none⟩, 1, some ⟨c, 0, none⟩, 1⟩
set_option maxHeartbeats 1500000 in
set_option maxRecDepth 100000 in
theorem skew_any (w : World) : Calls Try.prog 6 #[] w fun e w' => ∃ a c p, e = .returned (.slice a 2 c) ∧ TXM w' a skL p ∧ Keeps (fun _ => False) w w' := by
  obtain ⟨W1, hW1⟩ : ∃ W1, W1 = w.alloc (.cells sk1.cells.toArray 46) := ⟨_, rfl⟩
  obtain ⟨W2, hW2⟩ : ∃ W2, W2 = W1.alloc (.cells wk0.cells.toArray 48) := ⟨_, rfl⟩
  obtain ⟨W3, hW3⟩ : ∃ W3, W3 = W2.alloc (.cells sk0.cells.toArray 46) := ⟨_, rfl⟩
  obtain ⟨W4, hW4⟩ : ∃ W4, W4 = W3.alloc (.cells wk1.cells.toArray 48) := ⟨_, rfl⟩
  obtain ⟨b1, hb1⟩ : ∃ b1, b1 = w.heap.size := ⟨_, rfl⟩
  obtain ⟨b2, hb2⟩ : ∃ b2, b2 = W1.heap.size := ⟨_, rfl⟩
  obtain ⟨b3, hb3⟩ : ∃ b3, b3 = W2.heap.size := ⟨_, rfl⟩
  obtain ⟨b4, hb4⟩ : ∃ b4, b4 = W3.heap.size := ⟨_, rfl⟩
  obtain ⟨b5, hb5⟩ : ∃ b5, b5 = W4.heap.size := ⟨_, rfl⟩
  obtain ⟨W5, hW5⟩ : ∃ W5, W5 = W4.alloc (.cells (tk0.clp (lpk b1 b2) ++ tk1.clp (lpk b3 b4)).toArray 32) := ⟨_, rfl⟩
  have k1 : Keeps (fun _ => False) w W1 := by rw [hW1]; exact (Keeps.refl _ w).alloc _
  have k2 : Keeps (fun _ => False) W1 W2 := by rw [hW2]; exact (Keeps.refl _ W1).alloc _
  have k3 : Keeps (fun _ => False) W2 W3 := by rw [hW3]; exact (Keeps.refl _ W2).alloc _
  have k4 : Keeps (fun _ => False) W3 W4 := by rw [hW4]; exact (Keeps.refl _ W3).alloc _
  have k5 : Keeps (fun _ => False) W4 W5 := by rw [hW5]; exact (Keeps.refl _ W4).alloc _
  have C1 : SWM W5 (some ⟨b1, 0, none⟩) [sk1] := by
    have h : CL W1 b1 sk1.cells := by rw [hW1, hb1]; exact CL.made w sk1.cells _
    exact ((((SWM.one h).keep k2).keep k3).keep k4).keep k5
  have C2 : WOM W5 (some ⟨b2, 0, none⟩) [wk0] := by
    have h : CL W2 b2 wk0.cells := by rw [hW2, hb2]; exact CL.made W1 wk0.cells _
    exact (((WOM.one h).keep k3).keep k4).keep k5
  have C3 : SWM W5 (some ⟨b3, 0, none⟩) [sk0] := by
    have h : CL W3 b3 sk0.cells := by rw [hW3, hb3]; exact CL.made W2 sk0.cells _
    exact ((SWM.one h).keep k4).keep k5
  have C4 : WOM W5 (some ⟨b4, 0, none⟩) [wk1] := by
    have h : CL W4 b4 wk1.cells := by rw [hW4, hb4]; exact CL.made W3 wk1.cells _
    exact (WOM.one h).keep k5
  have C5 : CL W5 b5 (tk0.clp (lpk b1 b2) ++ tk1.clp (lpk b3 b4)) := by rw [hW5, hb5]; exact CL.made W4 _ _
  have HX : Hid (∃ a c p, Ending.returned (.slice (some ⟨b5, 0, none⟩) 2 2) = .returned (.slice a 2 c) ∧ TXM W5 a skL p ∧ Keeps (fun _ => False) w W5) := by
    refine ⟨_, _, fun i => if i = 0 then lpk b1 b2 else lpk b3 b4, rfl, fun i hi => ?_, (((k1.trans k2).trans k3).trans k4).trans k5⟩
    have hi : i < 2 := hi
    match i, hi with
    | 0, _ =>
      refine ⟨⟨b5, 0, rfl, fun j v hv => ?_⟩, C1, C2⟩
      rw [show 0 + 0 * 11 + j = j by omega]
      have hv : (tk0.clp (lpk b1 b2))[j]? = some v := hv
      have hj : j < (tk0.clp (lpk b1 b2)).length := (List.getElem?_eq_some_iff.1 hv).1
      exact C5.c j v (by rw [List.getElem?_append_left hj]; exact hv)
    | 1, _ =>
      refine ⟨⟨b5, 0, rfl, fun j v hv => ?_⟩, C3, C4⟩
      rw [show 0 + 1 * 11 + j = 11 + j by omega]
      have hv : (tk1.clp (lpk b3 b4))[j]? = some v := hv
      refine C5.c (11 + j) v ?_
      rw [List.getElem?_append_right (by show 11 ≤ 11 + j; omega)]
      show (tk1.clp (lpk b3 b4))[11 + j - 11]? = some v
      rw [show 11 + j - 11 = j by omega]
      exact hv
  have HW1 : Hid (W1 = w.alloc (.cells sk1.cells.toArray 46)) := hW1
  have HW2 : Hid (W2 = W1.alloc (.cells wk0.cells.toArray 48)) := hW2
  have HW3 : Hid (W3 = W2.alloc (.cells sk0.cells.toArray 46)) := hW3
  have HW4 : Hid (W4 = W3.alloc (.cells wk1.cells.toArray 48)) := hW4
  have HW5 : Hid (W5 = W4.alloc (.cells (tk0.clp (lpk b1 b2) ++ tk1.clp (lpk b3 b4)).toArray 32)) := hW5
  have HB1 : Hid (b1 = w.heap.size) := hb1
  have HB2 : Hid (b2 = W1.heap.size) := hb2
  have HB3 : Hid (b3 = W2.heap.size) := hb3
  have HB4 : Hid (b4 = W3.heap.size) := hb4
  have HB5 : Hid (b5 = W4.heap.size) := hb5
  clear hW1 hW2 hW3 hW4 hW5 hb1 hb2 hb3 hb4 hb5 k1 k2 k3 k4 k5 C1 C2 C3 C4 C5
  go_enter Try.func6, Try.ntmps6
  go_wp2_with (first | (refine wpList_build1L uSw iSw (by decide) (by decide) rfl _ rfl sk1.cells rfl rfl ?_; rw [← HW1.out, ← HB1.out]; clear HW1 HB1) | (refine wpList_build1L uWo iWo (by decide) (by decide) rfl _ rfl wk0.cells rfl rfl ?_; rw [← HW2.out, ← HB2.out]; clear HW2 HB2) | (refine wpList_build1L uSw iSw (by decide) (by decide) rfl _ rfl sk0.cells rfl rfl ?_; rw [← HW3.out, ← HB3.out]; clear HW3 HB3) | (refine wpList_build1L uWo iWo (by decide) (by decide) rfl _ rfl wk1.cells rfl rfl ?_; rw [← HW4.out, ← HB4.out]; clear HW4 HB4) | (refine wpList_build2L uTx iTxz (by decide) (by decide) rfl _ _ rfl (tk0.clp (lpk b1 b2)) (tk1.clp (lpk b3 b4)) rfl rfl rfl rfl ?_; rw [← HW5.out, ← HB5.out]; clear HW5 HB5))
  go_ret
  exact HX.out
theorem wsum_sum (ts : List Tv) : ∀ k, k ≤ ts.length → wsum ts k ≤ sumT (ts.take k)
  | 0, _ => Nat.zero_le _
  | k + 1, h => by
    have ih := wsum_sum ts k (by omega)
    rw [sumT_next (by omega)]
    show wsum ts k + (ts.getD k tv0).wrs.length ≤ _
    omega
/-- Of the document's Build. -/
theorem rBuild_t {w : World} {a : Option Addr} {cap : Nat} {ts : List Tv} {p : Nat → Lp} (hT : TXM w a ts p) (hI : TsI ts) : Calls Try.prog 8 #[.slice a ts.length cap] w (BuP ts w) := by
  refine rBuild_any hT hI.l ?_ (fun i hi => ?_)
  · have := wsum_sum ts ts.length (Nat.le_refl _)
    rw [List.take_length] at this
    exact Nat.le_trans this hI.s
  · have h1 := sumT_next hi
    have h2 := sumT_le ts (i + 1)
    have h3 := hI.s
    omega
/-- Build of the two. -/
theorem Build_sk {w : World} {a : Option Addr} {c : Nat} {p : Nat → Lp} (hT : TXM w a skL p) : Calls Try.prog 5 #[.slice a 2 c] w fun e w' => ∃ g cc, e = .returned (.tuple #[.slice (some ⟨g, 0, none⟩) 2 cc, .int .i64 0]) ∧ CL w' g (ecl [⟨0, 1, 2, 1⟩, ⟨1, 0, 2, 0⟩]) ∧ Keeps (fun _ => False) w w' := by
  have h := Build_any (cap := c) hT skL_i
  refine h.mono ?_
  rintro e w' ⟨va, vc, l, ec, rfl, ho, hb, k⟩
  obtain ⟨rfl, rfl⟩ := hb.one skL_b
  rcases ho.2 with ⟨-, h0⟩ | ⟨g, cap, cur, e, -⟩
  · exact absurd h0 (by decide)
  · obtain ⟨e1, -, e3⟩ := Value.slice.inj e
    subst e1 e3
    exact ⟨g, vc, rfl, own_clL ho, k⟩
end Go.Proofs.Ythmlppepgcjfgaa
