import Derived.Test.YtgfjhogogajbjabSchR5
namespace Go.Proofs.Ytgfjhogogajbjab
open Go.RowKit

theorem cat_zero (z z' : Nat → Int) : cat z 0 z' = z' := by funext i; simp [cat]
theorem nums_at {z : Nat → Int} {n j : Nat} (h : j < n) : (nums z n)[j]? = some (.int .i64 (z j)) := by simp [nums, h]
theorem made_empty (w : World) (z : Nat → Int) : (w.alloc (.cells #[] 2)).ownsRow w.heap.size 2 1 (.slice (some ⟨w.heap.size, 0, none⟩) 0 0) 0 (nums z 0) := World.ownsRow_made w #[] 0 (Nat.le_refl _) (by unfold maxLen; omega) rfl

set_option maxHeartbeats 6400000 in
set_option maxRecDepth 1000000 in
theorem schedFairs_walk {w : World} (n : Int) (_ : I64 n) {a : Option Addr} {m : Nat} {z : Nat → Int} (h : NL w a m z) (_ : ∀ i, i < m → I64 (z i)) (b : m ≤ 1048576) (cap : Nat) (k : Int) (_ : I64 k) :
    Calls Try.prog 4 #[.int .i64 n, .slice a m cap, .int .i64 k] w fun e w' => e = .returned (.bool true) ∧ Below w.heap.size w w' := by
  have K0 : Keeps (fun _ => False) w (w.alloc (.cells #[] 2)) := (Keeps.refl _ w).alloc _
  obtain ⟨v1, w1, r1, o1, k1, n1⟩ := append_nl (cap := cap) (made_empty w z) (by simp) (h.new K0) (by omega) (by simp)
  rw [cat_zero, Nat.zero_add] at o1
  have K1 : Keeps (fun _ => False) w w1 := K0.trans' k1 (fun _ _ e => e) (fun i hi e => by simp [Value.ownBlock] at e; omega)
  have K0' : Keeps (fun _ => False) w1 (w1.alloc (.cells #[] 2)) := (Keeps.refl _ w1).alloc _
  obtain ⟨v2, w2, r2, o2, k2, n2⟩ := append_nl (cap := cap) (made_empty w1 z) (by simp) ((h.new K1).new K0') (by omega) (by simp)
  rw [cat_zero, Nat.zero_add] at o2
  have K2 : Keeps (fun _ => False) w1 w2 := K0'.trans' k2 (fun _ _ e => e) (fun i hi e => by simp [Value.ownBlock] at e; omega)
  have z2 := K2.size
  obtain ⟨v3, w3, r3, o3, k3, n3⟩ := append_nl (cap := 2) (o2.alloc _) n2 (lit_nl w2 [77, 78]) (by simp; omega) (by simp; omega)
  have K3 : Keeps (fun _ => False) w1 w3 := (K2.alloc _).trans' k3 (fun _ _ e => e) (fun i hi e => by have := owns_base o2 i e; omega)
  obtain ⟨a1, cap1, rfl, hnl1, hb1⟩ := owns_nl o1
  obtain ⟨g3, cap3, rfl⟩ := ownsRow_succ (k := m + 1) o3
  have hc3 : m + 2 ≤ cap3 := by
    rcases o3.2 with ⟨e, _⟩ | ⟨g, c, cur, e, _, _, hc, _⟩
    · cases e
    · cases e; exact hc
  have cells3 : ∀ i, i < m + 2 → w3.cell? ⟨g3, i, none⟩ = some (.int .i64 (cat z m (fun i => [77, 78].getD i 0) i)) := fun i hi => by
    have := o3.cells (g := g3) rfl i (.int .i64 (cat z m (fun i => [77, 78].getD i 0) i)) (nums_at (by simpa using hi))
    rwa [add_none, Nat.zero_add] at this
  have hP : NL w3 (some ⟨g3, 0, none⟩) m z := by
    by_cases h0 : m = 0
    · exact .inl h0
    · refine .inr ⟨g3, 0, rfl, World.block_lt_of_cell? _ _ (cells3 0 (by omega)), fun i hi => ?_⟩
      have := cells3 i (by omega)
      rw [show cat z m (fun i => [77, 78].getD i 0) i = z i by simp [cat, hi]] at this
      rwa [Nat.zero_add]
  have hQ := hnl1.new K3
  have c77 : w3.cell? ⟨g3, m, none⟩ = some (.int .i64 77) := by have := cells3 m (by omega); simpa [cat] using this
  have c78 : w3.cell? ⟨g3, m + 1, none⟩ = some (.int .i64 78) := by have := cells3 (m + 1) (by omega); simpa [cat, show ¬ m + 1 < m by omega] using this
  have KW := K1.trans K3
  clear o1 o2 o3 k1 k2 k3 n1 n2 n3 K0 K0' K2 hnl1 cells3 hb1 z2
  have f1 := fun (W : World) (K : Keeps (fun _ => False) w3 W) => fair_gen (hP.new K) cap3 n k
  have f2 := fun (W : World) (K : Keeps (fun _ => False) w3 W) => rFair_gen (hQ.new K) cap1 n k
  have l1 := fun (W : World) (K : Keeps (fun _ => False) w3 W) => least_gen (hP.new K) cap3 n
  have l2 := fun (W : World) (K : Keeps (fun _ => False) w3 W) => rLeast_gen (hQ.new K) cap1 n
  have t1 := fun (W : World) (K : Keeps (fun _ => False) w3 W) => tail_gen (hP.new K) cap3 n
  have t2 := fun (W : World) (K : Keeps (fun _ => False) w3 W) => rTail_gen (hQ.new K) cap1 n
  have hcI : (m : Int) ≤ (cap3 : Int) := by omega
  simp only [List.length_cons, List.length_nil, Nat.reduceAdd] at r3
  go_enter Try.func4, Try.ntmps4
  go_wp2_with (first | (at_builtin; refine wpList_append_run rfl _ _ _ rfl _ _ _ w1 rfl rfl r1 ?_; clear r1) | (at_builtin; refine wpList_append_run rfl _ _ _ rfl _ _ _ w2 rfl rfl r2 ?_; clear r2) | (at_builtin; refine wpList_append_run rfl _ _ _ rfl _ _ _ w3 rfl rfl r3 ?_; clear r3) | (go_at_call 13; refine (f1 _ (Keeps.refl _ _)).mono ?_; clear f1; rintro e w5 ⟨bb, e1, rfl, k5, h5⟩) | (go_at_call 14; refine (f2 _ k5).mono ?_; clear f2; rintro e w6 ⟨b2, e2, rfl, hw6, h6⟩; have hw6 := hw6.symm; subst hw6; obtain ⟨rfl, rfl⟩ := FairIs.uniq h6 h5) | (go_at_call 15; refine (l1 _ k5).mono ?_; clear l1; rintro e w7 ⟨v7, e7, rfl, k7, h7⟩) | (go_at_call 16; refine (l2 _ (k5.trans k7)).mono ?_; clear l2; rintro e w8 ⟨v8, e8, rfl, hw8, h8⟩; have hw8 := hw8.symm; subst hw8; obtain ⟨rfl, rfl⟩ := LeastIs.uniq h8 h7) | (go_at_call 17; refine (t1 _ (k5.trans k7)).mono ?_; clear t1; rintro e w9 ⟨c9, e9, rfl, k9, h9⟩; have K9 := (k5.trans k7).trans k9) | (go_at_call 18; refine (t2 _ (K9.alloc _)).mono ?_; clear t2; rintro e w10 ⟨c10, e10, rfl, k10, h10⟩; obtain ⟨rfl, rfl⟩ := TailIs.uniq h10 h9; have K10 := (K9.alloc _).trans k10; have y0 := k10.cell (p := ⟨w9.heap.size, 0, none⟩) (v := .int .i64 c10.th) (by simp) (fun e => e); have y1 := k10.cell (p := ⟨w9.heap.size, 1, none⟩) (v := .int .i64 (c10.fr : Int)) (by simp) (fun e => e); have y2 := k10.cell (p := ⟨w9.heap.size, 2, none⟩) (v := .int .i64 (c10.len : Int)) (by simp) (fun e => e); have Y0 := (fun o => ((Keeps.refl (fun _ => False) w10).alloc o).cell y0 (fun e => e)); have Y1 := (fun o => ((Keeps.refl (fun _ => False) w10).alloc o).cell y1 (fun e => e)); have Y2 := (fun o => ((Keeps.refl (fun _ => False) w10).alloc o).cell y2 (fun e => e))))
  have K11 : Keeps (fun _ => False) w3 (w10.alloc (.cells #[.int .i64 c10.th, .int .i64 (c10.fr : Int), .int .i64 (c10.len : Int)] 51)) := K10.alloc _
  generalize w10.alloc (.cells #[.int .i64 c10.th, .int .i64 (c10.fr : Int), .int .i64 (c10.len : Int)] 51) = W11 at K11 ⊢
  clear Y0 Y1 Y2 y0 y1 y2 k5 k7 k9 k10 h5 h6 h7 h8 h9 h10
  go_loopw [17] (fun i wr => ∃ j : Nat, j ≤ m ∧ i = .int .i64 (j : Int) ∧ Keeps (fun _ => False) w3 wr) (fun i _ => m - (intOf i).toNat)
  case atStart => exact ⟨0, Nat.zero_le _, rfl, K11⟩
  case round =>
    clear K11
    obtain ⟨j, hj, rfl, K12⟩ := hrel
    by_cases hlt : j < m
    · have g1 : decide ((j : Int) < (m : Int)) = true := decide_eq_true (by omega)
      have g1n : decide (j < m) = true := decide_eq_true hlt
      have hjI : (j : Int) < (m : Int) := by omega
      obtain ⟨b1, o1, e1, _, hc1⟩ := hP.resolve_left (by omega)
      cases e1
      obtain ⟨b2, o2, rfl, _, hc2⟩ := hQ.resolve_left (by omega)
      have x1 := K12.cell (hc1 j hlt) (fun e => e)
      have x2 := K12.cell (hc2 j hlt) (fun e => e)
      rw [Nat.zero_add] at x1
      have X1 := ks_cell x1
      have X2 := ks_cell x2
      have hNE : Nonempty (KS wr) := ⟨⟨wr, Keeps.refl _ wr⟩⟩
      clear hc1 hc2 x1 x2
      go_wp2_with fail
      refine wp_region_ks (by kernel_rfl) (by kernel_rfl) ?_
      repeat (go_big_quiet_step (fail))
      refine wpQuiet_nil ?_
      rintro _ ⟨u, rfl⟩
      have KU := u.property
      clear X1 X2 hNE
      generalize u.val = W6 at KU ⊢
      go_wp2_with fail
      go_roundw
      case rel => exact ⟨j + 1, by omega, by go_num, K12.trans KU⟩
      case measure => simp [intOf]; omega
    · have g1 : decide ((j : Int) < (m : Int)) = false := decide_eq_false (by omega)
      have g1n : decide (j < m) = false := decide_eq_false hlt
      obtain rfl : j = m := by omega
      have l4 := fun (W : World) => least_gen (lit_nl W [0, 1, 2, 0, 1, 2]) 6 3
      have hA1 : (j : Int) < ((j + 2 : Nat) : Int) := by omega
      have hA2 : (j : Int) + 1 < ((j + 2 : Nat) : Int) := by omega
      go_wp2_with ((go_at_call 15; refine (l4 _).mono ?_; clear l4; rintro e w13 ⟨v13, e13, rfl, k13, hv13⟩; obtain ⟨rfl, rfl⟩ := least_lit hv13 2 (by decide) (by decide); have K13 := (K12.alloc _).trans k13; have q1 := K13.cell c77 (fun e => e); have q2 := K13.cell c78 (fun e => e)))
      go_ret
      exact ⟨rfl, (KW.trans K13).below (Nat.le_refl _) (fun _ _ e => e)⟩
end Go.Proofs.Ytgfjhogogajbjab
