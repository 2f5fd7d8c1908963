import Derived.Test.YtgfjhogogajbjaaSchRobin
namespace Go.Proofs.Ytgfjhogogajbjaa
open Go.RowKit

theorem fair_at {n : Int} {m : Nat} {z : Nat → Int} {k : Int} {b : Bool} {er : Int} {R : Nat} (h : FairIs n m z k b er) (hz : rfz n m = 0) (hR : Gap (nmf n.toNat z) m n.toNat R) (hk : 1 ≤ k) : b = decide ((R : Int) + 1 ≤ k) ∧ er = 0 := by
  rcases h with ⟨_, h, _⟩ | ⟨_, _, rfl, R', hR', rfl⟩ | ⟨h, _⟩
  · omega
  · rw [hR.uniq hR']; exact ⟨rfl, rfl⟩
  · exact absurd hz h
theorem fair_lo {n : Int} {m : Nat} {z : Nat → Int} {k : Int} {b : Bool} {er : Int} (h : FairIs n m z k b er) (hz : rfz n m = 0) (hk : k < 1) : b = false ∧ er = 43 := by
  rcases h with ⟨_, _, h1, h2⟩ | ⟨_, h, _⟩ | ⟨h, _⟩
  · exact ⟨h1, h2⟩
  · omega
  · exact absurd hz h
set_option maxHeartbeats 1600000 in
set_option maxRecDepth 1000000 in
theorem lnamed_any (w : World) (n : Nat) (p : Int) : Calls Try.prog 14 #[.int .i64 (n : Int), .int .i64 p] w fun e w' => e = .returned (.int .i64 (nmz n p)) ∧ w' = w := by
  go_enter Try.func14, Try.ntmps14
  by_cases h1 : p < 0
  · have e : nmz n p = -1 := if_pos (.inl h1)
    go_wp2
    go_ret
    first | exact ⟨rfl, rfl⟩ | exact ⟨by rw [e]; rfl, rfl⟩
  · by_cases h2 : (n : Int) ≤ p
    · have e : nmz n p = -1 := if_pos (.inr h2)
      go_wp2
      go_ret
      first | exact ⟨rfl, rfl⟩ | exact ⟨by rw [e]; rfl, rfl⟩
    · have e : nmz n p = p := if_neg (by omega)
      go_wp2
      go_ret
      first | exact ⟨rfl, rfl⟩ | exact ⟨by rw [e]; rfl, rfl⟩

set_option maxHeartbeats 6400000 in
set_option maxRecDepth 1000000 in
theorem schedWindow_walk {w : World} (th : Int) {a : Option Addr} {m : Nat} {z : Nat → Int} (h : NL w a m z) (hm : m ≤ 9223372036854775807) (cap : Nat) (fr : Int) (hfr : I64 fr) (k : Int) (hk : I64 k) (tt : Int) (_ : I64 tt) :
    Calls Try.prog 8 #[.agg #[.int .i64 th, .slice a m cap, .int .i64 fr, .int .i64 k, .int .i64 tt]] w fun e w' => e = .returned (.bool true) ∧ Below w.heap.size w w' := by
  have K0 : Keeps (fun _ => False) w (w.alloc (.cells #[.int .i64 th, .slice a m cap, .int .i64 fr, .int .i64 k, .int .i64 tt] 43)) := (Keeps.refl _ w).alloc _
  go_enter Try.func8, Try.ntmps8
  go_wp2_with fail
  obtain ⟨W1, hW1⟩ : ∃ W1, W1 = w.alloc (.cells #[.int .i64 th, .slice a m cap, .int .i64 fr, .int .i64 k, .int .i64 tt] 43) := ⟨_, rfl⟩
  have C0 : ∀ u : KS W1, u.1.cell? ⟨w.heap.size, 0, none⟩ = some (.int .i64 th) := ks_cell (by rw [hW1]; simp)
  have C1 : ∀ u : KS W1, u.1.cell? ⟨w.heap.size, 1, none⟩ = some (.slice a m cap) := ks_cell (by rw [hW1]; simp)
  have C2 : ∀ u : KS W1, u.1.cell? ⟨w.heap.size, 2, none⟩ = some (.int .i64 fr) := ks_cell (by rw [hW1]; simp)
  have C3 : ∀ u : KS W1, u.1.cell? ⟨w.heap.size, 3, none⟩ = some (.int .i64 k) := ks_cell (by rw [hW1]; simp)
  have C4 : ∀ u : KS W1, u.1.cell? ⟨w.heap.size, 4, none⟩ = some (.int .i64 tt) := ks_cell (by rw [hW1]; simp)
  rw [← hW1] at K0 ⊢
  have hNE : Nonempty (KS W1) := ⟨⟨W1, Keeps.refl _ W1⟩⟩
  clear hW1
  refine wp_region_ks (by kernel_rfl) (by kernel_rfl) ?_
  repeat (go_big_quiet_step (fail))
  refine wpQuiet_nil ?_
  rintro _ ⟨u, rfl⟩
  have K2 := K0.trans u.property
  clear C0 C1 C2 C3 C4 hNE
  generalize u.val = W2 at K2 ⊢
  have h2 := h.new K2
  have l1 := least_gen h2 cap th
  have ht := fun (W : World) => taken_any W th a m cap
  have hF := fun (W : World) (K : Keeps (fun _ => False) W2 W) (k : Int) => fair_gen (h2.new K) cap th k
  by_cases hz : rfz th m = 0
  · have hzm := rfz_zero hz
    obtain ⟨nt, rfl⟩ : ∃ nt : Nat, th = (nt : Int) := ⟨th.toNat, by omega⟩
    rw [decide_eq_true hz] at ht
    have M1 : IntKind.i64.wrap ((m : Int) + 1) = (m : Int) + 1 := by rw [IntKind.wrap_i64]; omega
    have F1 := hF
    have F2 := hF
    have hnl2 := h2
    clear h h2 K0
    go_wp2_with (first | (go_at_call 9; refine l1.mono ?_; clear l1; rintro e w5 ⟨v, er, rfl, k5, hv⟩; obtain ⟨_, rfl, R, gR, hv⟩ := hv.resolve_right (fun h => h.1 hz); have A0 := gR.le; have A1 : decide (v < 1) = false := decide_eq_false (by omega); have A2 : decide ((m : Int) + 1 < v) = false := decide_eq_false (by omega); have A3 : IntKind.i64.wrap (v - 1) = v - 1 := (by rw [IntKind.wrap_i64]; omega); have HV := (show Hid _ from hv); clear hv) | (go_at_call 10; refine (ht _).mono ?_; clear ht; rintro e w8 ⟨rfl, rfl⟩) | (go_at_call 15; refine (F1 _ k5 v).mono ?_; clear F1; rintro e w6 ⟨b1, e1, rfl, k6, h6⟩; obtain ⟨rfl, rfl⟩ := fair_at h6 hz gR (by have := HV.out; omega); rw [decide_eq_true (by have := HV.out; omega : (R : Int) + 1 ≤ v)]) | (go_at_call 15; refine (F2 _ (k5.trans k6) (v - 1)).mono ?_; clear F2; rintro e w7 ⟨b2, e2, rfl, k7, h7⟩; obtain ⟨rfl, B3⟩ : b2 = false ∧ (e2 == 43) = (v == 1) := (by
      have hv := HV.out
      by_cases h0 : R = 0
      · obtain ⟨h1, h2⟩ := fair_lo h7 hz (by omega)
        refine ⟨h1, ?_⟩
        rw [h2, hv, h0]; rfl
      · obtain ⟨h1, h2⟩ := fair_at h7 hz gR (by omega)
        refine ⟨h1.trans (decide_eq_false (by omega)), ?_⟩
        rw [h2]
        have : (v == 1) = false := (by simp; omega)
        rw [this]; rfl)))
    by_cases hk1 : k < 1
    · have D1 : decide (k < 1) = true := decide_eq_true hk1
      go_wp2_with ((go_at_call 15; refine (hF _ ((k5.trans k6).trans k7) k).mono ?_; clear hF; rintro e w8 ⟨c, e3, rfl, k8, h8⟩; obtain ⟨rfl, rfl⟩ := fair_lo h8 hz hk1))
      go_ret
      exact ⟨rfl, (K2.trans (((k5.trans k6).trans k7).trans k8)).below (Nat.le_refl _) (fun _ _ e => e)⟩
    have D1 : decide (k < 1) = false := decide_eq_false hk1
    by_cases h1 : fr < 0
    · have Eh1 : decide (fr < 0) = true := decide_eq_true h1
      go_wp2_with ((go_at_call 15; refine (hF _ ((k5.trans k6).trans k7) k).mono ?_; clear hF; rintro e w8 ⟨c, e3, rfl, k8, h8⟩; obtain ⟨rfl, rfl⟩ := fair_at h8 hz gR (by omega); rw [show decide ((R : Int) + 1 ≤ k) = decide (v ≤ k) from (by rw [HV.out])]))
      go_ret
      exact ⟨rfl, (K2.trans (((k5.trans k6).trans k7).trans k8)).below (Nat.le_refl _) (fun _ _ e => e)⟩
    have Eh1 : decide (fr < 0) = false := decide_eq_false h1
    by_cases h2 : tt < 0
    · have Eh2 : decide (tt < 0) = true := decide_eq_true h2
      go_wp2_with ((go_at_call 15; refine (hF _ ((k5.trans k6).trans k7) k).mono ?_; clear hF; rintro e w8 ⟨c, e3, rfl, k8, h8⟩; obtain ⟨rfl, rfl⟩ := fair_at h8 hz gR (by omega); rw [show decide ((R : Int) + 1 ≤ k) = decide (v ≤ k) from (by rw [HV.out])]))
      go_ret
      exact ⟨rfl, (K2.trans (((k5.trans k6).trans k7).trans k8)).below (Nat.le_refl _) (fun _ _ e => e)⟩
    have Eh2 : decide (tt < 0) = false := decide_eq_false h2
    by_cases h3 : (nt : Int) ≤ tt
    · have Eh3 : decide ((nt : Int) ≤ tt) = true := decide_eq_true h3
      go_wp2_with ((go_at_call 15; refine (hF _ ((k5.trans k6).trans k7) k).mono ?_; clear hF; rintro e w8 ⟨c, e3, rfl, k8, h8⟩; obtain ⟨rfl, rfl⟩ := fair_at h8 hz gR (by omega); rw [show decide ((R : Int) + 1 ≤ k) = decide (v ≤ k) from (by rw [HV.out])]))
      go_ret
      exact ⟨rfl, (K2.trans (((k5.trans k6).trans k7).trans k8)).below (Nat.le_refl _) (fun _ _ e => e)⟩
    have Eh3 : decide ((nt : Int) ≤ tt) = false := decide_eq_false h3
    by_cases h4 : (m : Int) < k
    · have Eh4 : decide ((m : Int) < k) = true := decide_eq_true h4
      go_wp2_with ((go_at_call 15; refine (hF _ ((k5.trans k6).trans k7) k).mono ?_; clear hF; rintro e w8 ⟨c, e3, rfl, k8, h8⟩; obtain ⟨rfl, rfl⟩ := fair_at h8 hz gR (by omega); rw [show decide ((R : Int) + 1 ≤ k) = decide (v ≤ k) from (by rw [HV.out])]))
      go_ret
      exact ⟨rfl, (K2.trans (((k5.trans k6).trans k7).trans k8)).below (Nat.le_refl _) (fun _ _ e => e)⟩
    have Eh4 : decide ((m : Int) < k) = false := decide_eq_false h4
    have W1' : IntKind.i64.wrap ((m : Int) - k) = (m : Int) - k := by rw [IntKind.wrap_i64]; omega
    by_cases h5 : (m : Int) - k < fr
    · have Eh5 : decide ((m : Int) - k < fr) = true := decide_eq_true h5
      go_wp2_with ((go_at_call 15; refine (hF _ ((k5.trans k6).trans k7) k).mono ?_; clear hF; rintro e w8 ⟨c, e3, rfl, k8, h8⟩; obtain ⟨rfl, rfl⟩ := fair_at h8 hz gR (by omega); rw [show decide ((R : Int) + 1 ≤ k) = decide (v ≤ k) from (by rw [HV.out])]))
      go_ret
      exact ⟨rfl, (K2.trans (((k5.trans k6).trans k7).trans k8)).below (Nat.le_refl _) (fun _ _ e => e)⟩
    have Eh5 : decide ((m : Int) - k < fr) = false := decide_eq_false h5
    obtain ⟨f0, rfl⟩ : ∃ f0 : Nat, fr = (f0 : Int) := ⟨fr.toNat, by omega⟩
    obtain ⟨kk, rfl⟩ : ∃ kk : Nat, k = (kk : Int) := ⟨k.toNat, by omega⟩
    obtain ⟨t, rfl⟩ : ∃ t : Nat, tt = (t : Int) := ⟨tt.toNat, by omega⟩
    have X1 : IntKind.i64.wrap ((f0 : Int) + (kk : Int)) = (f0 : Int) + (kk : Int) := by rw [IntKind.wrap_i64]; omega
    have N3 : decide (nt ≤ t) = false := decide_eq_false (by omega)
    have N4 : decide (m < kk) = false := decide_eq_false (by omega)
    have hln := lnamed_any
    go_wp2_with ((go_at_call 15; refine (hF _ ((k5.trans k6).trans k7) _).mono ?_; clear hF; rintro e w8 ⟨c, e3, rfl, k8, h8⟩; obtain ⟨rfl, rfl⟩ := fair_at h8 hz gR (by omega); rw [show decide ((R : Int) + 1 ≤ (kk : Int)) = decide (v ≤ (kk : Int)) from (by rw [HV.out])]))
    have K8 := (((k5.trans k6).trans k7).trans k8)
    have HNL : Hid (NL W2 a m z) := hnl2
    clear k5 k6 k7 k8 hnl2
    go_loopw [16] (fun i wr => ∃ j : Nat, f0 ≤ j ∧ j ≤ f0 + kk ∧ i = .int .i64 (j : Int) ∧ (∀ x, f0 ≤ x → x < j → nmf nt z x ≠ (t : Int)) ∧ Keeps (fun _ => False) W2 wr) (fun i _ => f0 + kk - (intOf i).toNat)
    case atStart => exact ⟨f0, Nat.le_refl _, by omega, rfl, fun x x1 x2 => by omega, K8⟩
    case round =>
      clear K8
      obtain ⟨j, hj1, hj2, rfl, hjs, K9⟩ := hrel
      by_cases hlt : j < f0 + kk
      · have hltI : decide ((j : Int) < (f0 : Int) + (kk : Int)) = true := decide_eq_true (by omega)
        have hjm : (j : Int) < (m : Int) := by omega
        obtain ⟨b, off, rfl, hb, hc⟩ := HNL.out.resolve_left (by omega)
        have cj := K9.cell (hc j (by omega)) (fun e => e)
        clear hc
        by_cases he : nmz nt (z j) = (t : Int)
        · have heb : (nmz nt (z j) == (t : Int)) = true := by simp [he]
          clear he
          go_wp2_with ((go_at_call 14; refine (hln _ _ _).mono ?_; rintro e w9 ⟨rfl, rfl⟩))
          go_ret
          exact ⟨rfl, (K2.trans K9).below (Nat.le_refl _) (fun _ _ e => e)⟩
        · have heb : (nmz nt (z j) == (t : Int)) = false := by simp [he]
          have HE := (show Hid _ from he)
          clear he
          go_wp2_with ((go_at_call 14; refine (hln _ _ _).mono ?_; rintro e w9 ⟨rfl, rfl⟩))
          go_roundw
          case rel => exact ⟨j + 1, by omega, by omega, by go_num, fun x x1 x2 => (by
            by_cases ex : x = j
            · rw [ex]; exact HE.out
            · exact hjs x x1 (by omega)), K9⟩
          case measure => simp [intOf]; omega
      · have hltI : decide ((j : Int) < (f0 : Int) + (kk : Int)) = false := decide_eq_false (by omega)
        obtain rfl : j = f0 + kk := by omega
        have hg := gR.most t f0 kk (by simp; omega) (by omega) (by simpa using hjs)
        have P1 : decide (v ≤ (kk : Int)) = false := decide_eq_false (by have := HV.out; omega)
        have P2 : decide ((kk : Int) < v) = true := decide_eq_true (by have := HV.out; omega)
        clear hjs
        go_wp2_with fail
        go_ret
        exact ⟨rfl, (K2.trans K9).below (Nat.le_refl _) (fun _ _ e => e)⟩
  · have hzb : decide (rfz th m = 0) = false := decide_eq_false hz
    rw [hzb] at ht
    clear hF hzb
    have l2 := least_no W2 th a m cap hz
    have h4 : Hid (rfz th m = 40 ∨ rfz th m = 41) := (rfz_not hz).elim (fun h => .inl h.2) (fun h => .inr h.2)
    clear l1
    rcases h4.out with e4 | e4
    · rw [e4] at l2
      clear e4 hz h4
      go_wp2_with (first | (go_at_call 9; refine l2.mono ?_; clear l2; rintro e w5 ⟨rfl, rfl⟩) | (go_at_call 10; refine (ht _).mono ?_; clear ht; rintro e w8 ⟨rfl, rfl⟩))
      go_ret
      exact ⟨rfl, K2.below (Nat.le_refl _) (fun _ _ e => e)⟩
    · rw [e4] at l2
      clear e4 hz h4
      go_wp2_with (first | (go_at_call 9; refine l2.mono ?_; clear l2; rintro e w5 ⟨rfl, rfl⟩) | (go_at_call 10; refine (ht _).mono ?_; clear ht; rintro e w8 ⟨rfl, rfl⟩))
      go_ret
      exact ⟨rfl, K2.below (Nat.le_refl _) (fun _ _ e => e)⟩
end Go.Proofs.Ytgfjhogogajbjaa
