import Derived.Test.YtgfjhogogajbjaaSchJ
namespace Go.Proofs.Ytgfjhogogajbjaa
open Go.RowKit

theorem nums_congr {z z' : Nat → Int} {n : Nat} (h : ∀ i, i < n → z i = z' i) : nums z n = nums z' n := by
  unfold nums
  apply List.map_congr_left
  intro i hi
  rw [h i (by simpa using hi)]
/-- One number more. -/
theorem append_one {w : World} {base k : Nat} {v : Value} {z : Nat → Int} (hown : w.ownsRow base 2 1 v k (nums z k)) (x : Int) (hx : z k = x) (hroom : (k + 1) * 8 ≤ 140737488355328) (hbase : base ≤ w.heap.size) :
    ∃ v' w', (Builtin.append_ #[25, 25] 25 #[v, .slice (some ⟨w.heap.size, 0, none⟩) 1 1]).run Try.prog (w.alloc (.cells #[.int .i64 x] 2)) = .ok v' w' ∧ w'.ownsRow base 2 1 v' (k + 1) (nums z (k + 1)) ∧ Keeps (fun i => v.ownBlock = some i) w w' := by
  obtain ⟨i0, hi0, hz0, hz1, hz2⟩ := info_parts i64Info
  obtain ⟨v', w', hr, ho, hg, _, _⟩ := run_append_own_at (P := Try.prog) (w := w.alloc (.cells #[.int .i64 x] 2)) base 25 25 2 i0 _ 1 8 under64s hi0 hz0 hz1 hz2 rfl (by decide) v k (nums z k) (hown.alloc _) ⟨w.heap.size, 0, none⟩ 1 1 [.int .i64 x] (by simp) (World.news_of_block (cs := #[.int .i64 x]) (t := 2) (fr := (0, 0)) (World.alloc_heap_new w _)) (fun u hu => by simp at hu; rw [hu]; rfl) (by unfold maxLen; omega) (by omega) (by simp; omega)
  refine ⟨v', w', hr, ?_, ((Keeps.refl _ w).alloc _).grown hg (fun i _ e => e)⟩
  have e : nums z k ++ [.int .i64 x] = nums z (k + 1) := by simp [nums, List.range_succ, hx]
  rw [← e]; exact ho

/-- Threads in turns. -/
def rz (n : Nat) (i : Nat) : Int := ((i % n : Nat) : Int)
theorem rz_nm {n : Nat} (hn : 0 < n) (i : Nat) : nmf n (rz n) i = ((i % n : Nat) : Int) := by
  have := Nat.mod_lt i hn
  unfold nmf rz nmz
  rw [if_neg (by omega)]
theorem mod_hit {n : Nat} (hn : 0 < n) (a t : Nat) (ht : t < n) : ∃ j, a ≤ j ∧ j < a + n ∧ j % n = t := by
  have h1 := Nat.mod_lt a hn
  have h2 := Nat.div_add_mod a n
  by_cases h : a % n ≤ t
  · refine ⟨a + (t - a % n), by omega, by omega, ?_⟩
    have : a + (t - a % n) = t + n * (a / n) := by omega
    rw [this, Nat.add_mul_mod_self_left]; exact Nat.mod_eq_of_lt ht
  · refine ⟨a + (t + n - a % n), by omega, by omega, ?_⟩
    have : a + (t + n - a % n) = t + n * (a / n + 1) := by rw [Nat.mul_add, Nat.mul_one]; omega
    rw [this, Nat.add_mul_mod_self_left]; exact Nat.mod_eq_of_lt ht
theorem robin_gap {n r : Nat} (hn : 0 < n) (hr : 0 < r) : Gap (nmf n (rz n)) (n * r) n (n - 1) where
  most t a k ht hk hf := by
    rcases Nat.lt_or_ge k n with h | h
    · omega
    · exfalso
      obtain ⟨j, j1, j2, j3⟩ := mod_hit hn a t ht
      exact hf j j1 (by omega) (by rw [rz_nm hn, j3])
  some_ := by
    have : n ≤ n * r := Nat.le_mul_of_pos_right n hr
    refine ⟨n - 1, 0, by omega, by omega, fun j j1 j2 => ?_⟩
    rw [rz_nm hn, Nat.mod_eq_of_lt (by omega)]; omega
/-- .. and one of nobody laid in. -/
def rz2 (n q i : Nat) : Int := if i < q then ((i % n : Nat) : Int) else if i = q then -1 else ((i - q - 1 : Nat) : Int)
theorem rz2_lo {n : Nat} (hn : 0 < n) {q i : Nat} (h : i < q) : nmf n (rz2 n q) i = ((i % n : Nat) : Int) := by
  have := Nat.mod_lt i hn
  unfold nmf rz2 nmz
  rw [if_pos h, if_neg (by omega)]
theorem rz2_mid {n q : Nat} : nmf n (rz2 n q) q = -1 := by
  have e : rz2 n q q = -1 := by unfold rz2; rw [if_neg (by omega), if_pos rfl]
  unfold nmf nmz
  rw [e, if_pos (.inl (by omega))]
theorem rz2_hi {n q i : Nat} (h : i < n) : nmf n (rz2 n q) (q + 1 + i) = (i : Int) := by
  unfold nmf rz2 nmz
  rw [if_neg (by omega), if_neg (by omega), if_neg (by omega)]
  omega
theorem robin2_gap {n r : Nat} (hn : 0 < n) (hr : 0 < r) : Gap (nmf n (rz2 n (n * r))) (n * r + 1 + n) n n where
  most t a k ht hk hf := by
    rcases Nat.lt_or_ge n k with h | h
    · exfalso
      by_cases h1 : a + n ≤ n * r
      · obtain ⟨j, j1, j2, j3⟩ := mod_hit hn a t ht
        exact hf j j1 (by omega) (by rw [rz2_lo hn (by omega), j3])
      · by_cases h2 : n * r + 1 + t < a + k
        · by_cases h3 : a ≤ n * r + 1 + t
          · exact hf (n * r + 1 + t) h3 h2 (rz2_hi ht)
          · omega
        · -- behind its end: the last round has it
          have h4 : n * (r - 1) + n = n * r := by rw [← Nat.mul_succ]; congr 1; omega
          have h5 : a ≤ n * (r - 1) + t := by omega
          refine hf (n * (r - 1) + t) h5 (by omega) ?_
          rw [rz2_lo hn (by omega), Nat.add_comm, Nat.add_mul_mod_self_left, Nat.mod_eq_of_lt ht]
    · exact h
  some_ := by
    have h4 : n * (r - 1) + n = n * r := by rw [← Nat.mul_succ]; congr 1; omega
    refine ⟨0, n * (r - 1) + 1, hn, by omega, fun j j1 j2 => ?_⟩
    by_cases e : j < n * r
    · rw [rz2_lo hn e]
      have : j = (j - n * (r - 1)) + n * (r - 1) := by omega
      rw [this, Nat.add_mul_mod_self_left, Nat.mod_eq_of_lt (by omega)]; omega
    · have : j = n * r := by omega
      rw [this, rz2_mid]; omega

set_option maxHeartbeats 3200000 in
set_option maxRecDepth 1000000 in
theorem schedRobin_walk (n : Int) (_ : I64 n) (r : Int) (_ : I64 r) (W : World) : Calls Try.prog 4 #[.int .i64 n, .int .i64 r] W fun e w' => e = .returned (.bool true) ∧ Below W.heap.size W w' := by
  by_cases hin : (1 ≤ n ∧ n ≤ 6) ∧ 1 ≤ r ∧ r ≤ 600
  · obtain ⟨nt, rfl⟩ : ∃ nt : Nat, n = (nt : Int) := ⟨n.toNat, by omega⟩
    obtain ⟨rd, rfl⟩ : ∃ rd : Nat, r = (rd : Int) := ⟨r.toNat, by omega⟩
    have hn : 1 ≤ nt ∧ nt ≤ 6 := by omega
    have hr : 1 ≤ rd ∧ rd ≤ 600 := by omega
    have t1 : decide ((nt : Int) < 1) = false := decide_eq_false (by omega)
    have t2 : decide ((6 : Int) < (nt : Int)) = false := decide_eq_false (by omega)
    have t3 : decide ((rd : Int) < 1) = false := decide_eq_false (by omega)
    have t4 : decide ((600 : Int) < (rd : Int)) = false := decide_eq_false (by omega)
    have hq : nt * rd ≤ 3600 := Nat.le_trans (Nat.mul_le_mul hn.2 hr.2) (by omega)
    obtain ⟨q, hqe⟩ : ∃ q, Hid (q = nt * rd) := ⟨_, rfl⟩
    have hq' : q ≤ 3600 := by rw [hqe.out]; exact hq
    have ew : IntKind.i64.wrap ((nt : Int) * (rd : Int)) = (q : Int) := by
      have : (nt : Int) * (rd : Int) = (q : Int) := by rw [hqe.out]; simp
      rw [this, IntKind.wrap_i64]; omega
    have ntI : ¬ (nt : Int) = 0 := by omega
    clear hq hin
    go_enter Try.func4, Try.ntmps4
    go_wp2_with fail
    go_loopw [7, 8] (fun v i wr => ∃ k : Nat, k ≤ q ∧ i = .int .i64 (k : Int) ∧ wr.ownsRow W.heap.size 2 1 v k (nums (rz nt) k) ∧ Keeps (fun _ => False) W wr) (fun _ i _ => q - (intOf i).toNat)
    case atStart => exact ⟨0, Nat.zero_le _, rfl, World.ownsRow_nil _ _ _ _, Keeps.refl _ _⟩
    case round =>
      obtain ⟨k, hk, rfl, ho, K⟩ := hrel
      by_cases hlt : k < q
      · have hltI : (k : Int) < (q : Int) := by omega
        have em : Int.tmod (k : Int) (nt : Int) = ((k % nt : Nat) : Int) := by first | rfl | (rw [Int.tmod_eq_emod_of_nonneg (by omega)]; simp)
        obtain ⟨v', w', ha, ho', kk⟩ := append_one ho ((k % nt : Nat) : Int) rfl (by omega) K.size
        have K' : Keeps (fun _ => False) W w' := K.trans' kk (fun _ _ e => e) (fun i hi e => by have := owns_base ho i e; omega)
        generalize k % nt = x at *
        clear ho
        go_wp2_with ((at_builtin; refine wpList_append_run rfl _ _ _ rfl _ _ v' w' rfl rfl ha ?_))
        go_roundw
        case rel => exact ⟨k + 1, by omega, by go_num, ho', K'⟩
        case measure => simp [intOf]; omega
      · have hltI : ¬ (k : Int) < (q : Int) := by omega
        obtain rfl : k = q := by omega
        have ho2 : wr.ownsRow W.heap.size 2 1 u7 k (nums (rz2 nt k) k) := by
          rw [nums_congr (z := rz2 nt k) (z' := rz nt) (fun i hi => by simp [rz2, rz, hi])]; exact ho
        obtain ⟨a5, cap5, rfl, hnl, _⟩ := owns_nl ho
        have l1 := least_any (cap := cap5) hnl hn (by omega)
        have g1 : ∀ R, Gap (nmf nt (rz nt)) k nt R → (R : Int) + 1 = (nt : Int) := fun R hR => by
          have := (robin_gap (n := nt) (r := rd) (by omega) (by omega)).uniq (by rw [← hqe.out]; exact hR)
          omega
        have ap := fun (w5 : World) (k5 : Keeps (fun _ => False) wr w5) => append_one (k5.owns ho2 (fun _ _ e => e)) (-1) (by simp [rz2]) (by omega) (Nat.le_trans K.size k5.size)
        have HO2 := (show Hid _ from ho2)
        clear ho ho2 hnl
        go_wp2_with (first | (go_at_call 9; refine l1.mono ?_; clear l1; rintro e w5 ⟨R, gR, rfl, k5⟩; rw [g1 R gR]; obtain ⟨v6, w6, ha6, ho6, k6⟩ := ap w5 k5) | (at_builtin; refine wpList_append_run rfl _ _ _ rfl _ _ v6 w6 rfl rfl ha6 ?_))
        have K6 : Keeps (fun _ => False) W w6 := (K.trans k5).trans' k6 (fun _ _ e => e) (fun i hi e => by have := owns_base HO2.out i e; omega)
        clear ap ha6 k6 k5
        go_loopw [7, 11] (fun v i wr => ∃ j : Nat, j ≤ nt ∧ i = .int .i64 (j : Int) ∧ wr.ownsRow W.heap.size 2 1 v (k + 1 + j) (nums (rz2 nt k) (k + 1 + j)) ∧ Keeps (fun _ => False) W wr) (fun _ i _ => nt - (intOf i).toNat)
        case atStart => exact ⟨0, Nat.zero_le _, rfl, ho6, K6⟩
        case round =>
          clear ho6 K6
          obtain ⟨j, hj, rfl, ho, K7⟩ := hrel
          by_cases hlt : j < nt
          · have hltI : (j : Int) < (nt : Int) := by omega
            obtain ⟨v', w', ha, ho', kk⟩ := append_one ho (j : Int) (by unfold rz2; rw [if_neg (by omega), if_neg (by omega)]; omega) (by omega) K7.size
            have K' : Keeps (fun _ => False) W w' := K7.trans' kk (fun _ _ e => e) (fun i hi e => by have := owns_base ho i e; omega)
            clear ho
            go_wp2_with ((at_builtin; refine wpList_append_run rfl _ _ _ rfl _ _ v' w' rfl rfl ha ?_))
            go_roundw
            case rel => exact ⟨j + 1, by omega, by go_num, ho', K'⟩
            case measure => simp [intOf]; omega
          · have hltI : ¬ (j : Int) < (nt : Int) := by omega
            obtain rfl : j = nt := by omega
            obtain ⟨a8, cap8, rfl, hnl8, _⟩ := owns_nl ho
            have l2 := least_any (cap := cap8) hnl8 hn (by omega)
            have g2 : ∀ R, Gap (nmf j (rz2 j k)) (k + 1 + j) j R → R = j := fun R hR => by
              have := (robin2_gap (n := j) (r := rd) (by omega) (by omega)).uniq (by rw [← hqe.out]; exact hR)
              omega
            have ew2 : IntKind.i64.wrap ((j : Int) + 1) = (j : Int) + 1 := by rw [IntKind.wrap_i64]; omega
            clear ho hnl8
            go_wp2_with ((go_at_call 9; refine l2.mono ?_; clear l2; rintro e w9 ⟨R2, gR2, rfl, k9⟩; obtain rfl := g2 R2 gR2))
            go_ret
            exact ⟨rfl, (K7.trans k9).below (Nat.le_refl _) (fun _ _ e => e)⟩
  · have l4 := fun (W : World) => least_gen (lit_nl W [0, 1]) 2 2
    go_enter Try.func4, Try.ntmps4
    by_cases h1 : n < 1
    · have t1 : decide (n < 1) = true := decide_eq_true h1
      go_wp2_with ((go_at_call 9; refine (l4 _).mono ?_; clear l4; rintro e w9 ⟨v9, e9, rfl, k9, hv9⟩; obtain ⟨rfl, rfl⟩ := least_lit hv9 1 (by decide) (by decide)))
      go_ret
      exact ⟨rfl, (((Keeps.refl _ _).alloc _).trans k9).below (Nat.le_refl _) (fun _ _ e => e)⟩
    · have t1 : decide (n < 1) = false := decide_eq_false h1
      by_cases h2 : 6 < n
      · have t2 : decide (6 < n) = true := decide_eq_true h2
        go_wp2_with ((go_at_call 9; refine (l4 _).mono ?_; clear l4; rintro e w9 ⟨v9, e9, rfl, k9, hv9⟩; obtain ⟨rfl, rfl⟩ := least_lit hv9 1 (by decide) (by decide)))
        go_ret
        exact ⟨rfl, (((Keeps.refl _ _).alloc _).trans k9).below (Nat.le_refl _) (fun _ _ e => e)⟩
      · have t2 : decide (6 < n) = false := decide_eq_false h2
        by_cases h3 : r < 1
        · have t3 : decide (r < 1) = true := decide_eq_true h3
          go_wp2_with ((go_at_call 9; refine (l4 _).mono ?_; clear l4; rintro e w9 ⟨v9, e9, rfl, k9, hv9⟩; obtain ⟨rfl, rfl⟩ := least_lit hv9 1 (by decide) (by decide)))
          go_ret
          exact ⟨rfl, (((Keeps.refl _ _).alloc _).trans k9).below (Nat.le_refl _) (fun _ _ e => e)⟩
        · have t3 : decide (r < 1) = false := decide_eq_false h3
          have t4 : decide (600 < r) = true := decide_eq_true (by omega)
          go_wp2_with ((go_at_call 9; refine (l4 _).mono ?_; clear l4; rintro e w9 ⟨v9, e9, rfl, k9, hv9⟩; obtain ⟨rfl, rfl⟩ := least_lit hv9 1 (by decide) (by decide)))
          go_ret
          exact ⟨rfl, (((Keeps.refl _ _).alloc _).trans k9).below (Nat.le_refl _) (fun _ _ e => e)⟩
end Go.Proofs.Ytgfjhogogajbjaa
