import Derived.Test.YtgfjhogogajbjaaSchLeast
namespace Go.Proofs.Ytgfjhogogajbjaa
open Go.RowKit Go.Shelf

theorem least_any {w : World} {a : Option Addr} {m cap nt : Nat} {z : Nat → Int} (h : NL w a m z) (hn : 1 ≤ nt ∧ nt ≤ 6) (hm : m ≤ 4096) :
    Calls Try.prog 9 #[.int .i64 (nt : Int), .slice a m cap] w fun e w' => ∃ R, Gap (nmf nt z) m nt R ∧ e = .returned (.tuple #[.int .i64 ((R : Int) + 1), .int .i64 0]) ∧ Keeps (fun _ => False) w w' :=
  callsIn_wide.1 (least_in h hn hm)

set_option maxHeartbeats 1600000 in
set_option maxRecDepth 1000000 in
theorem least_no (w : World) (n : Int) (a : Option Addr) (m cap : Nat) (hz : rfz n m ≠ 0) :
    Calls Try.prog 9 #[.int .i64 n, .slice a m cap] w fun e w' => e = .returned (.tuple #[.int .i64 0, .int .i64 (rfz n m)]) ∧ w' = w := by
  have hf := fun (w : World) => callsIn_wide (n := 4).2 (refuse_any w n a m cap)
  have hzb : (rfz n m != 0) = true := by simpa using hz
  generalize rfz n m = r at *
  clear hz
  refine callsIn_wide (n := 5).1 ?_
  refine callsIn_of_wp_marks Try.func9 rfl trivial ?_
  simp only [Try.ntmps9, List.size_toArray, List.length_cons, List.length_nil, Nat.reduceAdd, Nat.reduceSub, Array.replicate_succ, Array.replicate_zero, List.push_toArray, List.append_toArray, List.nil_append, List.cons_append]
  gi_wp2_with ((refine ⟨trivial, ?_⟩; gi_at_call 16; refine (hf _).mono ?_; rintro e w' ⟨rfl, rfl⟩))
  refine ⟨.tuple #[.int .i64 0, .int .i64 r], ?_, rfl, rfl⟩
  simp [results, Try.f9, go_sem]

set_option maxHeartbeats 1600000 in
set_option maxRecDepth 1000000 in
theorem fair_any {w : World} {a : Option Addr} {m cap nt : Nat} {z : Nat → Int} (h : NL w a m z) (hn : 1 ≤ nt ∧ nt ≤ 6) (hm : m ≤ 4096) (k : Int) (hk : 1 ≤ k) :
    Calls Try.prog 15 #[.int .i64 (nt : Int), .slice a m cap, .int .i64 k] w fun e w' => ∃ R, Gap (nmf nt z) m nt R ∧ e = .returned (.tuple #[.bool (decide ((R : Int) + 1 ≤ k)), .int .i64 0]) ∧ Keeps (fun _ => False) w w' := by
  have hl := least_any (cap := cap) h hn hm
  have hk1 : ¬ k < 1 := by omega
  clear h
  go_enter Try.func15, Try.ntmps15
  go_wp2_with ((go_at_call 9; refine hl.mono ?_; rintro e w1 ⟨R, hR, rfl, k1⟩))
  refine bodyPost_ret (v := .tuple #[.bool (decide ((R : Int) + 1 ≤ k)), .int .i64 0]) (by simp [results, Try.f15, go_sem]) rfl ?_
  exact ⟨R, hR, rfl, k1⟩

set_option maxHeartbeats 1600000 in
set_option maxRecDepth 1000000 in
theorem fair_low {w : World} {a : Option Addr} {m cap nt : Nat} {z : Nat → Int} (h : NL w a m z) (hn : 1 ≤ nt ∧ nt ≤ 6) (hm : m ≤ 4096) (k : Int) (hk : k < 1) :
    Calls Try.prog 15 #[.int .i64 (nt : Int), .slice a m cap, .int .i64 k] w fun e w' => e = .returned (.tuple #[.bool false, .int .i64 43]) ∧ Keeps (fun _ => False) w w' := by
  have hl := least_any (cap := cap) h hn hm
  clear h
  go_enter Try.func15, Try.ntmps15
  go_wp2_with ((go_at_call 9; refine hl.mono ?_; rintro e w1 ⟨R, hR, rfl, k1⟩))
  refine bodyPost_ret (v := .tuple #[.bool false, .int .i64 43]) (by simp [results, Try.f15, go_sem]) rfl ?_
  exact ⟨rfl, k1⟩

set_option maxHeartbeats 1600000 in
set_option maxRecDepth 1000000 in
theorem fair_no (w : World) (n : Int) (a : Option Addr) (m cap : Nat) (hz : rfz n m ≠ 0) (k : Int) :
    Calls Try.prog 15 #[.int .i64 n, .slice a m cap, .int .i64 k] w fun e w' => e = .returned (.tuple #[.bool false, .int .i64 (rfz n m)]) ∧ w' = w := by
  have hl := least_no w n a m cap hz
  have hzb : (rfz n m != 0) = true := by simpa using hz
  generalize rfz n m = r at *
  clear hz
  go_enter Try.func15, Try.ntmps15
  go_wp2_with ((go_at_call 9; refine hl.mono ?_; rintro e w1 ⟨rfl, rfl⟩))
  refine bodyPost_ret (v := .tuple #[.bool false, .int .i64 r]) (by simp [results, Try.f15, go_sem]) rfl ?_
  exact ⟨rfl, rfl⟩

/-- What Least answers. -/
def LeastIs (n : Int) (m : Nat) (z : Nat → Int) (v er : Int) : Prop :=
  (rfz n m = 0 ∧ er = 0 ∧ ∃ R, Gap (nmf n.toNat z) m n.toNat R ∧ v = (R : Int) + 1) ∨ (rfz n m ≠ 0 ∧ v = 0 ∧ er = rfz n m)
theorem rfz_zero {n : Int} {m : Nat} (h : rfz n m = 0) : (1 ≤ n ∧ n ≤ 6) ∧ m ≤ 4096 := by
  unfold rfz at h
  split at h
  · omega
  · split at h <;> omega
theorem rfz_not {n : Int} {m : Nat} (h : rfz n m ≠ 0) : (n < 1 ∨ 6 < n) ∧ rfz n m = 40 ∨ (¬ (n < 1 ∨ 6 < n) ∧ 4096 < m) ∧ rfz n m = 41 := by
  unfold rfz at h ⊢
  by_cases h1 : n < 1 ∨ 6 < n
  · rw [if_pos h1]; exact .inl ⟨h1, rfl⟩
  · rw [if_neg h1] at h ⊢
    by_cases h2 : 4096 < m
    · rw [if_pos h2]; exact .inr ⟨⟨h1, h2⟩, rfl⟩
    · rw [if_neg h2] at h; exact absurd rfl h
theorem least_gen {w : World} {a : Option Addr} {m : Nat} {z : Nat → Int} (h : NL w a m z) (cap : Nat) (n : Int) :
    Calls Try.prog 9 #[.int .i64 n, .slice a m cap] w fun e w' => ∃ v er : Int, e = .returned (.tuple #[.int .i64 v, .int .i64 er]) ∧ Keeps (fun _ => False) w w' ∧ LeastIs n m z v er := by
  by_cases hz : rfz n m = 0
  · have := rfz_zero hz
    obtain ⟨nt, rfl⟩ : ∃ nt : Nat, n = (nt : Int) := ⟨n.toNat, by omega⟩
    refine (least_any (cap := cap) h (nt := nt) (by omega) (by omega)).mono ?_
    rintro e w' ⟨R, hR, rfl, k⟩
    exact ⟨_, _, rfl, k, .inl ⟨hz, rfl, R, hR, rfl⟩⟩
  · refine (least_no w n a m cap hz).mono ?_
    rintro e w' ⟨rfl, rfl⟩
    exact ⟨_, _, rfl, Keeps.refl _ _, .inr ⟨hz, rfl, rfl⟩⟩
/-- What Fair answers. -/
def FairIs (n : Int) (m : Nat) (z : Nat → Int) (k : Int) (b : Bool) (er : Int) : Prop :=
  (rfz n m = 0 ∧ k < 1 ∧ b = false ∧ er = 43) ∨ (rfz n m = 0 ∧ 1 ≤ k ∧ er = 0 ∧ ∃ R, Gap (nmf n.toNat z) m n.toNat R ∧ b = decide ((R : Int) + 1 ≤ k)) ∨ (rfz n m ≠ 0 ∧ b = false ∧ er = rfz n m)
theorem fair_gen {w : World} {a : Option Addr} {m : Nat} {z : Nat → Int} (h : NL w a m z) (cap : Nat) (n k : Int) :
    Calls Try.prog 15 #[.int .i64 n, .slice a m cap, .int .i64 k] w fun e w' => ∃ (b : Bool) (er : Int), e = .returned (.tuple #[.bool b, .int .i64 er]) ∧ Keeps (fun _ => False) w w' ∧ FairIs n m z k b er := by
  by_cases hz : rfz n m = 0
  · have := rfz_zero hz
    obtain ⟨nt, rfl⟩ : ∃ nt : Nat, n = (nt : Int) := ⟨n.toNat, by omega⟩
    by_cases hk : k < 1
    · refine (fair_low (cap := cap) h (nt := nt) (by omega) (by omega) k hk).mono ?_
      rintro e w' ⟨rfl, kp⟩
      exact ⟨_, _, rfl, kp, .inl ⟨hz, hk, rfl, rfl⟩⟩
    · refine (fair_any (cap := cap) h (nt := nt) (by omega) (by omega) k (by omega)).mono ?_
      rintro e w' ⟨R, hR, rfl, kp⟩
      exact ⟨_, _, rfl, kp, .inr (.inl ⟨hz, by omega, rfl, R, hR, rfl⟩)⟩
  · refine (fair_no w n a m cap hz k).mono ?_
    rintro e w' ⟨rfl, rfl⟩
    exact ⟨_, _, rfl, Keeps.refl _ _, .inr (.inr ⟨hz, rfl, rfl⟩)⟩

/-- A gap that is reckoned. -/
def gapB (f : Nat → Int) (m n R : Nat) : Bool :=
  ((List.range n).all fun t => (List.range (m + 1)).all fun a => (List.range (m + 1)).all fun k => !(decide (a + k ≤ m) && ((List.range m).all fun j => !(decide (a ≤ j) && decide (j < a + k)) || decide (f j ≠ (t : Int)))) || decide (k ≤ R)) &&
  ((List.range n).any fun t => (List.range (m + 1)).any fun a => decide (a + R ≤ m) && (List.range m).all fun j => !(decide (a ≤ j) && decide (j < a + R)) || decide (f j ≠ (t : Int)))
theorem gap_of {f : Nat → Int} {m n R : Nat} (h : gapB f m n R = true) : Gap f m n R := by
  simp only [gapB, Bool.and_eq_true, List.all_eq_true, List.any_eq_true, List.mem_range, Bool.or_eq_true, Bool.not_eq_true', decide_eq_true_eq, Bool.and_eq_false_iff, decide_eq_false_iff_not] at h
  obtain ⟨h1, t, ht, a, ha, h2, h3⟩ := h
  refine ⟨fun t a k ht hk hn => ?_, t, a, ht, h2, fun j j1 j2 => ?_⟩
  · rcases h1 t ht a (by omega) k (by omega) with h | h
    · exfalso
      rcases h with h | h
      · exact h hk
      · have : ((List.range m).all fun j => !(decide (a ≤ j) && decide (j < a + k)) || decide (f j ≠ (t : Int))) = true := by
          simp only [List.all_eq_true, List.mem_range, Bool.or_eq_true, Bool.not_eq_true', decide_eq_true_eq, Bool.and_eq_false_iff, decide_eq_false_iff_not]
          intro j hj
          by_cases e1 : a ≤ j
          · by_cases e2 : j < a + k
            · exact .inr (hn j e1 e2)
            · exact .inl (.inr e2)
          · exact .inl (.inl e1)
        rw [this] at h; cases h
    · exact h
  · rcases h3 j (by omega) with h | h
    · rcases h with h | h
      · exact absurd j1 h
      · exact absurd j2 h
    · exact h

set_option maxHeartbeats 1600000 in
set_option maxRecDepth 1000000 in
theorem taken_any (w : World) (n : Int) (a : Option Addr) (m cap : Nat) : Calls Try.prog 10 #[.int .i64 n, .slice a m cap] w fun e w' => e = .returned (.bool (decide (rfz n m = 0))) ∧ w' = w := by
  go_enter Try.func10, Try.ntmps10
  by_cases h1 : n < 1
  · have e : decide (rfz n m = 0) = false := by unfold rfz; rw [if_pos (.inl h1)]; rfl
    have h1' : ¬ 1 ≤ n := by omega
    go_wp2
    go_ret
    first | exact ⟨rfl, rfl⟩ | exact ⟨by rw [e]; rfl, rfl⟩
  · by_cases h2 : 6 < n
    · have e : decide (rfz n m = 0) = false := by unfold rfz; rw [if_pos (.inr h2)]; rfl
      have h1' : 1 ≤ n := by omega
      have h2' : ¬ n ≤ 6 := by omega
      go_wp2
      go_ret
      first | exact ⟨rfl, rfl⟩ | exact ⟨by rw [e]; rfl, rfl⟩
    · by_cases h3 : 4096 < m
      · have e : decide (rfz n m = 0) = false := by unfold rfz; rw [if_neg (by omega), if_pos h3]; rfl
        have h1' : 1 ≤ n := by omega
        have h2' : n ≤ 6 := by omega
        have h3' : ¬ (m : Int) ≤ 4096 := by omega
        go_wp2
        go_ret
        first | exact ⟨rfl, rfl⟩ | exact ⟨by rw [e]; rfl, rfl⟩
      · have e : decide (rfz n m = 0) = true := by unfold rfz; rw [if_neg (by omega), if_neg h3]; rfl
        have h1' : 1 ≤ n := by omega
        have h2' : n ≤ 6 := by omega
        have h3' : (m : Int) ≤ 4096 := by omega
        go_wp2
        go_ret
        first | exact ⟨rfl, rfl⟩ | exact ⟨by rw [e]; rfl, rfl⟩
end Go.Proofs.Ytgfjhogogajbjaa
