import Derived.Test.YtgfjhogogajbjabSchR
namespace Go.Proofs.Ytgfjhogogajbjab
open Go.RowKit

theorem nmf_cases (n : Nat) (z : Nat → Int) (i : Nat) : nmf n z i = -1 ∨ ∃ u : Nat, u < n ∧ nmf n z i = (u : Int) := by
  have h1 := nmz_lo n (z i)
  have h2 := nmz_hi n (z i)
  by_cases e : nmz n (z i) = -1
  · exact .inl e
  · exact .inr ⟨(nmz n (z i)).toNat, by omega, by show nmz n (z i) = _; omega⟩
theorem far_ex (n : Nat) (z : Nat → Int) : ∀ i, ∃ L b, Far (nmf n z) n i L b
  | 0 => ⟨0, _, Far.zero _ _⟩
  | i + 1 => by
    obtain ⟨L, b, h⟩ := far_ex n z i
    rcases nmf_cases n z i with e | ⟨u, hu, e⟩
    · exact ⟨L, b, h.none (by omega) (fun j h1 h2 => by rw [show j = i by omega]; exact e)⟩
    · exact ⟨_, _, h.some hu (by omega) (fun j h1 h2 => by rw [show j = i by omega]; exact e)⟩
theorem gap_ex {n : Nat} (hn : 0 < n) (m : Nat) (z : Nat → Int) : ∃ R, Gap (nmf n z) m n R := by
  obtain ⟨L, b, h⟩ := far_ex n z m
  have : ∀ q, q ≤ n → ∃ L', Fin_ (nmf n z) n m b q L' := by
    intro q
    induction q with
    | zero => exact fun _ => ⟨L, h.fin⟩
    | succ q ih =>
      intro hq
      obtain ⟨L', h'⟩ := ih (by omega)
      exact ⟨_, h'.next h (by omega)⟩
  obtain ⟨L', h'⟩ := this n (Nat.le_refl _)
  exact ⟨L', h'.gap hn⟩

set_option maxHeartbeats 1600000 in
set_option maxRecDepth 1000000 in
theorem rFair_gen {w : World} {a : Option Addr} {m : Nat} {z : Nat → Int} (h : NL w a m z) (cap : Nat) (n k : Int) :
    Calls Try.prog 14 #[.int .i64 n, .slice a m cap, .int .i64 k] w fun e w' => ∃ (b : Bool) (er : Int), e = .returned (.tuple #[.bool b, .int .i64 er]) ∧ w' = w ∧ FairIs n m z k b er := by
  have hf := fun (w : World) => refused_any w n a m cap
  by_cases hz : rfz n m = 0
  · have hzm := rfz_zero hz
    obtain ⟨nt, rfl⟩ : ∃ nt : Nat, n = (nt : Int) := ⟨n.toNat, by omega⟩
    rw [hz] at hf
    by_cases hk : k < 1
    · have D0 : decide (k < 1) = true := decide_eq_true hk
      have HZ := (show Hid _ from hz)
      clear hz
      go_enter Try.func14, Try.ntmps14
      go_wp2_with ((go_at_call 25; refine (hf _).mono ?_; rintro e w9 ⟨rfl, rfl⟩))
      refine bodyPost_ret (v := .tuple #[.bool false, .int .i64 43]) (by simp [results, Try.f14, go_sem]) rfl ?_
      exact ⟨_, _, rfl, rfl, .inl ⟨HZ.out, hk, rfl, rfl⟩⟩
    · have D0 : decide (k < 1) = false := decide_eq_false hk
      obtain ⟨kk, rfl⟩ : ∃ kk : Nat, k = (kk : Int) := ⟨k.toNat, by omega⟩
      obtain ⟨R, hR⟩ := gap_ex (n := nt) (by omega) m z
      have hr := rfair_any (cap := cap) h (nt := nt) (by omega) (by omega) hR kk (by omega)
      have HZ := (show Hid _ from hz)
      clear hz
      generalize hb : decide (R + 1 ≤ kk) = b at hr
      have HB := (show Hid _ from hb)
      clear hb
      go_enter Try.func14, Try.ntmps14
      go_wp2_with (first | (go_at_call 25; refine (hf _).mono ?_; rintro e w9 ⟨rfl, rfl⟩) | (go_at_call 26; refine hr.mono ?_; rintro e w9 ⟨rfl, rfl⟩))
      refine bodyPost_ret (v := .tuple #[.bool b, .int .i64 0]) (by simp [results, Try.f14, go_sem]) rfl ?_
      refine ⟨_, _, rfl, rfl, .inr (.inl ⟨HZ.out, by omega, rfl, R, hR, ?_⟩)⟩
      rw [← HB.out]
      by_cases e : R + 1 ≤ kk
      · rw [decide_eq_true e, decide_eq_true (by omega)]
      · rw [decide_eq_false e, decide_eq_false (by omega)]
  · have hzb : (rfz n m != 0) = true := by simpa using hz
    have HZ := (show Hid _ from hz)
    clear hz
    obtain ⟨r, hr⟩ : ∃ r, Hid (r = rfz n m) := ⟨_, rfl⟩
    rw [← hr.out] at hf hzb
    go_enter Try.func14, Try.ntmps14
    go_wp2_with ((go_at_call 25; refine (hf _).mono ?_; rintro e w9 ⟨rfl, rfl⟩))
    refine bodyPost_ret (v := .tuple #[.bool false, .int .i64 r]) (by simp [results, Try.f14, go_sem]) rfl ?_
    exact ⟨_, _, rfl, rfl, .inr (.inr ⟨HZ.out, rfl, hr.out⟩)⟩

set_option maxHeartbeats 3200000 in
set_option maxRecDepth 1000000 in
theorem rLeast_gen {w : World} {a : Option Addr} {m : Nat} {z : Nat → Int} (h : NL w a m z) (cap : Nat) (n : Int) :
    Calls Try.prog 16 #[.int .i64 n, .slice a m cap] w fun e w' => ∃ v er : Int, e = .returned (.tuple #[.int .i64 v, .int .i64 er]) ∧ w' = w ∧ LeastIs n m z v er := by
  have hf := fun (w : World) => refused_any w n a m cap
  by_cases hz : rfz n m = 0
  · have hzm := rfz_zero hz
    obtain ⟨nt, rfl⟩ : ∃ nt : Nat, n = (nt : Int) := ⟨n.toNat, by omega⟩
    rw [hz] at hf
    obtain ⟨R, hR⟩ := gap_ex (n := nt) (by omega) m z
    have hRm := hR.le
    have hr := fun (k : Nat) (hk : 1 ≤ k) => rfair_any (cap := cap) h (nt := nt) (by omega) (by omega) hR k hk
    have HZ := (show Hid _ from hz)
    clear hz
    go_enter Try.func16, Try.ntmps16
    go_wp2_with ((go_at_call 25; refine (hf _).mono ?_; rintro e w9 ⟨rfl, hw9⟩; have hw9 := hw9.symm; subst hw9))
    go_loopw [7, 8] (fun lo hi wr => ∃ l h' : Nat, lo = .int .i64 (l : Int) ∧ hi = .int .i64 (h' : Int) ∧ 1 ≤ l ∧ l ≤ R + 1 ∧ R + 1 ≤ h' ∧ h' ≤ m + 1 ∧ wr = w) (fun lo hi _ => (intOf hi).toNat - (intOf lo).toNat)
    case atStart => exact ⟨1, m + 1, rfl, by go_num, Nat.le_refl _, by omega, by omega, Nat.le_refl _, rfl⟩
    case round =>
      obtain ⟨l, h', rfl, rfl, l1, l2, l3, l4, rfl⟩ := hrel
      by_cases hlt : l < h'
      · have D0 : decide ((l : Int) < (h' : Int)) = true := decide_eq_true (by omega)
        have D0n : decide (l < h') = true := decide_eq_true hlt
        obtain ⟨md, hmd⟩ : ∃ md : Nat, Hid (md = (l + h') / 2) := ⟨_, rfl⟩
        have eq : Int.tdiv ((l : Int) + (h' : Int)) 2 = (md : Int) := by
          have e := hmd.out
          first | (rw [Int.tdiv_eq_ediv_of_nonneg (by omega)]; omega) | (rw [Int.tdiv_eq_ediv (by omega)]; omega)
        have m1 : l ≤ md := by have := hmd.out; omega
        have m2 : md < h' := by have := hmd.out; omega
        have hrm := hr md (by omega)
        by_cases hb : R + 1 ≤ md
        · rw [decide_eq_true hb] at hrm
          clear hr
          go_wp2_with ((go_at_call 26; refine hrm.mono ?_; rintro e w9 ⟨rfl, rfl⟩))
          go_roundw
          case rel => exact ⟨l, md, rfl, rfl, l1, l2, hb, by omega, by simp⟩
          case measure => simp [intOf]; omega
        · rw [decide_eq_false hb] at hrm
          clear hr
          go_wp2_with ((go_at_call 26; refine hrm.mono ?_; rintro e w9 ⟨rfl, rfl⟩))
          go_roundw
          case rel => exact ⟨md + 1, h', by go_num, rfl, by omega, by omega, l3, l4, by simp⟩
          case measure => simp [intOf]; omega
      · have D0 : decide ((l : Int) < (h' : Int)) = false := decide_eq_false (by omega)
        have D0n : decide (l < h') = false := decide_eq_false hlt
        obtain rfl : h' = R + 1 := by omega
        go_wp2_with fail
        refine bodyPost_ret (v := .tuple #[.int .i64 ((R : Int) + 1), .int .i64 0]) (by simp [results, Try.f16, go_sem]) rfl ?_
        exact ⟨_, _, rfl, rfl, .inl ⟨HZ.out, rfl, R, hR, rfl⟩⟩
  · have hzb : (rfz n m != 0) = true := by simpa using hz
    have HZ := (show Hid _ from hz)
    clear hz
    obtain ⟨r, hr⟩ : ∃ r, Hid (r = rfz n m) := ⟨_, rfl⟩
    rw [← hr.out] at hf hzb
    go_enter Try.func16, Try.ntmps16
    go_wp2_with ((go_at_call 25; refine (hf _).mono ?_; rintro e w9 ⟨rfl, rfl⟩))
    refine bodyPost_ret (v := .tuple #[.int .i64 0, .int .i64 r]) (by simp [results, Try.f16, go_sem]) rfl ?_
    exact ⟨_, _, rfl, rfl, .inr ⟨HZ.out, rfl, hr.out⟩⟩
end Go.Proofs.Ytgfjhogogajbjab
