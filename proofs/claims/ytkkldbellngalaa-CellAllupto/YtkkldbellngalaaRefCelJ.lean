import Derived.Test.YtkkldbellngalaaRefCelI
namespace Go.Proofs.Ytkkldbellngalaa
open Go.RowKit

theorem upto_is {L : List Rw} (hR : Rises L) (st : Int) : ∀ k, k ≤ L.length → ∃ N, N ≤ k ∧ (∀ i, i < N → (ra L i).step ≤ st) ∧ (∀ i, N ≤ i → i < k → st < (ra L i).step)
  | 0, _ => ⟨0, Nat.le_refl _, fun i hi => by omega, fun i _ hi => by omega⟩
  | k + 1, hk => by
    obtain ⟨N, h1, h2, h3⟩ := upto_is hR st k (by omega)
    by_cases e : N = k
    · subst e
      by_cases hs : (ra L N).step ≤ st
      · refine ⟨N + 1, Nat.le_refl _, fun i hi => ?_, fun i hi hi' => by omega⟩
        by_cases e : i = N
        · rw [e]; exact hs
        · exact h2 i (by omega)
      · refine ⟨N, by omega, h2, fun i hi hi' => ?_⟩
        have e : i = N := by omega
        rw [e]; omega
    · refine ⟨N, by omega, h2, fun i hi hi' => ?_⟩
      by_cases e' : i = k
      · have a := h3 N (Nat.le_refl _) (by omega)
        have b := hR N k (by omega) (by omega)
        rw [e']; omega
      · exact h3 i hi (by omega)
theorem upto_one {L : List Rw} {st : Int} {N N' : Nat} (h : Upto L st N) (h' : Upto L st N') : N = N' := by
  obtain ⟨a1, a2, a3⟩ := h
  obtain ⟨b1, b2, b3⟩ := h'
  rcases Nat.lt_trichotomy N N' with e | e | e
  · have x := b2 N e
    have y := a3 N (Nat.le_refl _) (by omega)
    omega
  · exact e
  · have x := a2 N' e
    have y := b3 N' (Nat.le_refl _) (by omega)
    omega

set_option maxHeartbeats 1600000 in
set_option maxRecDepth 1000000 in
theorem rthen_not {w : World} {rb : Nat} {s : Mm} {B : Nat → Prop} (h : RI w rb s B) {c : Int} (hc : s.there c = false) (st : Int) :
    Calls Try.prog 39 #[.pointer (some ⟨rb, 0, none⟩), .int .i64 c, .int .i64 st] w fun e w' => e = .returned (.tuple #[.int .i64 0, .int .i64 30]) ∧ Keeps (fun _ => False) w w' := by
  have K1 : ∀ o, Keeps (fun _ => False) w (w.alloc o) := fun o => (Keeps.refl _ w).alloc o
  have K2 : ∀ o o', Keeps (fun _ => False) w ((w.alloc o).alloc o') := fun o o' => (K1 o).alloc o'
  have K3 : ∀ o o' o'', Keeps (fun _ => False) w (((w.alloc o).alloc o').alloc o'') := fun o o' o'' => (K2 o o').alloc o''
  have h0 := rthere_any h c
  have h1 := fun o => rthere_any (h.new (K1 o)) c
  have h2 := fun o o' => rthere_any (h.new (K2 o o')) c
  have h3 := fun o o' o'' => rthere_any (h.new (K3 o o' o'')) c
  rw [hc] at h0
  simp only [hc] at h1 h2 h3
  clear h
  go_enter Try.func39, Try.ntmps39
  go_wp2_with (go_at_call 48; first | (refine h0.mono ?_; rintro e w' ⟨rfl, rfl⟩) | (refine (h1 _).mono ?_; rintro e w' ⟨rfl, rfl⟩) | (refine (h2 _ _).mono ?_; rintro e w' ⟨rfl, rfl⟩) | (refine (h3 _ _ _).mono ?_; rintro e w' ⟨rfl, rfl⟩))
  go_ret2
  first | exact ⟨rfl, Keeps.refl _ _⟩ | exact ⟨rfl, K1 _⟩ | exact ⟨rfl, K2 _ _⟩ | exact ⟨rfl, K3 _ _ _⟩

theorem twin_then {s : Mm} {mb rb : Nat} (h : s.good) (hl : s.log.length ≤ 4611686018427387903) (c st : Int) : ∃ v er : Int, Twin mb rb s 38 39 (fun p => #[p, .int .i64 c, .int .i64 st]) (.tuple #[.int .i64 v, .int .i64 er]) s := by
  by_cases ht : s.there c = true
  · obtain ⟨n, rfl, hn⟩ := there_nat ht
    obtain ⟨N, h1, h2, h3⟩ := upto_is h.rise.1 st s.log.length (Nat.le_refl _)
    have hU : Upto s.log st N := ⟨h1, h2, h3⟩
    refine ⟨lastOf n (ca s.cells n).1 (s.log.take N), 0, fun w P hp => hp.m0 fun F hF => ?_, fun w P hp => Half.r0 hp fun B hB => ?_⟩
    · refine (then_any hF hl h.rise.1 hn st).mono ?_
      rintro e w' ⟨N', hU', rfl, k⟩
      rw [upto_one hU' hU]
      exact ⟨rfl, k⟩
    · refine (rthen_any hB h.rise.1 hn st hl).mono ?_
      rintro e w' ⟨lo, a1, a2, a3, rfl, k⟩
      rw [behv_lastOf hU a1 a2 a3]
      exact ⟨rfl, k⟩
  · have ht' : s.there c = false := by simpa using ht
    exact ⟨0, 30, fun w P hp => hp.m0 fun F hF => then_not hF ht' st, fun w P hp => Half.r0 hp fun B hB => rthen_not hB ht' st⟩
end Go.Proofs.Ytkkldbellngalaa
