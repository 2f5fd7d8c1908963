import Derived.Test.YtkkldbellngalaaRefCelR
namespace Go.Proofs.Ytkkldbellngalaa
open Go.RowKit

set_option maxHeartbeats 3200000 in
set_option maxRecDepth 1000000 in
theorem rows_any {w : World} {g1 g2 c1 c2 : Nat} {a1 a2 : Option Addr} (L : List Rw) (hL : L.length ≤ 4611686018427387903) (h1 : ∀ i, i < L.length → a1 = some ⟨g1, 0, none⟩ ∧ RowAt w g1 (i * 7) (ra L i)) (h2 : ∀ i, i < L.length → a2 = some ⟨g2, 0, none⟩ ∧ RowAt w g2 (i * 7) (ra L i)) :
    Calls Try.prog 23 #[.slice a1 L.length c1, .slice a2 L.length c2] w fun e w' => e = .returned (.bool true) ∧ Keeps (fun _ => False) w w' := by
  have hr := row_any
  go_enter Try.func23, Try.ntmps23
  go_wp2_with fail
  go_loopw [5] (fun i wr => ∃ k : Nat, k ≤ L.length ∧ i = .int .i64 (k : Int) ∧ Keeps (fun _ => False) w wr) (fun i _ => L.length - (intOf i).toNat)
  case atStart => exact ⟨0, Nat.zero_le _, rfl, Keeps.refl _ _⟩
  case round =>
    obtain ⟨k, hk, rfl, K⟩ := hrel
    by_cases hlt : k < L.length
    · obtain ⟨rfl, R1⟩ := h1 k hlt
      obtain ⟨rfl, R2⟩ := h2 k hlt
      have hltI : (k : Int) < (L.length : Int) := by omega
      replace R1 := R1.keep K (fun e => e)
      replace R2 := R2.keep K (fun e => e)
      generalize ra L k = r at R1 R2
      have p10 := R1.r0
      have p11 := R1.r1
      have p12 := R1.r2
      have p13 := R1.r3
      have p14 := R1.r4
      have p15 := R1.r5
      have p16 := R1.r6
      have p20 := R2.r0
      have p21 := R2.r1
      have p22 := R2.r2
      have p23 := R2.r3
      have p24 := R2.r4
      have p25 := R2.r5
      have p26 := R2.r6
      clear R1 R2 h1 h2
      have HK : Hid (Keeps (fun _ => False) w wr) := K
      clear K
      go_wp2_with fail
      go_region_held3 (fun w' => w'.cell? ⟨g1, k * 7, none⟩ = some (.int .i64 r.step) ∧ w'.cell? ⟨g1, k * 7 + 1, none⟩ = some (.int .i64 r.thread) ∧ w'.cell? ⟨g1, k * 7 + 2, none⟩ = some (.int .i64 r.kind) ∧ w'.cell? ⟨g1, k * 7 + 3, none⟩ = some (.int .i64 r.cell) ∧ w'.cell? ⟨g1, k * 7 + 4, none⟩ = some (.int .i64 r.seen) ∧ w'.cell? ⟨g1, k * 7 + 5, none⟩ = some (.int .i64 r.wrote) ∧ w'.cell? ⟨g1, k * 7 + 6, none⟩ = some (.bool r.done) ∧ w'.cell? ⟨g2, k * 7, none⟩ = some (.int .i64 r.step) ∧ w'.cell? ⟨g2, k * 7 + 1, none⟩ = some (.int .i64 r.thread) ∧ w'.cell? ⟨g2, k * 7 + 2, none⟩ = some (.int .i64 r.kind) ∧ w'.cell? ⟨g2, k * 7 + 3, none⟩ = some (.int .i64 r.cell) ∧ w'.cell? ⟨g2, k * 7 + 4, none⟩ = some (.int .i64 r.seen) ∧ w'.cell? ⟨g2, k * 7 + 5, none⟩ = some (.int .i64 r.wrote) ∧ w'.cell? ⟨g2, k * 7 + 6, none⟩ = some (.bool r.done)) (go_keep) ((go_at_call 33; refine (hr _ r).mono ?_; rintro e w3 ⟨rfl, k3⟩; have k4 : Keeps (fun _ => False) wr w3 := (⟨k3.os, k3.tape, k3.output, k3.size, k3.block⟩); have q10 := k4.cell p10 (fun e => e); have q11 := k4.cell p11 (fun e => e); have q12 := k4.cell p12 (fun e => e); have q13 := k4.cell p13 (fun e => e); have q14 := k4.cell p14 (fun e => e); have q15 := k4.cell p15 (fun e => e); have q16 := k4.cell p16 (fun e => e); have q20 := k4.cell p20 (fun e => e); have q21 := k4.cell p21 (fun e => e); have q22 := k4.cell p22 (fun e => e); have q23 := k4.cell p23 (fun e => e); have q24 := k4.cell p24 (fun e => e); have q25 := k4.cell p25 (fun e => e); have q26 := k4.cell p26 (fun e => e)))
      all_goals
        go_wp2_with fail
        exact ⟨⟨k + 1, by omega, by go_num, HK.out.trans k4⟩, by simp [intOf]; omega⟩
    · have hltI : ¬ (k : Int) < (L.length : Int) := by omega
      go_wp2_with fail
      go_ret
      exact ⟨rfl, K⟩

/-- What owns the rows. -/
theorem owns_rows {w : World} {base e : Nat} {v : Value} {L : List Rw} (h : w.ownsRow base e 7 v L.length (fl rcells L)) : ∃ a g cap, v = .slice a L.length cap ∧ ∀ i, i < L.length → a = some ⟨g, 0, none⟩ ∧ RowAt w g (i * 7) (ra L i) := by
  obtain ⟨a, cap, rfl, hs⟩ := owns_slice h
  by_cases h0 : 0 < L.length
  · obtain ⟨g, rfl, hg⟩ := hs h0
    exact ⟨_, g, cap, rfl, fun i hi => ⟨rfl, owns_row h hg hi⟩⟩
  · exact ⟨a, 0, cap, rfl, fun i hi => by omega⟩
end Go.Proofs.Ytkkldbellngalaa
