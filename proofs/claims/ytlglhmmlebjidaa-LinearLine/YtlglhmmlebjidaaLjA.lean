import Derived.Test.YtlglhmmlebjidaaLiW
namespace Go.Proofs.Ytlglhmmlebjidaa
open Go.RowKit
/-- What Does answers. -/
def DoP (S : List Int) (c : Cl) (a : Option Addr) (w : World) (e : Ending) (w' : World) : Prop := ∃ a2 c2, e = .returned (.tuple #[.bool (doesL S c).1, .int .i64 (doesL S c).2.1, .slice a2 (doesL S c).2.2.length c2]) ∧ KL w' a2 (doesL S c).2.2 ∧ Keeps (fun _ => False) w w' ∧ ∀ b off, a2 = some ⟨b, off, none⟩ → a = some ⟨b, off, none⟩ ∨ w.heap.size ≤ b
theorem kl_keep {W W' : World} {base n : Nat} {v : Value} {S : List Int} (h : W.ownsRow base 2 1 v n (kvs S)) (k : Keeps (fun _ => False) W W') : ∃ a cap, v = .slice a n cap ∧ KL W' a S ∧ n = S.length ∧ ∀ b off, a = some ⟨b, off, none⟩ → base ≤ b := by
  obtain ⟨a, cap, h1, h2, h3, -⟩ := kl_of h
  exact ⟨a, cap, h1, h2.keep k, h3, fun b off e => owns_baseT h b (by rw [h1, e]; rfl)⟩
set_option maxHeartbeats 600000 in
set_option maxRecDepth 100000 in
theorem rdoes_any {w : World} {a : Option Addr} {cap : Nat} {S : List Int} (hl : KL w a S) (hrs : Rise S) (hn : S.length ≤ 17592186043000) (c : Cl) : Calls Try.prog 32 #[.slice a S.length cap, .agg c.cells.toArray] w (DoP S c a w) := by
  obtain ⟨W0, e0, k0, hb, -⟩ := cl_box w c
  have hIN : ∀ W k, Keeps (fun _ => False) w W → Calls Try.prog 46 #[.slice a S.length cap, .int .i64 k] W fun e w' => e = .returned (.bool (decide (k ∈ S))) ∧ Keeps (fun _ => False) W w' := fun W k kW => in_any (hl.keep kW) (by omega) k
  have hWI : ∀ W k, Keeps (fun _ => False) w W → Calls Try.prog 47 #[.slice a S.length cap, .int .i64 k] W fun e w' => ∃ v, e = .returned v ∧ w'.ownsRow W.heap.size 2 1 v (withL S k).length (kvs (withL S k)) ∧ Keeps (fun _ => False) W w' := fun W k kW => with_any (hl.keep kW) hrs (by omega) k
  have hWO : ∀ W k, Keeps (fun _ => False) w W → Calls Try.prog 48 #[.slice a S.length cap, .int .i64 k] W fun e w' => ∃ v, e = .returned v ∧ w'.ownsRow W.heap.size 2 1 v (woutL S k).length (kvs (woutL S k)) ∧ Keeps (fun _ => False) W w' := fun W k kW => without_any (hl.keep kW) (by omega) k
  have HIN : Hid _ := hIN
  have HWI : Hid _ := hWI
  have HWO : Hid _ := hWO
  have HL : Hid (KL w a S) := hl
  have HRS : Hid (Rise S) := hrs
  clear hIN hWI hWO hl hrs
  have c0 := hb.c0
  have c1 := hb.c1
  have c2 := hb.c2
  clear hb
  have HP : Hid (∀ y r a2 c2 w', (y = (doesL S c).1 ∧ r = (doesL S c).2.1) → ∀ S2, S2 = (doesL S c).2.2 → KL w' a2 S2 → Keeps (fun _ => False) w w' → (∀ b off, a2 = some ⟨b, off, none⟩ → a = some ⟨b, off, none⟩ ∨ w.heap.size ≤ b) → DoP S c a w (.returned (.tuple #[.bool y, .int .i64 r, .slice a2 S2.length c2])) w') := by
    rintro y r a2 c2 w' ⟨rfl, rfl⟩ S2 rfl hk kk hbb
    exact ⟨a2, c2, rfl, hk, kk, hbb⟩
  have hN2 : (S.length : Int) = (S.length : Int) := rfl
  clear hN2
  go_enter Try.func32, Try.ntmps32
  refine wp_seq_k (fun KK hKK => ?_)
  have hKH : Hid _ := hKK
  clear hKK
  go_wp2_with fail
  refine hKH.out _ _ ?_
  clear hKH KK
  rw [← e0]
  clear e0
  have hin := HIN.out W0 c.key k0
  refine wp_seq_k (fun KK hKK => ?_)
  have hKH : Hid _ := hKK
  clear hKK
  go_wp2_with (go_at_call 46; refine hin.mono ?_; clear hin; rintro e w1 ⟨rfl, k1⟩)
  refine hKH.out _ _ ?_
  clear hKH KK
  replace c0 := k1.cell c0 (fun e => e)
  replace c1 := k1.cell c1 (fun e => e)
  replace c2 := k1.cell c2 (fun e => e)
  replace k1 := k0.trans k1
  clear k0
  have HDL : Hid (doesL S c = doesL S c) := rfl
  clear HDL
  unfold doesL at HP
  generalize c.kind = kd at *
  generalize c.key = ky at *
  generalize c.other = ot at *
  by_cases g1 : kd = 1
  · have q1 : (kd == 1) = true := by simp [g1]
    simp only [if_pos g1] at HP
    clear g1
    have hwi := HWI.out w1 ky k1
    generalize hD : decide (ky ∈ S) = dk at *
    clear hD
    generalize S.length = N at *
    go_wp2_with (go_at_call 47; refine hwi.mono ?_; clear hwi; rintro e w2 ⟨v, rfl, ho, k2⟩)
    obtain ⟨a2, c9, rfl, hk2, -, hbb⟩ := kl_keep ho (Keeps.refl _ _)
    go_ret3
    exact HP.out _ _ a2 c9 _ ⟨rfl, rfl⟩ _ rfl hk2 (k1.trans k2) (fun b off e => .inr (Nat.le_trans k1.size (hbb b off e)))
  have q1 : (kd == 1) = false := by simp [g1]
  simp only [if_neg g1] at HP
  clear g1
  by_cases g2 : kd = 2
  · have q2 : (kd == 2) = true := by simp [g2]
    simp only [if_pos g2] at HP
    clear g2
    have hwo := HWO.out w1 ky k1
    generalize hD : decide (ky ∈ S) = dk at *
    clear hD
    generalize S.length = N at *
    go_wp2_with (go_at_call 48; refine hwo.mono ?_; clear hwo; rintro e w2 ⟨v, rfl, ho, k2⟩)
    obtain ⟨a2, c9, rfl, hk2, -, hbb⟩ := kl_keep ho (Keeps.refl _ _)
    go_ret3
    exact HP.out _ _ a2 c9 _ ⟨rfl, rfl⟩ _ rfl hk2 (k1.trans k2) (fun b off e => .inr (Nat.le_trans k1.size (hbb b off e)))
  have q2 : (kd == 2) = false := by simp [g2]
  simp only [if_neg g2] at HP
  clear g2
  by_cases g3 : kd = 3
  · have q3 : (kd == 3) = true := by simp [g3]
    simp only [if_pos g3] at HP
    clear g3
    have HF : Hid (∀ w' c9, Keeps (fun _ => False) w w' → DoP S c a w (.returned (.tuple #[.bool (decide (ky ∈ S)), .int .i64 0, .slice a S.length c9])) w') := fun w' c9 kk => HP.out _ _ a c9 _ ⟨rfl, rfl⟩ S rfl (HL.out.keep kk) kk (fun _ _ e => .inl e)
    generalize hD : decide (ky ∈ S) = dk at *
    clear hD
    generalize S.length = N at *
    go_wp2_with fail
    go_ret3
    exact HF.out _ _ k1
  have q3 : (kd == 3) = false := by simp [g3]
  simp only [if_neg g3] at HP
  clear g3
  by_cases g4 : kd = 4
  · have q4 : (kd == 4) = true := by simp [g4]
    simp only [if_pos g4] at HP
    clear g4
    cases S with
    | nil =>
      simp only at HP
      have s0 : ((([] : List Int).length : Int) == 0) = true := rfl
      have HF : Hid (∀ w' c9, Keeps (fun _ => False) w w' → DoP [] c a w (.returned (.tuple #[.bool false, .int .i64 0, .slice a 0 c9])) w') := fun w' c9 kk => HP.out _ _ a c9 _ ⟨rfl, rfl⟩ [] rfl (fun i hi => absurd hi (by simp)) kk (fun _ _ e => .inl e)
      simp only [List.length_nil] at *
      go_wp2_with fail
      go_ret3
      exact HF.out _ _ k1
    | cons x T =>
      simp only at HP
      have s3 : 0 < (x :: T).length := by simp
      have s0 : ((((x :: T).length : Nat) : Int) == 0) = false := by rw [beq_eq_false_iff_ne]; omega
      have s1 : ((x :: T).length == 0) = false := by simp
      have s2 : (0 : Int) < (((x :: T).length : Nat) : Int) := by omega
      obtain ⟨b, off, rfl, hc⟩ := HL.out 0 s3
      have hx : w1.cell? ⟨b, off, none⟩ = some (.int .i64 x) := k1.cell hc (fun e => e)
      have HW2 : Hid (∀ W, Keeps (fun _ => False) w1 W → Calls Try.prog 48 #[.slice (some ⟨b, off, none⟩) (x :: T).length cap, .int .i64 x] W fun e w' => ∃ a2 c9, e = .returned (.slice a2 (woutL (x :: T) x).length c9) ∧ KL w' a2 (woutL (x :: T) x) ∧ Keeps (fun _ => False) W w' ∧ ∀ b off, a2 = some ⟨b, off, none⟩ → W.heap.size ≤ b) := fun W kW => (HWO.out W x (k1.trans kW)).mono (by
        rintro e w' ⟨v, rfl, ho, kk⟩
        obtain ⟨a2, c9, rfl, hk2, -, hbb⟩ := kl_keep ho (Keeps.refl _ _)
        exact ⟨a2, c9, rfl, hk2, kk, hbb⟩)
      clear hc HWO HWI HIN
      generalize (x :: T).length = N at *
      go_wp2_with fail
      go_region_held3 (fun w' => w'.cell? ⟨b, off, none⟩ = some (.int .i64 x)) (go_keep) ((go_at_call 48; refine (HW2.out _ (Keeps.refl _ w1).drew).mono ?_; rintro e w6 ⟨a2, c9, rfl, hk6, K6, hb6⟩; have qx := K6.cell (p := ⟨b, off, none⟩) hx (fun e => e)))
      go_wp2
      go_ret3
      exact HP.out _ _ a2 c9 _ ⟨rfl, rfl⟩ _ rfl hk6 (((k1.trans ((Keeps.refl _ w1).drew))).trans K6) (fun b off e => .inr (Nat.le_trans k1.size (hb6 b off e)))
  have q4 : (kd == 4) = false := by simp [g4]
  simp only [if_neg g4] at HP
  clear g4
  by_cases g5 : kd = 5
  · have q5 : (kd == 5) = true := by simp [g5]
    simp only [if_pos g5] at HP
    clear g5
    have HF : Hid (∀ w' c9, Keeps (fun _ => False) w w' → DoP S c a w (.returned (.tuple #[.bool true, .int .i64 (S.length : Int), .slice a S.length c9])) w') := fun w' c9 kk => HP.out _ _ a c9 _ ⟨rfl, rfl⟩ S rfl (HL.out.keep kk) kk (fun _ _ e => .inl e)
    generalize decide (ky ∈ S) = dk at *
    generalize S.length = N at *
    go_wp2_with fail
    go_ret3
    exact HF.out _ _ k1
  have q5 : (kd == 5) = false := by simp [g5]
  simp only [if_neg g5] at HP
  clear g5
  have hi2 := HIN.out w1 ot k1
  by_cases g6 : ky ∉ S ∨ ot ∈ S
  · simp only [if_pos g6] at HP
    have HF : Hid (∀ w' c9, Keeps (fun _ => False) w w' → DoP S c a w (.returned (.tuple #[.bool false, .int .i64 0, .slice a S.length c9])) w') := fun w' c9 kk => HP.out _ _ a c9 _ ⟨rfl, rfl⟩ S rfl (HL.out.keep kk) kk (fun _ _ e => .inl e)
    by_cases m1 : ky ∈ S
    · have d1 : decide (ky ∈ S) = true := decide_eq_true m1
      have d2 : decide (ot ∈ S) = true := decide_eq_true (g6.resolve_left (fun h => h m1))
      rw [d1]
      rw [d2] at hi2
      clear d1 d2 m1 g6
      generalize S.length = N at *
      go_wp2_with (go_at_call 46; refine hi2.mono ?_; clear hi2; rintro e w2 ⟨rfl, k2⟩)
      go_ret3
      exact HF.out _ _ (k1.trans k2)
    · have d1 : decide (ky ∈ S) = false := decide_eq_false m1
      rw [d1]
      generalize decide (ot ∈ S) = d2 at *
      clear d1 m1 g6
      generalize S.length = N at *
      go_wp2_with (go_at_call 46; refine hi2.mono ?_; clear hi2; rintro e w2 ⟨rfl, k2⟩)
      go_ret3
      exact HF.out _ _ (k1.trans k2)
  · simp only [if_neg g6] at HP
    have m1 : ky ∈ S := by
      by_cases q : ky ∈ S
      · exact q
      · exact absurd (.inl q) g6
    have d1 : decide (ky ∈ S) = true := decide_eq_true m1
    have d2 : decide (ot ∈ S) = false := decide_eq_false (fun q => g6 (.inr q))
    rw [d1]
    rw [d2] at hi2
    clear d1 d2 m1 g6
    have HW3 : Hid (∀ W, Keeps (fun _ => False) w1 W → Calls Try.prog 48 #[.slice a S.length cap, .int .i64 ky] W fun e w' => ∃ a2 n2 c9, e = .returned (.slice a2 n2 c9) ∧ (∀ W2, Keeps (fun _ => False) w' W2 → Calls Try.prog 47 #[.slice a2 n2 c9, .int .i64 ot] W2 fun e w' => ∃ a3 c3, e = .returned (.slice a3 (withL (woutL S ky) ot).length c3) ∧ KL w' a3 (withL (woutL S ky) ot) ∧ Keeps (fun _ => False) W2 w' ∧ ∀ b off, a3 = some ⟨b, off, none⟩ → W2.heap.size ≤ b) ∧ Keeps (fun _ => False) W w') := fun W kW => (HWO.out W ky (k1.trans kW)).mono (by
      rintro e w' ⟨v, rfl, ho, kk⟩
      obtain ⟨a2, c9, rfl, hk2, hl2, -⟩ := kl_keep ho (Keeps.refl _ _)
      refine ⟨a2, _, c9, rfl, fun W2 kk2 => (with_any (hk2.keep kk2) (rise_wout HRS.out) (Nat.le_trans (wout_len S ky) (by omega)) ot).mono ?_, kk⟩
      rintro e w3 ⟨v3, rfl, ho3, kk3⟩
      obtain ⟨a3, c3, rfl, hk3, -, hb3⟩ := kl_keep ho3 (Keeps.refl _ _)
      exact ⟨a3, c3, rfl, hk3, kk3, hb3⟩)
    have HF : Hid (∀ w' a3 c3, KL w' a3 (withL (woutL S ky) ot) → Keeps (fun _ => False) w w' → (∀ b off, a3 = some ⟨b, off, none⟩ → w.heap.size ≤ b) → DoP S c a w (.returned (.tuple #[.bool true, .int .i64 0, .slice a3 (withL (woutL S ky) ot).length c3])) w') := fun w' a3 c3 hk kk hbb => HP.out _ _ a3 c3 _ ⟨rfl, rfl⟩ _ rfl hk kk (fun b off e => .inr (hbb b off e))
    clear HWO HWI HIN
    generalize (withL (woutL S ky) ot).length = N3 at *
    generalize S.length = N at *
    go_wp2_with (first | (go_at_call 46; refine hi2.mono ?_; clear hi2; rintro e w2 ⟨rfl, k2⟩; have hw3 := HW3.out w2 k2; replace c1 := k2.cell c1 (fun e => e); replace c2 := k2.cell c2 (fun e => e)) | (go_at_call 48; refine hw3.mono ?_; clear hw3; rintro e w3 ⟨a2, n2, c9, rfl, hw4, k3⟩; replace hw4 := hw4 w3 (Keeps.refl _ _); replace c2 := k3.cell c2 (fun e => e)) | (go_at_call 47; refine hw4.mono ?_; clear hw4; rintro e w4 ⟨a3, c3, rfl, hk4, k4, hb4⟩))
    go_ret3
    exact HF.out _ _ _ hk4 (((k1.trans k2).trans k3).trans k4) (fun b off e => Nat.le_trans ((k1.trans k2).trans k3).size (hb4 b off e))
end Go.Proofs.Ytlglhmmlebjidaa
