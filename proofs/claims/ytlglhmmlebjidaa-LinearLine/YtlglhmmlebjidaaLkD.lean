import Derived.Test.YtlglhmmlebjidaaLkC
namespace Go.Proofs.Ytlglhmmlebjidaa
open Go.RowKit
theorem may_kind {c : Cl} (h : mayP c = true) : 1 ≤ c.kind ∧ c.kind ≤ 6 := by
  unfold mayP at h
  split at h
  · cases h
  · rename_i h0
    constructor
    · by_cases q : c.kind < 1
      · exact absurd (.inl q) h0
      · omega
    · by_cases q : 6 < c.kind
      · exact absurd (.inr (.inl q)) h0
      · omega
theorem goK_app {l : List Cl} {L M : List Nat} {k : Nat} (h : k < L.length) : goK l (L ++ M) k = goK l L k := by
  unfold goK
  rw [setK_app l L M k (by omega), getD_app h]
/-- The line so far. -/
structure LM (l : List Cl) (P : List Int) (w : World) (i : Nat) (Wr : World) (U : List Int) (v : Value) (L : List Nat) : Prop where
  t : P.take i = iOf L
  n : L.length = i
  d : L.Nodup
  b : ∀ x ∈ L, x < l.length
  g : ∀ k, k < i → goK l L k = true
  a : CL Wr (w.heap.size + 1) (atC L)
  s : SU (w.heap.size + 2) Wr w.heap.size U v
  u : US U (setK l L i)
  k : Keeps (fun _ => False) w Wr
theorem LM.next {l : List Cl} {P : List Int} {w : World} {i p : Nat} {Wr W' : World} {U U' : List Int} {v v' : Value} {L : List Nat} (h : LM l P w i Wr U v L) (hi : i < P.length) (hp : P.getD i 0 = (p : Int)) (hpN : p < l.length) (hpL : p ∉ L) (hg : goesP (l.getD p cl0) (doesL (setK l L i) (l.getD p cl0)).1 (doesL (setK l L i) (l.getD p cl0)).2.1 = true) (ha : CL W' (w.heap.size + 1) (atC (L ++ [p]))) (hs : SU (w.heap.size + 2) W' w.heap.size U' v') (hu : US U' (doesL (setK l L i) (l.getD p cl0)).2.2) (hk : Keeps (fun _ => False) w W') : LM l P w (i + 1) W' U' v' (L ++ [p]) := by
  have e : setK l (L ++ [p]) i = setK l L i := setK_app l L [p] i (by rw [h.n]; exact Nat.le_refl _)
  have e2 : (L ++ [p]).getD i 0 = p := by rw [← h.n]; exact getD_last L p
  refine ⟨?_, by rw [List.length_append, h.n]; rfl, ?_, ?_, ?_, ha, hs, ?_, hk⟩
  · rw [take_next hi, h.t, hp]
    unfold iOf
    rw [List.map_append]
    rfl
  · rw [List.nodup_append]
    exact ⟨h.d, by simp, fun x hx y hy => by simp at hy; subst hy; exact fun e => hpL (e ▸ hx)⟩
  · intro x hx
    rcases List.mem_append.1 hx with hx | hx
    · exact h.b x hx
    · simp at hx; subst hx; exact hpN
  · intro k hk'
    by_cases ek : k = i
    · subst ek
      unfold goK
      rw [e2, e]
      exact hg
    · rw [goK_app (by rw [h.n]; omega)]
      exact h.g k (by omega)
  · show US U' (doesL (setK l (L ++ [p]) i) (l.getD ((L ++ [p]).getD i 0) cl0)).2.2
    rw [e2, e]
    exact hu
/-- What the law asks of a call of the line's: a is none of those that b stands ahead of. -/
def EB (l : List Cl) (L : List Nat) (a b : Nat) : Prop := b ∈ L → (l.getD a cl0).to_ < (l.getD b cl0).from_ → L.idxOf a ≤ L.idxOf b
def EA (l : List Cl) (L : List Nat) (a : Nat) : Prop := ansD (l.getD a cl0) = true → a ∈ L ∧ ∀ b, b < l.length → EB l L a b
/-- What line answers. -/
def LlP (l : List Cl) (P : List Int) (w : World) (e : Ending) (w' : World) : Prop := ∃ b, e = .returned (.bool b) ∧ (b = true ↔ LnI l P) ∧ Keeps (fun _ => False) w w'
theorem rep_set {i : Nat} (h : i < 8) : (List.replicate i (Value.int .i64 (-1)) ++ List.replicate (8 - i) (Value.int .i64 0)).set i (.int .i64 (-1)) = List.replicate (i + 1) (Value.int .i64 (-1)) ++ List.replicate (8 - (i + 1)) (Value.int .i64 0) := by
  rcases (by omega : i = 0 ∨ i = 1 ∨ i = 2 ∨ i = 3 ∨ i = 4 ∨ i = 5 ∨ i = 6 ∨ i = 7) with rfl | rfl | rfl | rfl | rfl | rfl | rfl | rfl <;> rfl
set_option maxHeartbeats 2000000 in
set_option maxRecDepth 100000 in
theorem line_any {w : World} {a pa : Option Addr} {cap pc : Nat} {l : List Cl} {P : List Int} (hl : CSL w a l) (hM : MayL l) (hn : l.length ≤ 8) (hp : KL w pa P) (hpn : P.length ≤ 17592186044416) : Calls Try.prog 17 #[.slice a l.length cap, .slice pa P.length pc] w (LlP l P w) := by
  obtain ⟨W1, hW1⟩ : ∃ W1, W1 = (w.alloc (.cells #[.slice none 0 0] 36)).alloc (.cells (List.replicate 8 (Value.int .i64 0)).toArray 67) := ⟨_, rfl⟩
  have k1 : Keeps (fun _ => False) w W1 := by rw [hW1]; exact ((Keeps.refl _ w).alloc _).alloc _
  have hb0 : CL W1 w.heap.size [.slice none 0 0] := by rw [hW1]; exact (CL.made w [.slice none 0 0] 36).alloc (by show 0 < 1; decide) _
  have hb1 : CL W1 (w.heap.size + 1) (List.replicate 0 (Value.int .i64 (-1)) ++ List.replicate (8 - 0) (Value.int .i64 0)) := by
    rw [hW1]
    have h := CL.made (w.alloc (.cells #[.slice none 0 0] 36)) (List.replicate 8 (Value.int .i64 0)) 67
    simpa using h
  have z1 : W1.heap.size = w.heap.size + 2 := by rw [hW1]; simp
  have HW1 : Hid (W1 = (w.alloc (.cells #[.slice none 0 0] 36)).alloc (.cells (List.replicate 8 (Value.int .i64 0)).toArray 67)) := hW1
  clear hW1
  have HL : Hid (CSL w a l) := hl
  have HMM : Hid (MayL l) := hM
  have HP : Hid (KL w pa P) := hp
  clear hl hM hp
  generalize hN : l.length = N at *
  have HN : Hid (l.length = N) := hN
  clear hN
  generalize hMl : P.length = M at *
  have HM : Hid (P.length = M) := hMl
  clear hMl
  go_enter Try.func17, Try.ntmps17
  refine wp_seq_k (fun KK hKK => ?_)
  have hKH : Hid _ := hKK
  clear hKK
  go_wp2_with fail
  refine hKH.out _ _ ?_
  clear hKH KK
  refine wp_seq_k (fun KK hKK => ?_)
  have hKH : Hid _ := hKK
  clear hKK
  go_wp2_with fail
  refine hKH.out _ _ ?_
  clear hKH KK
  refine wp_seq_k (fun KK hKK => ?_)
  have hKH : Hid _ := hKK
  clear hKK
  go_wp2_with fail
  refine hKH.out _ _ ?_
  clear hKH KK
  have e9 := HW1.out
  simp only [List.replicate] at e9
  rw [← e9]
  clear HW1 e9
  have HB0 : Hid (CL W1 w.heap.size [.slice none 0 0]) := hb0
  go_wp2_with fail
  go_loopg [7] 8 (fun g iv Wr => ∃ (i : Nat), i + g = 8 ∧ iv = .int .i64 (i : Int) ∧ CL Wr (w.heap.size + 1) (List.replicate i (Value.int .i64 (-1)) ++ List.replicate (8 - i) (Value.int .i64 0)) ∧ Keeps (fun b => b = w.heap.size + 1) W1 Wr)
  case atStart => exact ⟨0, rfl, rfl, hb1, Keeps.refl _ _⟩
  case round =>
    obtain ⟨i, hig, rfl, hC, kr⟩ := hrel
    cases gk with
    | succ g =>
      have j1 : decide ((i : Int) < 8) = true := decide_eq_true (by omega)
      have j2 : decide (i < 8) = true := decide_eq_true (by omega)
      have j3 : (i : Int) < 8 := by omega
      have j4 : (0 : Int) ≤ (i : Int) := by omega
      have j6 : i < 8 := by omega
      have hwi : IntKind.i64.wrap ((i : Int) + 1) = (i : Int) + 1 := by rw [IntKind.wrap_i64]; omega
      have HRS : Hid _ := rep_set j6
      have HLN : Hid (i < (List.replicate i (Value.int .i64 (-1)) ++ List.replicate (8 - i) (Value.int .i64 0)).length) := by show _ < _; simp; omega
      generalize List.replicate i (Value.int .i64 (-1)) ++ List.replicate (8 - i) (Value.int .i64 0) = CC at *
      go_wp2_with (refine wpList_store_c1L rfl rfl _ _ rfl (w.heap.size + 1) i rfl (-1) rfl hC HLN.out ?_; intro w5 hc5 k5)
      go_roundg g
      case measure => omega
      case rel => exact ⟨i + 1, by omega, by go_num, by rw [← HRS.out]; exact hc5, kr.trans' k5 (fun _ _ e => e) (fun _ _ e => e)⟩
    | zero =>
      have j1 : decide ((i : Int) < 8) = false := decide_eq_false (by omega)
      have j2 : decide (i < 8) = false := decide_eq_false (by omega)
      have hi8 : i = 8 := by omega
      have HLM : Hid (LM l P w 0 wr [] (.slice none 0 0) []) := ⟨rfl, rfl, List.nodup_nil, (fun x hx => by cases hx), (fun k hk => absurd hk (by omega)), by rw [atC_nil]; rw [hi8] at hC; exact hC, ⟨HB0.out.keep (by show 0 < 1; decide) kr (fun e => by have e : w.heap.size = w.heap.size + 1 := e; omega), World.ownsRow_nil _ _ _ _, by omega, by have := kr.size; omega⟩, ⟨List.nodup_nil, fun x => Iff.rfl⟩, k1.trans' kr (fun _ _ e => e) (fun j hj e => by have e : j = w.heap.size + 1 := e; omega)⟩
      clear hC hi8 k1 hb0 hb1
      go_wp2_with fail
      go_loopg [8] M (fun g iv Wr => ∃ (i : Nat) (U : List Int) (v : Value) (L : List Nat), i + g = M ∧ iv = .int .i64 (i : Int) ∧ LM l P w i Wr U v L)
      case atStart => exact ⟨0, [], _, [], by omega, rfl, HLM.out⟩
      case round =>
        obtain ⟨i, U, v, L, hig, rfl, hLM⟩ := hrel
        have HLMi : Hid (LM l P w i wr U v L) := hLM
        clear hLM HLM
        have hiN : i ≤ N := by
          have := nodup_le _ _ HLMi.out.d HLMi.out.b
          rw [HLMi.out.n, HN.out] at this
          exact this
        cases gk with
        | zero =>
          have hiM : i = M := by omega
          have ePL : P = iOf L := by
            have h := HLMi.out.t
            rwa [List.take_of_length_le (by rw [HM.out]; omega)] at h
          have HE : Hid (LnI l P ↔ ∀ a, a < l.length → EA l L a) := by
            show _ ↔ _
            rw [ePL]
            exact lnI_end HMM.out HLMi.out.d HLMi.out.b (fun k hk => HLMi.out.g k (by rw [HLMi.out.n] at hk; exact hk))
          clear ePL
          have m1o : decide ((i : Int) < (M : Int)) = false := decide_eq_false (by omega)
          have m2o : decide (i < M) = false := decide_eq_false (by omega)
          clear hiM hig
          obtain ⟨w0, hw0⟩ : ∃ w0, w0 = wr := ⟨_, rfl⟩
          subst hw0
          have HCA : Hid (∀ W, Keeps (fun _ => False) w0 W → ∀ x, x < 8 → W.cell? ⟨w.heap.size + 1, x, none⟩ = some (.int .i64 (atF L x))) := fun W kW x hx => (HLMi.out.a.keep (by rw [atC_len]; decide) kW (fun e => e)).c x _ (atC_get hx)
          go_wp2_with fail
          go_loopg [12] N (fun g5 yv Wx => ∃ (y : Nat), y + g5 = N ∧ yv = .int .i64 (y : Int) ∧ (∀ x, x < y → EA l L x) ∧ Keeps (fun _ => False) w0 Wx)
          case atStart => exact ⟨0, by omega, rfl, fun x hx => absurd hx (by omega), Keeps.refl _ _⟩
          case round =>
            obtain ⟨y, hyg, rfl, hal, k5⟩ := hrel
            have HAL : Hid (∀ x, x < y → EA l L x) := hal
            clear hal
            cases gk with
            | zero =>
              have HT : Hid (LnI l P) := HE.out.2 (fun x hx => HAL.out x (by rw [HN.out] at hx; omega))
              have m1a : decide ((y : Int) < (N : Int)) = false := decide_eq_false (by omega)
              have m2a : decide (y < N) = false := decide_eq_false (by omega)
              go_wp2_with fail
              go_ret
              exact ⟨true, rfl, ⟨fun _ => HT.out, fun _ => rfl⟩, HLMi.out.k.trans k5⟩
            | succ g5 =>
              have m1a : decide ((y : Int) < (N : Int)) = true := decide_eq_true (by omega)
              have m2a : decide (y < N) = true := decide_eq_true (by omega)
              have m3a : (y : Int) < (N : Int) := by omega
              have m4a : (0 : Int) ≤ (y : Int) := by omega
              have m5a : IntKind.i64.wrap ((y : Int) + 1) = (y : Int) + 1 := by rw [IntKind.wrap_i64]; omega
              have hyL : y < l.length := by rw [HN.out]; omega
              have HYL : Hid (y < l.length) := hyL
              obtain ⟨b3, o3, e3, hc3⟩ := HL.out y hyL
              subst e3
              have HC7 : Hid (∀ W, Keeps (fun _ => False) w0 W → W.cell? ⟨b3, o3 + y * 8 + 7, none⟩ = some (.int .i64 (l.getD y cl0).to_)) := fun W kW => (HLMi.out.k.trans kW).cell (hc3 7 _ rfl) (fun e => e)
              have y8 : (y : Int) < 8 := by omega
              have y0 : (0 : Int) ≤ (y : Int) := by omega
              have HYN : Hid (EA l L y → ∀ x, x < y + 1 → EA l L x) := fun h x hx => by
                by_cases e : x = y
                · rw [e]; exact h
                · exact HAL.out x (by omega)
              have HANS : Hid (ansD (l.getD y cl0) = ((l.getD y cl0).to_ != -1)) := rfl
              obtain ⟨ta, hta⟩ : ∃ ta, ta = (l.getD y cl0).to_ := ⟨_, rfl⟩
              have HTA : Hid ((l.getD y cl0).to_ = ta) := hta.symm
              rw [← hta] at HC7 HANS
              clear hc3 hyL HAL hta
              have c7 := HC7.out wr k5
              have HCY : Hid (∀ W, Keeps (fun _ => False) w0 W → W.cell? ⟨w.heap.size + 1, y, none⟩ = some (.int .i64 (atF L y))) := fun W kW => HCA.out W kW y (by omega)
              by_cases ht : ta = -1
              · have t1 : (ta != -1) = false := by simp [ht]
                have HXX : Hid _ := HYN.out (fun h => by rw [HANS.out, t1] at h; cases h)
                clear ht HCY
                go_wp2_with fail
                go_loopg [13] N (fun g6 zv Wy => ∃ (z : Nat), z + g6 = N ∧ zv = .int .i64 (z : Int) ∧ Keeps (fun _ => False) w0 Wy)
                case atStart => exact ⟨0, by omega, rfl, k5⟩
                case round =>
                  obtain ⟨z, hzg, rfl, k6⟩ := hrel
                  cases gk with
                  | succ g6 =>
                    have m1b : decide ((z : Int) < (N : Int)) = true := decide_eq_true (by omega)
                    have m2b : decide (z < N) = true := decide_eq_true (by omega)
                    have m3b : (z : Int) < (N : Int) := by omega
                    have m4b : (0 : Int) ≤ (z : Int) := by omega
                    have m5b : IntKind.i64.wrap ((z : Int) + 1) = (z : Int) + 1 := by rw [IntKind.wrap_i64]; omega
                    haveI : Nonempty (KS wr) := ⟨⟨wr, Keeps.refl _ _⟩⟩
                    have p7 : ∀ u : KS wr, u.1.cell? ⟨b3, o3 + y * 8 + 7, none⟩ = some (.int .i64 ta) := ks_cell (HC7.out wr k6)
                    have z8 : (z : Int) < 8 := by omega
                    have z0 : (0 : Int) ≤ (z : Int) := by omega
                    go_wp2_with fail
                    refine wp_region_ks (by kernel_rfl) (by kernel_rfl) ?_
                    (repeat (first | go_big_quiet_skip | go_big_quiet_step (fail)))
                    refine wpQuiet_nil ?_
                    rintro _ ⟨u, rfl⟩
                    have ku := k6.trans u.property
                    generalize u.val = wu at *
                    go_wp2
                    go_roundg g6
                    case measure => omega
                    case rel => exact ⟨z + 1, by omega, by go_num, ku⟩
                  | zero =>
                    have hzN : z = N := by omega
                    have m1b : decide ((z : Int) < (N : Int)) = false := decide_eq_false (by omega)
                    have m2b : decide (z < N) = false := decide_eq_false (by omega)
                    go_wp2_with fail
                    go_roundg g5
                    case measure => omega
                    case rel => exact ⟨y + 1, by omega, by go_num, HXX.out, k6⟩
              · have t1 : (ta != -1) = true := by simp [ht]
                have HAY : Hid (ansD (l.getD y cl0) = true) := by show _ = _; rw [HANS.out, t1]
                clear ht
                have cy := HCY.out wr k5
                by_cases hyin : y ∈ L
                · have s1 : ((atF L y) == -1) = false := by rw [atF_in hyin, beq_eq_false_iff_ne]; omega
                  have HIY : Hid (atF L y = (L.idxOf y : Int)) := atF_in hyin
                  have HYI : Hid (y ∈ L) := hyin
                  clear hyin
                  generalize atF L y = iy at *
                  go_wp2_with fail
                  go_loopg [13] N (fun g6 zv Wy => ∃ (z : Nat), z + g6 = N ∧ zv = .int .i64 (z : Int) ∧ (∀ b, b < z → EB l L y b) ∧ Keeps (fun _ => False) w0 Wy)
                  case atStart => exact ⟨0, by omega, rfl, (fun b hb => absurd hb (by omega)), k5⟩
                  case round =>
                    obtain ⟨z, hzg, rfl, hbz, k6⟩ := hrel
                    have HBZ : Hid (∀ b, b < z → EB l L y b) := hbz
                    clear hbz
                    cases gk with
                    | succ g6 =>
                      have m1b : decide ((z : Int) < (N : Int)) = true := decide_eq_true (by omega)
                      have m2b : decide (z < N) = true := decide_eq_true (by omega)
                      have m3b : (z : Int) < (N : Int) := by omega
                      have m4b : (0 : Int) ≤ (z : Int) := by omega
                      have m5b : IntKind.i64.wrap ((z : Int) + 1) = (z : Int) + 1 := by rw [IntKind.wrap_i64]; omega
                      haveI : Nonempty (KS wr) := ⟨⟨wr, Keeps.refl _ _⟩⟩
                      have p7 : ∀ u : KS wr, u.1.cell? ⟨b3, o3 + y * 8 + 7, none⟩ = some (.int .i64 ta) := ks_cell (HC7.out wr k6)
                      have z8 : (z : Int) < 8 := by omega
                      have z0 : (0 : Int) ≤ (z : Int) := by omega
                      have hzL : z < l.length := by rw [HN.out]; omega
                      obtain ⟨b4, o4, e4, hc4⟩ := HL.out z hzL
                      injection e4 with e4
                      injection e4 with e41 e42 _
                      subst e41 e42
                      have p5 : ∀ u : KS wr, u.1.cell? ⟨b3, o3 + z * 8 + 5, none⟩ = some (.int .i64 (l.getD z cl0).from_) := ks_cell ((HLMi.out.k.trans k6).cell (hc4 5 _ rfl) (fun e => e))
                      have py : ∀ u : KS wr, u.1.cell? ⟨w.heap.size + 1, y, none⟩ = some (.int .i64 iy) := ks_cell (HCY.out wr k6)
                      have pz : ∀ u : KS wr, u.1.cell? ⟨w.heap.size + 1, z, none⟩ = some (.int .i64 (atF L z)) := ks_cell (HCA.out wr k6 z (by omega))
                      have HZN : Hid (EB l L y z → ∀ b, b < z + 1 → EB l L y b) := fun h b hb => by
                        by_cases e : b = z
                        · rw [e]; exact h
                        · exact HBZ.out b (by omega)
                      have HZB : Hid (¬ EB l L y z → ¬ LnI l P) := fun h q => h (((HE.out.1 q y HYL.out) HAY.out).2 z hzL)
                      clear hc4 hzL HBZ
                      by_cases hzin : z ∈ L
                      · have a1 : ((atF L z) != -1) = true := by rw [atF_in hzin, bne_iff_ne]; omega
                        have HIZ : Hid (atF L z = (L.idxOf z : Int)) := atF_in hzin
                        generalize atF L z = iz at *
                        by_cases hlt : ta < (l.getD z cl0).from_
                        · have a2 : decide (ta < (l.getD z cl0).from_) = true := decide_eq_true hlt
                          by_cases hgt : iz < iy
                          · have a3 : decide (iz < iy) = true := decide_eq_true hgt
                            have a3' : decide (iy > iz) = true := decide_eq_true hgt
                            have HF : Hid (¬ LnI l P) := HZB.out (fun h => by
                              have h1 := h hzin (by rw [HTA.out]; exact hlt)
                              rw [HIZ.out, HIY.out] at hgt
                              omega)
                            clear hgt hlt hzin
                            generalize (l.getD z cl0).from_ = fz at *
                            go_wp2_with fail
                            refine wp_region_ks (by kernel_rfl) (by kernel_rfl) ?_
                            (repeat (first | go_big_quiet_skip | go_big_quiet_step (fail)))
                            refine wpQuiet_nil ?_
                            rintro _ ⟨u, rfl⟩
                            have ku := k6.trans u.property
                            generalize u.val = wu at *
                            go_wp2
                            go_ret
                            exact ⟨false, rfl, ⟨(fun e => by cases e), fun h => absurd h HF.out⟩, HLMi.out.k.trans ku⟩
                          · have a3 : decide (iz < iy) = false := decide_eq_false hgt
                            have a3' : decide (iy > iz) = false := decide_eq_false hgt
                            have HXZ : Hid _ := HZN.out (fun _ _ => by
                              rw [HIZ.out, HIY.out] at hgt
                              omega)
                            clear hgt hlt hzin
                            generalize (l.getD z cl0).from_ = fz at *
                            go_wp2_with fail
                            refine wp_region_ks (by kernel_rfl) (by kernel_rfl) ?_
                            (repeat (first | go_big_quiet_skip | go_big_quiet_step (fail)))
                            refine wpQuiet_nil ?_
                            rintro _ ⟨u, rfl⟩
                            have ku := k6.trans u.property
                            generalize u.val = wu at *
                            go_wp2
                            go_roundg g6
                            case measure => omega
                            case rel => exact ⟨z + 1, by omega, by go_num, HXZ.out, ku⟩
                        · have a2 : decide (ta < (l.getD z cl0).from_) = false := decide_eq_false hlt
                          have HXZ : Hid _ := HZN.out (fun _ h => absurd h (by rw [HTA.out]; exact hlt))
                          clear hlt hzin
                          generalize (l.getD z cl0).from_ = fz at *
                          go_wp2_with fail
                          refine wp_region_ks (by kernel_rfl) (by kernel_rfl) ?_
                          (repeat (first | go_big_quiet_skip | go_big_quiet_step (fail)))
                          refine wpQuiet_nil ?_
                          rintro _ ⟨u, rfl⟩
                          have ku := k6.trans u.property
                          generalize u.val = wu at *
                          go_wp2
                          go_roundg g6
                          case measure => omega
                          case rel => exact ⟨z + 1, by omega, by go_num, HXZ.out, ku⟩
                      · have a1 : ((atF L z) != -1) = false := by rw [atF_out hzin]; rfl
                        have HXZ : Hid _ := HZN.out (fun h => absurd h hzin)
                        clear hzin
                        generalize atF L z = iz at *
                        generalize (l.getD z cl0).from_ = fz at *
                        go_wp2_with fail
                        refine wp_region_ks (by kernel_rfl) (by kernel_rfl) ?_
                        (repeat (first | go_big_quiet_skip | go_big_quiet_step (fail)))
                        refine wpQuiet_nil ?_
                        rintro _ ⟨u, rfl⟩
                        have ku := k6.trans u.property
                        generalize u.val = wu at *
                        go_wp2
                        go_roundg g6
                        case measure => omega
                        case rel => exact ⟨z + 1, by omega, by go_num, HXZ.out, ku⟩
                    | zero =>
                      have hzN : z = N := by omega
                      have HXX : Hid _ := HYN.out (fun _ => ⟨HYI.out, fun b hb => HBZ.out b (by rw [HN.out] at hb; omega)⟩)
                      clear HBZ
                      have m1b : decide ((z : Int) < (N : Int)) = false := decide_eq_false (by omega)
                      have m2b : decide (z < N) = false := decide_eq_false (by omega)
                      go_wp2_with fail
                      go_roundg g5
                      case measure => omega
                      case rel => exact ⟨y + 1, by omega, by go_num, HXX.out, k6⟩
                · have s1 : ((atF L y) == -1) = true := by rw [atF_out hyin]; rfl
                  have HF : Hid (¬ LnI l P) := fun h => hyin (HE.out.1 h y HYL.out HAY.out).1
                  clear hyin
                  generalize atF L y = iy at *
                  go_wp2_with fail
                  go_ret
                  exact ⟨false, rfl, ⟨(fun e => by cases e), fun h => absurd h HF.out⟩, HLMi.out.k.trans k5⟩
        | succ g =>
          have m1o : decide ((i : Int) < (M : Int)) = true := decide_eq_true (by omega)
          have m2o : decide (i < M) = true := decide_eq_true (by omega)
          have m3o : (i : Int) < (M : Int) := by omega
          have m4o : (0 : Int) ≤ (i : Int) := by omega
          have m5o : IntKind.i64.wrap ((i : Int) + 1) = (i : Int) + 1 := by rw [IntKind.wrap_i64]; omega
          have hiP : i < P.length := by rw [HM.out]; omega
          obtain ⟨bp, op, ep, hcp⟩ := HP.out i hiP
          subst ep
          have c0 := HLMi.out.k.cell hcp (fun e => e)
          have HAT : Hid (LnI l P → ∃ p : Nat, P.getD i 0 = (p : Int) ∧ p < l.length ∧ p ∉ L ∧ goesP (l.getD p cl0) (doesL (setK l L i) (l.getD p cl0)).1 (doesL (setK l L i) (l.getD p cl0)).2.1 = true) := lnI_at HLMi.out.t hiP
          have HNX : Hid (∀ p W' U' v', P.getD i 0 = ((p : Nat) : Int) → p < l.length → p ∉ L → goesP (l.getD p cl0) (doesL (setK l L i) (l.getD p cl0)).1 (doesL (setK l L i) (l.getD p cl0)).2.1 = true → CL W' (w.heap.size + 1) (atC (L ++ [p])) → SU (w.heap.size + 2) W' w.heap.size U' v' → US U' (doesL (setK l L i) (l.getD p cl0)).2.2 → Keeps (fun _ => False) w W' → LM l P w (i + 1) W' U' v' (L ++ [p])) := fun p W' U' v' q1 q2 q3 q4 q5 q6 q7 q8 => HLMi.out.next hiP q1 q2 q3 q4 q5 q6 q7 q8
          have hbpw := hcp
          clear hcp hiP
          generalize P.getD i 0 = p0 at *
          by_cases h1 : p0 < 0
          · have d1 : decide (p0 < 0) = true := decide_eq_true h1
            have HF : Hid (¬ LnI l P) := fun h => by obtain ⟨p, e, -⟩ := HAT.out h; omega
            clear h1
            go_wp2_with fail
            go_ret
            exact ⟨false, rfl, ⟨(fun e => by cases e), fun h => absurd h HF.out⟩, HLMi.out.k⟩
          have d1 : decide (p0 < 0) = false := decide_eq_false h1
          by_cases h2 : (N : Int) ≤ p0
          · have d2 : decide ((N : Int) ≤ p0) = true := decide_eq_true h2
            have d2' : decide (p0 ≥ (N : Int)) = true := decide_eq_true h2
            have HF : Hid (¬ LnI l P) := fun h => by
              obtain ⟨p, e, q, -⟩ := HAT.out h
              rw [HN.out] at q
              omega
            clear h2
            go_wp2_with fail
            go_ret
            exact ⟨false, rfl, ⟨(fun e => by cases e), fun h => absurd h HF.out⟩, HLMi.out.k⟩
          obtain ⟨p, rfl⟩ : ∃ p : Nat, p0 = (p : Int) := ⟨p0.toNat, by omega⟩
          have hpN : p < N := by omega
          clear h1 h2
          have d2 : decide ((N : Int) ≤ (p : Int)) = false := decide_eq_false (by omega)
          have d2'' : decide (N ≤ p) = false := decide_eq_false (by omega)
          have d3 : decide ((p : Int) > 7) = false := decide_eq_false (by omega)
          have d3' : decide ((7 : Int) < (p : Int)) = false := decide_eq_false (by omega)
          have d3'' : decide (7 < p) = false := decide_eq_false (by omega)
          have p8 : (p : Int) < 8 := by omega
          have p9 : (p : Int) < (N : Int) := by omega
          have p10 : (0 : Int) ≤ (p : Int) := by omega
          have ca := HLMi.out.a.c p _ (atC_get (by omega))
          by_cases hpL : p ∈ L
          · have d4 : ((atF L p) != -1) = true := by rw [atF_in hpL, bne_iff_ne]; omega
            have HF : Hid (¬ LnI l P) := fun h => by
              obtain ⟨p', e, -, q, -⟩ := HAT.out h
              have : p = p' := by omega
              subst this
              exact q hpL
            clear hpL
            generalize atF L p = ap at *
            go_wp2_with fail
            go_ret
            exact ⟨false, rfl, ⟨(fun e => by cases e), fun h => absurd h HF.out⟩, HLMi.out.k⟩
          · have d4 : ((atF L p) != -1) = false := by rw [atF_out hpL]; rfl
            have HPL : Hid (p ∉ L) := hpL
            have HSET : Hid ((atC L).set p (.int .i64 (i : Int)) = atC (L ++ [p])) := by show _ = _; rw [← HLMi.out.n]; exact atC_set hpL
            have hCa := HLMi.out.a
            have HLA : Hid (p < (atC L).length) := by show _ < _; rw [atC_len]; omega
            clear hpL
            generalize atF L p = ap at *
            have hpl : p < l.length := by rw [HN.out]; exact hpN
            obtain ⟨b, off, rfl, hc⟩ := HL.out p hpl
            have HCP : Hid (∀ W, Keeps (fun _ => False) w W → ∀ j v, (l.getD p cl0).cells[j]? = some v → W.cell? ⟨b, off + p * 8 + j, none⟩ = some v) := fun W kW j v e => kW.cell (hc j v e) (fun e => e)
            have hkd := may_kind (HMM.out.1 p hpl)
            have hlen : (setK l L i).length ≤ 8 := Nat.le_trans (setK_len l L i) (by omega)
            have HUL : Hid (U.length ≤ 1000) := by show _ ≤ _; rw [HLMi.out.u.len (rise_setK l L i)]; omega
            have HDO : Hid (∀ W, SU (w.heap.size + 2) W w.heap.size U v → Calls Try.prog 13 #[.pointer (some ⟨w.heap.size, 0, none⟩), .agg (l.getD p cl0).cells.toArray] W (UdP (w.heap.size + 2) w.heap.size (setK l L i) (l.getD p cl0) v W)) := fun W hW => udoes_any hW HLMi.out.u (rise_setK l L i) HUL.out _ hkd.1 hkd.2
            have HNX2 : Hid (∀ W' U' v', goesP (l.getD p cl0) (doesL (setK l L i) (l.getD p cl0)).1 (doesL (setK l L i) (l.getD p cl0)).2.1 = true → CL W' (w.heap.size + 1) (atC (L ++ [p])) → SU (w.heap.size + 2) W' w.heap.size U' v' → US U' (doesL (setK l L i) (l.getD p cl0)).2.2 → Keeps (fun _ => False) w W' → LM l P w (i + 1) W' U' v' (L ++ [p])) := fun W' U' v' q4 q5 q6 q7 q8 => HNX.out p W' U' v' rfl hpl HPL.out q4 q5 q6 q7 q8
            have HBG : Hid (goesP (l.getD p cl0) (doesL (setK l L i) (l.getD p cl0)).1 (doesL (setK l L i) (l.getD p cl0)).2.1 = false → ¬ LnI l P) := fun hg h => by
              obtain ⟨p', e, -, -, q⟩ := HAT.out h
              have : p = p' := by omega
              subst this
              rw [q] at hg
              cases hg
            clear hc hpl hkd hlen HAT HNX
            obtain ⟨c, hcd⟩ : ∃ c, c = l.getD p cl0 := ⟨_, rfl⟩
            rw [← hcd] at HCP HDO HNX2 HBG
            clear hcd
            have hOC := all_oneCell_cl c
            have HVB : Hid (∀ g, v.ownBlock = some g → w.heap.size + 2 ≤ g ∧ g < wr.heap.size) := fun g e => ⟨owns_baseT HLMi.out.s.o g e, owns_lt' HLMi.out.s.o g e⟩
            unfold UdP at HDO
            generalize (doesL (setK l L i) c).1 = yy at *
            generalize (doesL (setK l L i) c).2.1 = rr at *
            refine wp_seq_k (fun KK hKK => ?_)
            have hKH : Hid _ := hKK
            clear hKK
            go_wp2_with fail
            refine hKH.out _ _ ?_
            clear hKH KK
            refine wp_seq_k (fun KK hKK => ?_)
            have hKR : Hid _ := hKK
            clear hKK
            refine wp_block ?_
            refine wp_seq_k (fun KK2 hKK2 => ?_)
            have hKH : Hid _ := hKK2
            clear hKK2
            go_wp2_with fail
            refine hKH.out _ _ ?_
            clear hKH KK2
            refine wp_seq_k (fun KK2 hKK2 => ?_)
            have hKH : Hid _ := hKK2
            clear hKK2
            go_wp2_with (refine wpList_store_c1L rfl rfl _ _ rfl (w.heap.size + 1) p rfl (i : Int) rfl hCa HLA.out ?_; intro w5 hc5 k5; rw [HSET.out] at hc5; have K5 : Keeps (fun _ => False) w w5 := HLMi.out.k.trans' k5 (fun _ _ e => e) (fun j hj e => (by have e : j = w.heap.size + 1 := e; omega)); have hR := run_cl (HCP.out w5 K5); have hz5 := k5.size; have cp5 := k5.cell c0 (fun e => (by have e : bp = w.heap.size + 1 := e; have := World.block_lt_of_cell? _ _ hbpw; have this : bp < w.heap.size := this; omega)); obtain ⟨W4, hW4⟩ : ∃ W4, W4 = w5.alloc (.cells #[.int .i64 0, .int .i64 0, .int .i64 0, .bool false, .int .i64 0, .int .i64 0, .int .i64 0, .int .i64 0] 40) := ⟨_, rfl⟩; have k4 : Keeps (fun _ => False) w5 W4 := (by rw [hW4]; exact (Keeps.refl _ w5).alloc _); have hU4 : CL W4 w5.heap.size cl0.cells := (by rw [hW4]; exact CL.made w5 cl0.cells _); have HW4 : Hid (W4 = w5.alloc (.cells #[.int .i64 0, .int .i64 0, .int .i64 0, .bool false, .int .i64 0, .int .i64 0, .int .i64 0, .int .i64 0] 40)) := hW4; clear hW4)
            refine hKH.out _ _ ?_
            clear hKH KK2
            refine wp_seq_k (fun KK2 hKK2 => ?_)
            have hKH : Hid _ := hKK2
            clear hKK2
            go_wp2_with (first | (refine wpList_load_runL rfl 40 _ rfl ⟨b, off + p * 8, none⟩ rfl _ hR ?_; clear hR) | (rw [← HW4.out]; clear HW4; refine wpList_store_cl rfl 40 _ _ rfl w5.heap.size 0 8 _ rfl rfl rfl hU4 (by show 8 ≤ 8; decide) iCl hOC ?_; intro w6 hc6 k6 hsz6; clear hsz6; have hI6 : CL w6 w5.heap.size c.cells := hc6; clear hc6; have K56 : Keeps (fun _ => False) w5 w6 := k4.trans' k6 (fun _ _ e => e) (fun i hi e => (by have e : i = w5.heap.size := e; omega)); clear k4 k6 hU4; have HR6 := run_clB hI6; have hSU6 : SU (w.heap.size + 2) w6 w.heap.size U v := SU.keep ⟨HLMi.out.s.c.keep (by show 0 < 1; decide) k5 (fun e => (by have e : w.heap.size = w.heap.size + 1 := e; omega)), k5.owns HLMi.out.s.o (fun j e1 e2 => (by have := (HVB.out j e1).1; have e2 : j = w.heap.size + 1 := e2; omega)), HLMi.out.s.lt, Nat.le_trans HLMi.out.s.bs k5.size⟩ K56; have hdo := HDO.out w6 hSU6; clear HDO))
            refine hKH.out _ _ ?_
            clear hKH KK2
            refine wp_seq_k (fun KK2 hKK2 => ?_)
            have hKH : Hid _ := hKK2
            clear hKK2
            go_wp2_with (first | (refine wpList_load_runL rfl 40 _ rfl ⟨w5.heap.size, 0, none⟩ rfl _ HR6 ?_; clear HR6) | (go_at_call 13; refine hdo.mono ?_; clear hdo; rintro e w7 ⟨U2, v2, rfl, hS7, hu7, k7⟩; have HU7 : Hid (US U2 (doesL (setK l L i) c).2.2) := hu7; clear hu7; have HNB : Hid (∀ j, w.heap.size < j → (∀ g, v.ownBlock = some g → g ≠ j) → ¬ (j = w.heap.size ∨ v.ownBlock = some j)) := (fun j h1 h2 e => e.elim (fun e => by omega) (fun e => h2 j e rfl)); have hB7 := hI6.keep (by show 0 < 8; decide) k7 (HNB.out _ (by have := HLMi.out.s.bs; omega) (fun g e => (by have := (HVB.out g e).2; omega))); have c7 : w7.cell? ⟨w5.heap.size, 7, none⟩ = some (.int .i64 c.to_) := hB7.c 7 _ rfl; have c3 : w7.cell? ⟨w5.heap.size, 3, none⟩ = some (.bool c.yes) := hB7.c 3 _ rfl; have c4 : w7.cell? ⟨w5.heap.size, 4, none⟩ = some (.int .i64 c.result) := hB7.c 4 _ rfl; have ha7 := (hc5.keep (by rw [atC_len]; decide) K56 (fun e => e)).keep (by rw [atC_len]; decide) k7 (HNB.out _ (by omega) (fun g e => (by have := (HVB.out g e).1; omega))); have K7 : Keeps (fun _ => False) w w7 := (K5.trans K56).trans' k7 (fun _ _ e => e) (fun j hj e => e.elim (fun e => (by omega)) (fun e => (by have := (HVB.out j e).1; omega))); obtain ⟨cy, hcy⟩ : ∃ cy, cy = c.yes := ⟨_, rfl⟩; rw [← hcy] at c3; have HCY : Hid (cy = c.yes) := hcy; clear hcy; have HWF : Hid (CL w7 (w.heap.size + 1) (atC (L ++ [p])) ∧ SU (w.heap.size + 2) w7 w.heap.size U2 v2) := ⟨ha7, hS7⟩; clear hB7 ha7 hS7 hI6 hSU6 hc5 k5 k7 K5 K56 cp5))
            refine hKH.out _ _ ?_
            clear hKH KK2
            by_cases ht : c.to_ = -1
            · have t1 : (c.to_ != -1) = false := by simp [ht]
              have HYE : Hid (goesP c yy rr = true) := by unfold goesP ansD; show _ = _; simp [ht]
              clear ht
              go_wp2_with fail
              refine hKR.out _ _ ?_
              clear hKR KK
              go_wp2_with fail
              go_roundg g
              case measure => omega
              case rel => exact ⟨i + 1, U2, v2, L ++ [p], by omega, by go_num, HNX2.out w7 U2 v2 HYE.out HWF.out.1 HWF.out.2 HU7.out K7⟩
            · have t1 : (c.to_ != -1) = true := by simp [ht]
              by_cases hy : yy = cy
              · subst hy
                have y1 : (yy != yy) = false := by simp
                by_cases hr : rr = c.result
                · have r1 : (c.result != rr) = false := by simp [hr]
                  have HYE : Hid (goesP c yy rr = true) := by unfold goesP; show _ = _; simp [hr, HCY.out]
                  clear ht hr
                  go_wp2_with fail
                  refine hKR.out _ _ ?_
                  clear hKR KK
                  go_wp2_with fail
                  go_roundg g
                  case measure => omega
                  case rel => exact ⟨i + 1, U2, v2, L ++ [p], by omega, by go_num, HNX2.out w7 U2 v2 HYE.out HWF.out.1 HWF.out.2 HU7.out K7⟩
                · have r1 : (c.result != rr) = true := by simp; exact fun e => hr e.symm
                  have HF : Hid (¬ LnI l P) := HBG.out (by unfold goesP ansD; simp [hr, ht])
                  clear ht hr
                  go_wp2_with fail
                  go_ret
                  exact ⟨false, rfl, ⟨(fun e => by cases e), fun h => absurd h HF.out⟩, K7⟩
              · have HF : Hid (¬ LnI l P) := HBG.out (by unfold goesP ansD; rw [HCY.out] at hy; simp [hy, ht])
                clear ht HBG HNX2
                cases yy <;> cases cy
                · exact absurd rfl hy
                · clear hy
                  go_wp2_with fail
                  go_ret
                  exact ⟨false, rfl, ⟨(fun e => by cases e), fun h => absurd h HF.out⟩, K7⟩
                · clear hy
                  go_wp2_with fail
                  go_ret
                  exact ⟨false, rfl, ⟨(fun e => by cases e), fun h => absurd h HF.out⟩, K7⟩
                · exact absurd rfl hy
end Go.Proofs.Ytlglhmmlebjidaa
