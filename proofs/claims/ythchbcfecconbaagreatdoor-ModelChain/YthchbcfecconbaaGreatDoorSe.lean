import Derived.Test.YthchbcfecconbaaGreatDoorSd
namespace Go.Proofs.YthchbcfecconbaaGreatDoor
open Go.RowKit Go.Deep Go.ChangeShapes Go.WideShapes Go.ChangeAt
attribute [local go_sem] Oper.semAt_some run_store_nf run_store_f
theorem slI : Tryz.prog.underlying 82 = some (.slice 23) := by kernel_rfl
theorem sl0 : (Tryz.prog.info? 23).map (fun i => (i.zero, i.size, i.bytes)) = some (some (.slice none 0 0), 1, 24) := by kernel_rfl
/-- The lists that were lengthened, in a list of lists. -/
structure LN (W1 Wr : World) (lv : Value) (i n : Nat) (X : Nat → Option Addr) (XC : Nat → Nat) : Prop where
  o : Wr.ownsRow W1.heap.size 23 1 lv i ((List.range i).map (fun j => .slice (X j) (n + 64) (XC j)))
  c : ∀ j, j < i → NUM Wr (X j) (List.replicate (n + 64) (-1000 - (j : Int)))
  b : ∀ j, j < i → ∀ b off, X j = some ⟨b, off, none⟩ → b < Wr.heap.size ∧ lv.ownBlock ≠ some b
theorem LN.next {W1 Wr w2 : World} {lv : Value} {i n : Nat} {X : Nat → Option Addr} {XC : Nat → Nat} (h : LN W1 Wr lv i n X XC) (kb : W1.heap.size ≤ Wr.heap.size) (k2 : Keeps (fun _ => False) Wr w2) {a : Option Addr} {c : Nat} (hN : NUM w2 a (List.replicate (n + 64) (-1000 - (i : Int)))) (hB : ∀ g off, a = some ⟨g, off, none⟩ → Wr.heap.size ≤ g ∧ g < w2.heap.size) (hi : (i + 1) * 24 ≤ 140737488355328) :
    ∃ v' w', (Builtin.append_ #[82, 82] 82 #[lv, .slice (some ⟨w2.heap.size, 0, none⟩) 1 1]).run Tryz.prog (w2.alloc (.cells #[.slice a (n + 64) c] 23)) = .ok v' w' ∧ LN W1 w' v' (i + 1) n (fun j => if j = i then a else X j) (fun j => if j = i then c else XC j) ∧ Keeps (fun b => lv.ownBlock = some b) w2 w' := by
  obtain ⟨v', w', hr, ho, kk, hbl⟩ := append_gen slI sl0 rfl (k2.owns h.o (fun _ _ e => e)) (Nat.le_trans kb k2.size) hi (.slice a (n + 64) c) rfl
  have hvb : ∀ b off, a = some ⟨b, off, none⟩ → lv.ownBlock ≠ some b := fun b off e e' => by have := owns_lt' h.o b e'; have := hB b off e; omega
  refine ⟨v', w', hr, ⟨?_, fun j hj => ?_, fun j hj => ?_⟩, kk⟩
  · rw [List.range_succ, List.map_append]
    rw [List.map_congr_left (g := fun j => .slice (X j) (n + 64) (XC j)) (fun j hj => by rw [if_neg (by simp at hj; omega), if_neg (by simp at hj; omega)])]
    simpa using ho
  · by_cases e : j = i
    · subst e
      rw [if_pos rfl]
      exact hN.keepN kk hvb
    · rw [if_neg e]
      exact ((h.c j (by omega)).keep k2).keepN kk (fun b off e => (h.b j (by omega) b off e).2)
  · have hs := kk.size
    have hs2 := k2.size
    by_cases e : j = i
    · subst e
      rw [if_pos rfl]
      intro b off e
      refine ⟨by have := hB b off e; omega, fun e' => ?_⟩
      rcases hbl with hb' | hb'
      · exact hvb b off e (hb' ▸ e')
      · rw [hb'] at e'; injection e' with e'; have := hB b off e; omega
    · rw [if_neg e]
      intro b off e
      have := h.b j (by omega) b off e
      refine ⟨by omega, fun e' => ?_⟩
      rcases hbl with hb' | hb'
      · exact this.2 (hb' ▸ e')
      · rw [hb'] at e'; injection e' with e'; omega
theorem ln_slice {W1 Wr : World} {lv : Value} {i n : Nat} {X : Nat → Option Addr} {XC : Nat → Nat} (h : LN W1 Wr lv i n X XC) : ∃ al cl, lv = .slice al i cl ∧ ∀ j, j < i → ∃ g, al = some ⟨g, 0, none⟩ ∧ Wr.cell? ⟨g, j, none⟩ = some (.slice (X j) (n + 64) (XC j)) := by
  by_cases h0 : 0 < i
  · obtain ⟨g, cap, rfl, _, _, _, hc⟩ := own_some h.o h0
    exact ⟨_, cap, rfl, fun j hj => ⟨g, rfl, hc j _ (by rw [List.getElem?_map, List.getElem?_range hj]; rfl)⟩⟩
  · rcases h.o.2 with ⟨rfl, e⟩ | ⟨g, cap, cur, rfl, _⟩
    · exact ⟨none, 0, by rw [show i = 0 by omega], fun j hj => by omega⟩
    · exact ⟨_, cap, rfl, fun j hj => by omega⟩
set_option maxHeartbeats 1600000 in
set_option maxRecDepth 1000000 in
theorem apart_any {w : World} {g N n cap base : Nat} {av : Option Addr} {B : Nat → Nat} {M : Nat → List Int} (h : AP base w g N n B M) (hav : 0 < N → av = some ⟨g, 0, none⟩) (hN : N ≤ 100000000) (h16 : n ≤ 16) : Calls Tryz.prog 18 #[.slice av N cap] w fun e w' => e = .returned (.bool true) ∧ Keeps (fun b => base ≤ b) w w' := by
  go_enter Tryz.func18, Tryz.ntmps18
  go_wp2
  go_loopw [3] (fun iv Wr => ∃ (i : Nat) (M : Nat → List Int), iv = .int .i64 (i : Int) ∧ i ≤ N ∧ AP base Wr g N n B M ∧ Hid (∀ j, j < i → M j = List.replicate n (-1000 - (j : Int))) ∧ Keeps (fun b => base ≤ b) w Wr) (fun iv _ => N - (intOf iv).toNat)
  case atStart => exact ⟨0, M, rfl, Nat.zero_le _, h, fun j hj => absurd hj (Nat.not_lt_zero _), Keeps.refl _ w⟩
  case round =>
    clear h
    clear M
    obtain ⟨i, M, rfl, hi, hA, HM, kr⟩ := hrel
    by_cases hlt : i < N
    · have hltI : decide ((i : Int) < (N : Int)) = true := decide_eq_true (by omega)
      have hltn : decide (i < N) = true := decide_eq_true hlt
      have hltJ : (i : Int) < (N : Int) := by omega
      have hi0 : (0 : Int) ≤ (i : Int) := by omega
      have hw1 : IntKind.i64.wrap ((i : Int) + 1) = (i : Int) + 1 := by rw [IntKind.wrap_i64]; omega
      have hwm : IntKind.i64.wrap (-1000 - (i : Int)) = -1000 - (i : Int) := by rw [IntKind.wrap_i64]; omega
      obtain rfl := hav (by omega)
      obtain ⟨wo, hwo⟩ : ∃ wo, wo = wr := ⟨_, rfl⟩
      subst wr
      go_wp2
      go_loopw [4] (fun kv Wr => ∃ (k : Nat) (M : Nat → List Int), kv = .int .i64 (k : Int) ∧ k ≤ n ∧ AP base Wr g N n B M ∧ Hid (∀ j, j < i → M j = List.replicate n (-1000 - (j : Int))) ∧ Hid ((M i).take k = List.replicate k (-1000 - (i : Int))) ∧ Keeps (fun b => base ≤ b) w Wr) (fun kv _ => n - (intOf kv).toNat)
      case atStart => exact ⟨0, M, rfl, Nat.zero_le _, hA, HM, rfl, kr⟩
      case round =>
        clear hA HM kr
        clear M
        obtain ⟨k, M, rfl, hk, hA, HM, HT, kr⟩ := hrel
        have y2 := hA.r i hlt
        by_cases hkn : k < n
        · have hkI : decide ((k : Int) < (n : Int)) = true := decide_eq_true (by omega)
          have hkN : decide (k < n) = true := decide_eq_true hkn
          have hkJ : (k : Int) < (n : Int) := by omega
          have hk0 : (0 : Int) ≤ (k : Int) := by omega
          have hw2 : IntKind.i64.wrap ((k : Int) + 1) = (k : Int) + 1 := by rw [IntKind.wrap_i64]; omega
          obtain ⟨x, hx, xc, xz⟩ := hA.cellk hlt hkn
          have hP := hA.put hlt hkn (-1000 - (i : Int))
          have hbb := hA.b i hlt
          have HL : Hid ((M i).length = n) := hA.l i hlt
          have HA : Hid _ := hA
          have HP : Hid _ := hP
          clear hA hP hx
          go_wp2
          go_roundw
          case rel =>
            refine ⟨k + 1, _, by go_num, by omega, HP.out, fun j hj => ?_, ?_, kr.setCell (p := ⟨B i, k, none⟩) (fun _ => hbb.1) _⟩
            · show (if j = i then _ else M j) = _
              rw [if_neg (by omega)]
              exact HM.out j hj
            · show (if i = i then (M i).set k (-1000 - (i : Int)) else M i).take (k + 1) = _
              rw [if_pos rfl]
              exact take_set_succ (by rw [HL.out]; exact hkn) HT.out
          case measure => simp [intOf]; omega
        · have hkI : decide ((k : Int) < (n : Int)) = false := decide_eq_false (by omega)
          have hkN : decide (k < n) = false := decide_eq_false hkn
          obtain rfl : k = n := by omega
          have HA : Hid _ := hA
          clear hA
          go_wp2
          go_roundw
          case rel =>
            refine ⟨i + 1, M, by go_num, by omega, HA.out, fun j hj => ?_, kr⟩
            by_cases e : j = i
            · subst e
              have h1 := HT.out
              rw [List.take_of_length_le (by rw [HA.out.l j hlt]; exact Nat.le_refl _)] at h1
              exact h1
            · exact HM.out j (by omega)
          case measure => simp [intOf]; omega
    · have hltI : decide ((i : Int) < (N : Int)) = false := decide_eq_false (by omega)
      have hltn : decide (i < N) = false := decide_eq_false hlt
      obtain rfl : i = N := by omega
      obtain ⟨w1, hw1⟩ : ∃ w1, w1 = wr := ⟨_, rfl⟩
      subst wr
      clear hlt
      go_wp2
      go_loopw [5, 6] (fun lv iv Wr => ∃ (j : Nat) (X : Nat → Option Addr) (XC : Nat → Nat), iv = .int .i64 (j : Int) ∧ j ≤ i ∧ LN w1 Wr lv j n X XC ∧ Keeps (fun _ => False) w1 Wr) (fun _ iv _ => i - (intOf iv).toNat)
      case atStart => exact ⟨0, fun _ => none, fun _ => 0, rfl, Nat.zero_le _, ⟨World.ownsRow_nil _ _ _ _, fun j hj => by omega, fun j hj => by omega⟩, Keeps.refl _ w1⟩
      case round =>
        obtain ⟨j, X, XC, rfl, hj, hLN, kr2⟩ := hrel
        by_cases hlt : j < i
        · have hltI : decide ((j : Int) < (i : Int)) = true := decide_eq_true (by omega)
          have hltn : decide (j < i) = true := decide_eq_true hlt
          have hltJ : (j : Int) < (i : Int) := by omega
          have hi0 : (0 : Int) ≤ (j : Int) := by omega
          have hw1 : IntKind.i64.wrap ((j : Int) + 1) = (j : Int) + 1 := by rw [IntKind.wrap_i64]; omega
          have hwm : IntKind.i64.wrap (-1000 - (j : Int)) = -1000 - (j : Int) := by rw [IntKind.wrap_i64]; omega
          obtain rfl := hav (by omega)
          have y2 := kr2.cell (hA.r j hlt) (fun e => e)
          have HC : Hid (∀ W, Keeps (fun _ => False) w1 W → CL W (B j) (nvs (List.replicate n (-1000 - (j : Int))))) := fun W k => by
            have := (hA.c j hlt).keep0 k (fun _ e => e)
            rw [HM.out j hlt] at this
            exact this
          have HA : Hid _ := hA
          clear hA
          obtain ⟨wo, hwo⟩ : ∃ wo, wo = wr := ⟨_, rfl⟩
          subst wr
          go_wp2
          go_loopw [7, 8] (fun xv kv Wr => ∃ k : Nat, kv = .int .i64 (k : Int) ∧ k ≤ 64 ∧ XS wo Wr (B j) n (-1000 - (j : Int)) k xv ∧ Keeps (fun _ => False) wo Wr) (fun _ kv _ => 64 - (intOf kv).toNat)
          case atStart => exact ⟨0, rfl, by omega, .inl ⟨rfl, rfl⟩, Keeps.refl _ wo⟩
          case round =>
            obtain ⟨k, rfl, hk, hXS, kr3⟩ := hrel
            by_cases hkn : k < 64
            · have hkI : decide ((k : Int) < 64) = true := decide_eq_true (by omega)
              have hkN : decide (k < 64) = true := decide_eq_true hkn
              have hw2 : IntKind.i64.wrap ((k : Int) + 1) = (k : Int) + 1 := by rw [IntKind.wrap_i64]; omega
              obtain ⟨v', w', hr, hX', kk⟩ := xs_next hXS (HC.out wr (kr2.trans kr3)) h16 (by omega) kr3
              clear hXS
              have HX' : Hid _ := hX'
              clear hX'
              go_wp2_with (at_builtin; refine wpList_append_q rfl _ _ _ rfl _ _ _ w' rfl rfl hr ?_; clear hr)
              go_roundw
              case rel => exact ⟨k + 1, by go_num, by omega, HX'.out, kk⟩
              case measure => simp [intOf]; omega
            · have hkI : decide ((k : Int) < 64) = false := decide_eq_false (by omega)
              have hkN : decide (k < 64) = false := decide_eq_false hkn
              obtain rfl : k = 64 := by omega
              obtain ⟨ax, cx, rfl, hNX, hBX⟩ := xs_end hXS
              obtain ⟨v', w', hr, hL', kk⟩ := hLN.next (c := cx) kr2.size kr3 hNX hBX (by omega)
              have HLo : Hid _ := hLN.o
              have HL' : Hid _ := hL'
              clear hXS hLN hL'
              go_wp2_with (at_builtin; refine wpList_append_q rfl _ _ _ rfl _ _ _ w' rfl rfl hr ?_; clear hr)
              go_roundw
              case rel => exact ⟨j + 1, _, _, by go_num, by omega, HL'.out, (kr2.trans kr3).trans' kk (fun _ _ e => e) (fun b hb e => by have := owns_baseD HLo.out b e; omega)⟩
              case measure => simp [intOf]; omega
        · have hltI : decide ((j : Int) < (i : Int)) = false := decide_eq_false (by omega)
          have hltn : decide (j < i) = false := decide_eq_false hlt
          obtain rfl : j = i := by omega
          obtain ⟨al, cl, rfl, hal⟩ := ln_slice hLN
          obtain ⟨w2, hw2⟩ : ∃ w2, w2 = wr := ⟨_, rfl⟩
          subst wr
          clear hlt
          have HLN : Hid _ := hLN
          have Hal : Hid _ := hal
          have hA2 := hA.keep kr2
          clear hLN hal hA
          go_wp2
          go_loopw [9] (fun iv Wr => ∃ q : Nat, iv = .int .i64 (q : Int) ∧ q ≤ j ∧ Keeps (fun _ => False) w2 Wr) (fun iv _ => j - (intOf iv).toNat)
          case atStart => exact ⟨0, rfl, Nat.zero_le _, Keeps.refl _ w2⟩
          case round =>
            obtain ⟨q, rfl, hq, kr4⟩ := hrel
            by_cases hlt : q < j
            · have hltI : decide ((q : Int) < (j : Int)) = true := decide_eq_true (by omega)
              have hltn : decide (q < j) = true := decide_eq_true hlt
              have hltJ : (q : Int) < (j : Int) := by omega
              have hi0 : (0 : Int) ≤ (q : Int) := by omega
              have hw1 : IntKind.i64.wrap ((q : Int) + 1) = (q : Int) + 1 := by rw [IntKind.wrap_i64]; omega
              have hwm : IntKind.i64.wrap (-1000 - (q : Int)) = -1000 - (q : Int) := by rw [IntKind.wrap_i64]; omega
              obtain rfl := hav (by omega)
              obtain ⟨gl, rfl, hcl⟩ := Hal.out q hlt
              have HNX : Hid (∀ W, Keeps (fun _ => False) w2 W → NUM W (X q) (List.replicate (n + 64) (-1000 - (q : Int)))) := fun W k => (HLN.out.c q hlt).keep k
              have Hcl : Hid (∀ W, Keeps (fun _ => False) w2 W → W.cell? ⟨gl, q, none⟩ = some (.slice (X q) (n + 64) (XC q))) := fun W k => k.cell hcl (fun e => e)
              have HA : Hid (∀ W, Keeps (fun _ => False) w2 W → AP base W g j n B M) := fun W k => hA2.keep k
              clear hcl hA2
              obtain ⟨wo, hwo⟩ : ∃ wo, wo = wr := ⟨_, rfl⟩
              subst wr
              go_wp2
              go_loopw [10] (fun kv Wr => ∃ k : Nat, kv = .int .i64 (k : Int) ∧ k ≤ n + 64 ∧ Keeps (fun _ => False) w2 Wr) (fun kv _ => n + 64 - (intOf kv).toNat)
              case atStart => exact ⟨0, rfl, by omega, kr4⟩
              case round =>
                obtain ⟨k, rfl, hk, kr5⟩ := hrel
                have y1 := Hcl.out wr kr5
                have hA := HA.out wr kr5
                have y2 := hA.r q hlt
                by_cases hkn : k < n + 64
                · have hkI : decide ((k : Int) < (n : Int) + 64) = true := decide_eq_true (by omega)
                  have hkI2 : decide ((k : Int) < ((n + 64 : Nat) : Int)) = true := decide_eq_true (by omega)
                  have hkN : decide (k < n + 64) = true := decide_eq_true hkn
                  have hkJ : (k : Int) < (n : Int) + 64 := by omega
                  have hk0 : (0 : Int) ≤ (k : Int) := by omega
                  have hw2 : IntKind.i64.wrap ((k : Int) + 1) = (k : Int) + 1 := by rw [IntKind.wrap_i64]; omega
                  obtain ⟨bx, ox, ex, cx⟩ := HNX.out wr kr5 k (-1000 - (q : Int)) (by rw [List.getElem?_replicate, if_pos hkn])
                  rw [ex] at y1
                  have hne : ((-1000 - (q : Int)) != (-1000 - (q : Int))) = false := by simp
                  by_cases hk2 : k < n
                  · have hk2I : decide ((k : Int) < (n : Int)) = true := decide_eq_true (by omega)
                    have hk2N : decide (k < n) = true := decide_eq_true hk2
                    have hk2J : (k : Int) < (n : Int) := by omega
                    obtain ⟨x, hx, xc, _⟩ := hA.cellk hlt hk2
                    rw [HM.out q hlt, List.getElem?_replicate, if_pos hk2] at hx
                    injection hx with hx
                    rw [← hx] at xc
                    clear hx hA ex
                    go_wp2
                    go_roundw
                    case rel => exact ⟨k + 1, by go_num, by omega, kr5⟩
                    case measure => simp [intOf]; omega
                  · have hk2I : decide ((k : Int) < (n : Int)) = false := decide_eq_false (by omega)
                    have hk2N : decide (k < n) = false := decide_eq_false hk2
                    clear hA ex
                    go_wp2
                    go_roundw
                    case rel => exact ⟨k + 1, by go_num, by omega, kr5⟩
                    case measure => simp [intOf]; omega
                · have hkI : decide ((k : Int) < (n : Int) + 64) = false := decide_eq_false (by omega)
                  have hkI2 : decide ((k : Int) < ((n + 64 : Nat) : Int)) = false := decide_eq_false (by omega)
                  have hkN : decide (k < n + 64) = false := decide_eq_false hkn
                  clear hA
                  go_wp2
                  go_roundw
                  case rel => exact ⟨q + 1, by go_num, by omega, kr5⟩
                  case measure => simp [intOf]; omega
            · have hltI : decide ((q : Int) < (j : Int)) = false := decide_eq_false (by omega)
              have hltn : decide (q < j) = false := decide_eq_false hlt
              clear hA2
              go_wp2
              go_ret
              exact ⟨rfl, kr.trans' (kr2.trans kr4) (fun _ _ e => e) (fun _ _ e => e.elim)⟩
end Go.Proofs.YthchbcfecconbaaGreatDoor
