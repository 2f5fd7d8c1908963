import Derived.Test.YtgcfckbmmdajhaaLiL
import Derived.Shelf.SlMaps.Clone
namespace Go.Proofs.Ytgcfckbmmdajhaa
open Go.RowKit
attribute [local go_sem] Oper.semAt_some
/-- Places in memory. -/
def PM (w : World) (a : Option Addr) (L : List Nat) : Prop := ∀ i, i < L.length → ∃ b off, a = some ⟨b, off, none⟩ ∧ w.cell? ⟨b, off + i, none⟩ = some (.int .i64 ((L.getD i 0 : Nat) : Int))
theorem PM.keep {w w' : World} {a : Option Addr} {L : List Nat} (h : PM w a L) (k : Keeps (fun _ => False) w w') : PM w' a L := fun i hi => by
  obtain ⟨b, off, e, hc⟩ := h i hi
  exact ⟨b, off, e, k.cell hc (fun e => e)⟩
theorem PM.of {W : World} {base n : Nat} {a : Option Addr} {cap : Nat} {L : List Nat} (h : W.ownsRow base 3 1 (.slice a n cap) n (pvs L)) : PM W a L := fun i hi => by
  obtain ⟨a', c', e, hc, -⟩ := own_slice h
  injection e with e1 _ _
  subst e1
  obtain ⟨g, e2, h2⟩ := hc i _ (pvs_get hi)
  exact ⟨g, 0, e2, by rw [Nat.zero_add]; exact h2⟩
theorem take_nextP {S : List Nat} {i : Nat} (h : i < S.length) : S.take (i + 1) = S.take i ++ [S.getD i 0] := by
  rw [List.take_add_one, List.getElem?_eq_getElem h, List.getD_eq_getElem?_getD, List.getElem?_eq_getElem h]
  rfl
set_option maxHeartbeats 600000 in
set_option maxRecDepth 100000 in
theorem index_any {w : World} {a : Option Addr} {cap : Nat} {L : List Nat} (hl : PM w a L) (hn : L.length ≤ 9223372036854775806) (x : Nat) : Calls Try.prog 41 #[.slice a L.length cap, .int .i64 (x : Int)] w fun e w' => ∃ r : Int, e = .returned (.int .i64 r) ∧ decide (0 ≤ r) = decide (x ∈ L) ∧ Keeps (fun _ => False) w w' := by
  have HL : Hid (PM w a L) := hl
  clear hl
  generalize hN : L.length = N at *
  have HN : Hid (L.length = N) := hN
  clear hN
  go_enter Try.func41, Try.ntmps41
  go_wp2_with fail
  go_loopw [8] (fun iv Wr => ∃ (i : Nat), iv = .int .i64 (i : Int) ∧ i ≤ N ∧ x ∉ L.take i ∧ Keeps (fun _ => False) w Wr) (fun iv _ => N - (intOf iv).toNat)
  case atStart => exact ⟨0, rfl, Nat.zero_le _, by simp, Keeps.refl _ _⟩
  case round =>
    obtain ⟨i, rfl, hi, hno, kr⟩ := hrel
    have HNO : Hid (x ∉ L.take i) := hno
    clear hno
    by_cases hlt : i < N
    · have j1 : decide ((i : Int) < (N : Int)) = true := decide_eq_true (by omega)
      have j2 : decide (i < N) = true := decide_eq_true hlt
      have j3 : (i : Int) < (N : Int) := by omega
      have j4 : (0 : Int) ≤ (i : Int) := by omega
      have hwi : IntKind.i64.wrap ((i : Int) + 1) = (i : Int) + 1 := by rw [IntKind.wrap_i64]; omega
      have hiS : i < L.length := by rw [HN.out]; exact hlt
      obtain ⟨b, off, rfl, hc⟩ := HL.out i hiS
      have c0 := kr.cell hc (fun e => e)
      have HTK : Hid (L.take (i + 1) = L.take i ++ [L.getD i 0]) := take_nextP hiS
      have HME : Hid (L.getD i 0 ∈ L) := by
        show _ ∈ _
        rw [List.getD_eq_getElem?_getD, List.getElem?_eq_getElem hiS]
        exact List.getElem_mem hiS
      clear hc hiS
      generalize L.getD i 0 = y at *
      by_cases hx : y = x
      · have q : ((x : Int) == (y : Int)) = true := by simp [hx]
        have q2 : (x == y) = true := by simp [hx]
        have HD : Hid (decide (0 ≤ (i : Int)) = decide (x ∈ L)) := by
          show _ = _
          have := HME.out
          rw [hx] at this
          rw [decide_eq_true this, decide_eq_true j4]
        clear hx
        go_wp2_with fail
        go_ret
        exact ⟨_, rfl, HD.out, kr⟩
      · have q : ((x : Int) == (y : Int)) = false := by simp; omega
        have q2 : (x == y) = false := by simp; omega
        go_wp2_with fail
        go_roundw
        case rel => exact ⟨i + 1, by go_num, by omega, by rw [HTK.out]; simp; exact ⟨HNO.out, fun e => hx e.symm⟩, kr⟩
        case measure => simp [intOf]; omega
    · have j1 : decide ((i : Int) < (N : Int)) = false := decide_eq_false (by omega)
      have j2 : decide (i < N) = false := decide_eq_false hlt
      have HD : Hid (decide ((0 : Int) ≤ -1) = decide (x ∈ L)) := by
        show _ = _
        have h := HNO.out
        rw [List.take_of_length_le (by rw [HN.out]; omega)] at h
        rw [decide_eq_false h]
        rfl
      go_wp2_with fail
      go_ret
      exact ⟨_, rfl, HD.out, kr⟩
set_option maxHeartbeats 600000 in
set_option maxRecDepth 100000 in
theorem contains_any {w : World} {a : Option Addr} {cap : Nat} {L : List Nat} (hl : PM w a L) (hn : L.length ≤ 9223372036854775806) (x : Nat) : Calls Try.prog 29 #[.slice a L.length cap, .int .i64 (x : Int)] w fun e w' => e = .returned (.bool (decide (x ∈ L))) ∧ Keeps (fun _ => False) w w' := by
  have hix := index_any (cap := cap) hl hn x
  generalize L.length = N at *
  generalize decide (x ∈ L) = d at *
  go_enter Try.func29, Try.ntmps29
  go_wp2_with (go_at_call 41; refine hix.mono ?_; clear hix; rintro e w1 ⟨r, rfl, hr, k1⟩)
  go_ret
  exact ⟨by rw [← hr]; rfl, k1⟩
set_option maxHeartbeats 2000000 in
set_option maxRecDepth 100000 in
theorem clone_raw {w : World} {b : Nat} {es : Array MapEntry} {c : Nat} (hb : w.heap[b]? = some (.map es c)) : Calls Try.prog 30 #[.map (some b)] w fun e w' => e = .returned (.map (some w.heap.size)) ∧ w' = w.alloc (.map es c) := by
  have hq := fun w => run_eql_map_nil_sl (P := Try.prog) w 53 _ _ (some b) underS
  go_enter Try.func30, Try.ntmps30
  go_wp2
  rw [run_callFunc_extern Try.func42 (by kernel_rfl) (by kernel_rfl) (by kernel_rfl) (e := Extern.MapsClone.clone) (by kernel_rfl), run_maps_clone_sl w 53 hb]
  simp only [Result.andThen]
  rw [Oper.upon_value]
  go_wp2
  rw [run_typeAssert_map_sl _ 53 _ _ _ _ underS]
  simp only [Result.andThen]
  rw [Oper.upon_value]
  go_wp2
  go_ret
  exact ⟨rfl, rfl⟩
theorem cloneS_any {w : World} {mb n : Nat} {f : Int → Bool} (h : SV w mb n f) : Calls Try.prog 30 #[.map (some mb)] w fun e w' => e = .returned (.map (some w.heap.size)) ∧ SV w' w.heap.size n f ∧ Keeps (fun _ => False) w w' := by
  obtain ⟨D, ⟨es, c, hb, r⟩, r'⟩ := h
  refine (clone_raw hb).mono ?_
  rintro e w' ⟨rfl, rfl⟩
  exact ⟨rfl, ⟨D, ⟨es, c, by rw [show (w.alloc (.map es c)).heap = w.heap.push (.map es c) from rfl]; simp, r⟩, r'⟩, (Keeps.refl _ w).alloc _⟩
/-- Does every call that has answered stand in the line? -/
def compL (l : List Cl) (L : List Nat) : Bool := decide (∀ i, i < l.length → ansD (l.getD i cl0) = true → i ∈ L)
set_option maxHeartbeats 600000 in
set_option maxRecDepth 100000 in
theorem complete_any {w : World} {a la : Option Addr} {cap lc : Nat} {l : List Cl} {L : List Nat} (hl : CSL w a l) (hn : l.length ≤ 2199023255552) (hp : PM w la L) (hpn : L.length ≤ 9223372036854775806) : Calls Try.prog 28 #[.slice a l.length cap, .slice la L.length lc] w fun e w' => e = .returned (.bool (compL l L)) ∧ Keeps (fun _ => False) w w' := by
  have HL : Hid (CSL w a l) := hl
  have HCO : Hid (∀ W (x : Nat), Keeps (fun _ => False) w W → Calls Try.prog 29 #[.slice la L.length lc, .int .i64 (x : Int)] W fun e w' => e = .returned (.bool (decide (x ∈ L))) ∧ Keeps (fun _ => False) W w') := fun W x k => contains_any (hp.keep k) hpn x
  clear hl hp
  generalize hN : l.length = N at *
  have HN : Hid (l.length = N) := hN
  clear hN hpn
  generalize L.length = M at *
  obtain ⟨R, hR⟩ : ∃ R, R = compL l L := ⟨_, rfl⟩
  have HRR : Hid (R = compL l L) := hR
  rw [← hR]
  clear hR
  go_enter Try.func28, Try.ntmps28
  go_wp2_with fail
  go_loopw [9] (fun iv Wr => ∃ (k : Nat), iv = .int .i64 (k : Int) ∧ k ≤ N ∧ (∀ i, i < k → ansD (l.getD i cl0) = true → i ∈ L) ∧ Keeps (fun _ => False) w Wr) (fun iv _ => N - (intOf iv).toNat)
  case atStart => exact ⟨0, rfl, Nat.zero_le _, fun i hi => absurd hi (by omega), Keeps.refl _ _⟩
  case round =>
    obtain ⟨k, rfl, hk, hal, kr⟩ := hrel
    have HAL : Hid (∀ i, i < k → ansD (l.getD i cl0) = true → i ∈ L) := hal
    clear hal
    by_cases hlt : k < N
    · have j1 : decide ((k : Int) < (N : Int)) = true := decide_eq_true (by omega)
      have j2 : decide (k < N) = true := decide_eq_true hlt
      have j3 : (k : Int) < (N : Int) := by omega
      have j4 : (0 : Int) ≤ (k : Int) := by omega
      have hwi : IntKind.i64.wrap ((k : Int) + 1) = (k : Int) + 1 := by rw [IntKind.wrap_i64]; omega
      have hkL : k < l.length := by rw [HN.out]; exact hlt
      obtain ⟨b, off, rfl, hc⟩ := HL.out k hkL
      have hR := run_cl (W := wr) (fun j v e => kr.cell (hc j v e) (fun e => e))
      have HALN : Hid ((ansD (l.getD k cl0) = true → k ∈ L) → ∀ i, i < k + 1 → ansD (l.getD i cl0) = true → i ∈ L) := fun h i hi => by
        by_cases e : i = k
        · subst e; exact h
        · exact HAL.out i (by omega)
      have HNO : Hid (ansD (l.getD k cl0) = true → k ∉ L → R = false) := fun h h' => by
        rw [HRR.out]
        exact decide_eq_false (fun q => h' (q k hkL h))
      clear hc hkL HAL
      generalize l.getD k cl0 = c at *
      have hOC := all_oneCell_cl c
      obtain ⟨W4, hW4⟩ : ∃ W4, W4 = wr.alloc (.cells #[.int .i64 0, .int .i64 0, .int .i64 0, .bool false, .int .i64 0, .int .i64 0, .int .i64 0, .int .i64 0] 33) := ⟨_, rfl⟩
      have k4 : Keeps (fun _ => False) wr W4 := by rw [hW4]; exact (Keeps.refl _ wr).alloc _
      have hU4 : CL W4 wr.heap.size cl0.cells := by rw [hW4]; exact CL.made wr cl0.cells _
      have HW4 : Hid (W4 = wr.alloc (.cells #[.int .i64 0, .int .i64 0, .int .i64 0, .bool false, .int .i64 0, .int .i64 0, .int .i64 0, .int .i64 0] 33)) := hW4
      clear hW4
      have HCW : Hid (∀ W, Keeps (fun _ => False) wr W → Calls Try.prog 29 #[.slice la M lc, .int .i64 (k : Int)] W fun e w' => e = .returned (.bool (decide (k ∈ L))) ∧ Keeps (fun _ => False) W w') := fun W kW => HCO.out W k (kr.trans kW)
      cases han : ansD c with
      | false =>
        have HX : Hid (∀ i, i < k + 1 → ansD (l.getD i cl0) = true → i ∈ L) := HALN.out (fun e => by rw [han] at e; cases e)
        clear HALN HNO
        go_wp2_with (first | (refine wpList_load_runL rfl 33 _ rfl ⟨b, off + k * 8, none⟩ rfl _ hR ?_; clear hR) | (rw [← HW4.out]; clear HW4; refine wpList_store_cl rfl 33 _ _ rfl wr.heap.size 0 8 _ rfl rfl rfl hU4 (by show 8 ≤ 8; decide) iCl hOC ?_; intro w5 hc5 k5 hsz5; clear hsz5; have hI5 : CL w5 wr.heap.size c.cells := hc5; clear hc5; have K45 : Keeps (fun _ => False) wr w5 := k4.trans' k5 (fun _ _ e => e) (fun i hi e => (by have e : i = wr.heap.size := e; omega)); have HR5 := run_clB hI5; have hmb := answered_any w5 c; rw [han] at hmb) | (refine wpList_load_runL rfl 33 _ rfl ⟨wr.heap.size, 0, none⟩ rfl _ HR5 ?_; clear HR5) | (go_at_call 24; refine hmb.mono ?_; clear hmb; rintro e w6 ⟨rfl, k6⟩))
        go_roundw
        case rel => exact ⟨k + 1, by go_num, by omega, HX.out, kr.trans (K45.trans k6)⟩
        case measure => simp [intOf]; omega
      | true =>
        cases hin : decide (k ∈ L) with
        | false =>
          have HRF : Hid (R = false) := HNO.out han (of_decide_eq_false hin)
          rw [hin] at HCW
          clear HALN HNO
          go_wp2_with (first | (refine wpList_load_runL rfl 33 _ rfl ⟨b, off + k * 8, none⟩ rfl _ hR ?_; clear hR) | (rw [← HW4.out]; clear HW4; refine wpList_store_cl rfl 33 _ _ rfl wr.heap.size 0 8 _ rfl rfl rfl hU4 (by show 8 ≤ 8; decide) iCl hOC ?_; intro w5 hc5 k5 hsz5; clear hsz5; have hI5 : CL w5 wr.heap.size c.cells := hc5; clear hc5; have K45 : Keeps (fun _ => False) wr w5 := k4.trans' k5 (fun _ _ e => e) (fun i hi e => (by have e : i = wr.heap.size := e; omega)); have HR5 := run_clB hI5; have hmb := answered_any w5 c; rw [han] at hmb) | (refine wpList_load_runL rfl 33 _ rfl ⟨wr.heap.size, 0, none⟩ rfl _ HR5 ?_; clear HR5) | (go_at_call 24; refine hmb.mono ?_; clear hmb; rintro e w6 ⟨rfl, k6⟩; have hcw := HCW.out w6 (K45.trans k6); clear HCW) | (go_at_call 29; refine hcw.mono ?_; clear hcw; rintro e w7 ⟨rfl, k7⟩))
          go_ret
          exact ⟨by rw [HRF.out]; rfl, kr.trans ((K45.trans k6).trans k7)⟩
        | true =>
          have HX : Hid (∀ i, i < k + 1 → ansD (l.getD i cl0) = true → i ∈ L) := HALN.out (fun _ => of_decide_eq_true hin)
          rw [hin] at HCW
          clear HALN HNO
          go_wp2_with (first | (refine wpList_load_runL rfl 33 _ rfl ⟨b, off + k * 8, none⟩ rfl _ hR ?_; clear hR) | (rw [← HW4.out]; clear HW4; refine wpList_store_cl rfl 33 _ _ rfl wr.heap.size 0 8 _ rfl rfl rfl hU4 (by show 8 ≤ 8; decide) iCl hOC ?_; intro w5 hc5 k5 hsz5; clear hsz5; have hI5 : CL w5 wr.heap.size c.cells := hc5; clear hc5; have K45 : Keeps (fun _ => False) wr w5 := k4.trans' k5 (fun _ _ e => e) (fun i hi e => (by have e : i = wr.heap.size := e; omega)); have HR5 := run_clB hI5; have hmb := answered_any w5 c; rw [han] at hmb) | (refine wpList_load_runL rfl 33 _ rfl ⟨wr.heap.size, 0, none⟩ rfl _ HR5 ?_; clear HR5) | (go_at_call 24; refine hmb.mono ?_; clear hmb; rintro e w6 ⟨rfl, k6⟩; have hcw := HCW.out w6 (K45.trans k6); clear HCW) | (go_at_call 29; refine hcw.mono ?_; clear hcw; rintro e w7 ⟨rfl, k7⟩))
          go_roundw
          case rel => exact ⟨k + 1, by go_num, by omega, HX.out, kr.trans ((K45.trans k6).trans k7)⟩
          case measure => simp [intOf]; omega
    · have j1 : decide ((k : Int) < (N : Int)) = false := decide_eq_false (by omega)
      have j2 : decide (k < N) = false := decide_eq_false hlt
      have HRT : Hid (R = true) := by
        show _ = _
        rw [HRR.out]
        exact decide_eq_true (fun i hi => HAL.out i (by rw [HN.out] at hi; omega))
      go_wp2_with fail
      go_ret
      exact ⟨by rw [HRT.out]; rfl, kr⟩
end Go.Proofs.Ytgcfckbmmdajhaa
