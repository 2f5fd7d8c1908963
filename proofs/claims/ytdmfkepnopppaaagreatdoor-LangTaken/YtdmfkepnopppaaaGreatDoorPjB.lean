import Derived.Test.YtdmfkepnopppaaaGreatDoorPjA
import Derived.Laws.IdiomStrings
namespace Go.Proofs.YtdmfkepnopppaaaGreatDoor
open Go.RowKit
attribute [local go_sem] Oper.semAt_some run_store_nf run_store_f
/-- A sign that a name may have at a place. -/
def chOk (t : ByteArray) (i : Nat) : Bool := (decide (97 ≤ (t.data.getD i 0).toNat) && decide ((t.data.getD i 0).toNat ≤ 122)) || (!(i == 0) && (decide (48 ≤ (t.data.getD i 0).toNat) && decide ((t.data.getD i 0).toNat ≤ 57)))
/-- A name. -/
def nmB (t : ByteArray) : Bool := !(t.size == 0) && decide (t.size ≤ 16) && (List.range t.size).all (chOk t)
theorem bytes_of (w : World) (s : ByteArray) : ∃ cap W', (convert 9 54 (.string s)).run Tryz.prog w = .ok (.slice (some ⟨w.heap.size, 0, none⟩) s.size cap) W' ∧ Keeps (fun _ => False) w W' ∧ ∀ j, j < s.size → W'.cell? ⟨w.heap.size, j, none⟩ = some (.int .u8 ((s.data.getD j 0).toNat : Int)) := by
  refine ⟨_, _, run_bytes_of_string (P := Tryz.prog) w 9 54 5 s Tryz.underlying9 Tryz.underlying54 Tryz.underlying5, ?_, fun j hj => ?_⟩
  · exact (Keeps.refl _ w).drew.alloc _
  · have h := World.cell?_alloc_mark w.drew (bytesRow s (grownCap w s.size 0 5)) 5 ((bytesRow s (grownCap w s.size 0 5)).size, (bytesRow s (grownCap w s.size 0 5)).size + 1) j
    have hj' : j < s.data.size := hj
    have e : s.data.getD j 0 = s.data[j] := by simp [Array.getD, hj]
    rw [e]
    refine (show _ = _ from h).trans ?_
    exact bytesRow_at s _ j hj'
theorem all_no {n k : Nat} {f : Nat → Bool} (h : k < n) (hf : f k = false) : (List.range n).all f = false := by
  cases e : (List.range n).all f with
  | false => rfl
  | true =>
    rw [List.all_eq_true] at e
    have := e k (List.mem_range.2 h)
    rw [hf] at this; cases this
set_option maxHeartbeats 500000 in
set_option maxRecDepth 100000 in
theorem isName_any (w : World) (t : ByteArray) (hs : t.size ≤ 4096) : Calls Tryz.prog 44 #[.string t] w fun e w' => e = .returned (.bool (nmB t)) ∧ Keeps (fun _ => False) w w' := by
  unfold nmB
  by_cases h0 : t.size = 0
  · have a1 : t.toList.isEmpty = true := by
      obtain ⟨d⟩ := t
      have hd : d = #[] := Array.eq_empty_of_size_eq_zero h0
      subst hd
      first | rfl | (simp [ByteArray.toList, ByteArray.toList.loop]) | decide +kernel
    have e1 : (t.size == 0) = true := by simp [h0]
    rw [e1]
    go_enter Tryz.func44, Tryz.ntmps44
    go_wp2_with fail
    go_ret
    exact ⟨rfl, Keeps.refl _ w⟩
  have a1 : t.toList.isEmpty = false := by rw [list_cons t (by omega)]; rfl
  have e1 : (t.size == 0) = false := by simp [h0]
  rw [e1]
  by_cases h16 : t.size ≤ 16
  · have b1 : decide ((16 : Int) < (t.size : Int)) = false := decide_eq_false (by omega)
    rw [decide_eq_true h16]
    obtain ⟨cap, W', hcv, kc, hce⟩ := bytes_of w t
    simp only [Bool.not_false, Bool.true_and]
    go_enter Tryz.func44, Tryz.ntmps44
    go_wp2_with fail
    go_loopw [17] (fun iv Wr => ∃ k : Nat, iv = .int .i64 (k : Int) ∧ k ≤ t.size ∧ (∀ i, i < k → chOk t i = true) ∧ Wr = W') (fun iv _ => t.size - (intOf iv).toNat)
    case atStart => exact ⟨0, rfl, Nat.zero_le _, fun i hi => absurd hi (Nat.not_lt_zero _), rfl⟩
    case round =>
      obtain ⟨k, rfl, hk, hall, ew⟩ := hrel
      subst wr
      by_cases hlt : k < t.size
      · have hltI : decide ((k : Int) < (t.size : Int)) = true := decide_eq_true (by omega)
        have hltJ : (k : Int) < (t.size : Int) := by omega
        have hk0 : (0 : Int) ≤ (k : Int) := by omega
        have hwk : IntKind.i64.wrap ((k : Int) + 1) = (k : Int) + 1 := by rw [IntKind.wrap_i64]; omega
        have hc := hce k hlt
        have hdef : chOk t k = ((decide (97 ≤ (t.data.getD k 0).toNat) && decide ((t.data.getD k 0).toNat ≤ 122)) || (!(k == 0) && (decide (48 ≤ (t.data.getD k 0).toNat) && decide ((t.data.getD k 0).toNat ≤ 57)))) := rfl
        clear hce hcv
        generalize (t.data.getD k 0).toNat = c at *
        have HA : Hid (∀ i, i < k → chOk t i = true) := hall
        clear hall
        cases hch : chOk t k with
        | true =>
          have HN : Hid (∀ i, i < k + 1 → chOk t i = true) := fun i hi => by
            by_cases e : i = k
            · rw [e]; exact hch
            · exact HA.out i (by omega)
          rw [hch] at hdef
          by_cases l1 : 97 ≤ c ∧ c ≤ 122
          · have x1 : decide ((97 : Int) ≤ (c : Int)) = true := decide_eq_true (by omega)
            have x2 : decide ((c : Int) ≤ 122) = true := decide_eq_true (by omega)
            by_cases d1 : 48 ≤ c
            · have x3 : decide ((48 : Int) ≤ (c : Int)) = true := decide_eq_true (by omega)
              have x4 : decide ((c : Int) ≤ 57) = false := decide_eq_false (by omega)
              clear hdef
              go_wp2_with fail
              go_roundw
              case rel => exact ⟨k + 1, by go_num, by omega, HN.out, trivial⟩
              case measure => simp [intOf]; omega
            · omega
          · have d1 : 48 ≤ c ∧ c ≤ 57 ∧ k ≠ 0 := by
              have h2 : ((decide (97 ≤ c) && decide (c ≤ 122)) || (!(k == 0) && (decide (48 ≤ c) && decide (c ≤ 57)))) = true := hdef.symm
              simp only [Bool.or_eq_true, Bool.and_eq_true, decide_eq_true_eq, Bool.not_eq_true', beq_eq_false_iff_ne] at h2
              omega
            have x1 : decide ((97 : Int) ≤ (c : Int)) = false := decide_eq_false (by omega)
            have x3 : decide ((48 : Int) ≤ (c : Int)) = true := decide_eq_true (by omega)
            have x4 : decide ((c : Int) ≤ 57) = true := decide_eq_true (by omega)
            have x5 : ((k : Int) == 0) = false := beq_eq_false_iff_ne.2 (by omega)
            clear hdef
            go_wp2_with fail
            go_roundw
            case rel => exact ⟨k + 1, by go_num, by omega, HN.out, trivial⟩
            case measure => simp [intOf]; omega
        | false =>
          have HF : Hid ((List.range t.size).all (chOk t) = false) := all_no hlt hch
          rw [hch] at hdef
          have h2 : ((decide (97 ≤ c) && decide (c ≤ 122)) || (!(k == 0) && (decide (48 ≤ c) && decide (c ≤ 57)))) = false := hdef.symm
          have h3 : ¬ (97 ≤ c ∧ c ≤ 122) ∧ (k = 0 ∨ ¬ (48 ≤ c ∧ c ≤ 57)) := by
            simp only [Bool.or_eq_false_iff, Bool.and_eq_false_iff, decide_eq_false_iff_not, Bool.not_eq_false', beq_iff_eq] at h2
            omega
          clear h2 hdef hch
          obtain ⟨l1, l2⟩ := h3
          by_cases z : 97 ≤ c
          · have x1 : decide ((97 : Int) ≤ (c : Int)) = true := decide_eq_true (by omega)
            have x2 : decide ((c : Int) ≤ 122) = false := decide_eq_false (by omega)
            have x3 : decide ((48 : Int) ≤ (c : Int)) = true := decide_eq_true (by omega)
            have x4 : decide ((c : Int) ≤ 57) = false := decide_eq_false (by omega)
            by_cases hz : k = 0
            · subst hz
              go_wp2_with fail
              go_ret
              exact ⟨by rw [HF.out]; rfl, kc⟩
            · have x5 : ((k : Int) == 0) = false := beq_eq_false_iff_ne.2 (by omega)
              go_wp2_with fail
              go_ret
              exact ⟨by rw [HF.out]; rfl, kc⟩
          · have x1 : decide ((97 : Int) ≤ (c : Int)) = false := decide_eq_false (by omega)
            by_cases y : 48 ≤ c
            · have x3 : decide ((48 : Int) ≤ (c : Int)) = true := decide_eq_true (by omega)
              by_cases y2 : c ≤ 57
              · have x4 : decide ((c : Int) ≤ 57) = true := decide_eq_true (by omega)
                obtain rfl : k = 0 := by omega
                go_wp2_with fail
                go_ret
                exact ⟨by rw [HF.out]; rfl, kc⟩
              · have x4 : decide ((c : Int) ≤ 57) = false := decide_eq_false (by omega)
                by_cases hz : k = 0
                · subst hz
                  go_wp2_with fail
                  go_ret
                  exact ⟨by rw [HF.out]; rfl, kc⟩
                · have x5 : ((k : Int) == 0) = false := beq_eq_false_iff_ne.2 (by omega)
                  go_wp2_with fail
                  go_ret
                  exact ⟨by rw [HF.out]; rfl, kc⟩
            · have x3 : decide ((48 : Int) ≤ (c : Int)) = false := decide_eq_false (by omega)
              by_cases hz : k = 0
              · subst hz
                go_wp2_with fail
                go_ret
                exact ⟨by rw [HF.out]; rfl, kc⟩
              · have x5 : ((k : Int) == 0) = false := beq_eq_false_iff_ne.2 (by omega)
                go_wp2_with fail
                go_ret
                exact ⟨by rw [HF.out]; rfl, kc⟩
      · have hltI : decide ((k : Int) < (t.size : Int)) = false := decide_eq_false (by omega)
        have HF : Hid ((List.range t.size).all (chOk t) = true) := by
          show _ = _
          rw [List.all_eq_true]
          exact fun i hi => hall i (by have := List.mem_range.1 hi; omega)
        clear hall hce hcv
        go_wp2_with fail
        go_ret
        exact ⟨by rw [HF.out]; rfl, kc⟩
  · have b1 : decide ((16 : Int) < (t.size : Int)) = true := decide_eq_true (by omega)
    rw [decide_eq_false h16]
    go_enter Tryz.func44, Tryz.ntmps44
    go_wp2_with fail
    go_ret
    exact ⟨rfl, Keeps.refl _ w⟩
end Go.Proofs.YtdmfkepnopppaaaGreatDoor
