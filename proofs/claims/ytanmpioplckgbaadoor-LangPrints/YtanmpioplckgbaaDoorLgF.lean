import Derived.Test.YtanmpioplckgbaaDoorLgE
namespace Go.Proofs.YtanmpioplckgbaaDoor
open Go.RowKit
attribute [local go_sem] Oper.semAt_some run_store_nf run_store_f
/-- Instructions in memory, as a slice. -/
def ISL (w : World) (a : Option Addr) (l : List Ins) : Prop := ∀ i, i < l.length → ∃ b off, a = some ⟨b, off, none⟩ ∧ ∀ j v, (l.getD i ins0).cells[j]? = some v → w.cell? ⟨b, off + i * 11 + j, none⟩ = some v
theorem ISL.keep {w w' : World} {a : Option Addr} {l : List Ins} (h : ISL w a l) (k : Keeps (fun _ => False) w w') : ISL w' a l := fun i hi => by
  obtain ⟨b, off, e, hc⟩ := h i hi
  exact ⟨b, off, e, fun j v hv => k.cell (hc j v hv) (fun e => e)⟩
/-- The first instruction that cannot be, from k on. -/
def firstBad (l : List Ins) (n : Int) : Nat → Option Nat
  | 0 => none
  | m + 1 => if (l.getD (l.length - (m + 1)) ins0).can n = false then some (l.length - (m + 1)) else firstBad l n m
def fbE : Option Nat → Int | some _ => 108 | none => 0
def fbI : Option Nat → Int | some i => (i : Int) | none => 0
/-- What Check answers. -/
def chk (l : List Ins) : Int × Int := if 64 < l.length then (106, 0) else (fbE (firstBad l l.length l.length), fbI (firstBad l l.length l.length))
theorem run_insAt {W : World} {t : TypeId} {b o : Nat} {q : Ins} (hc : ∀ j v, q.cells[j]? = some v → W.cell? ⟨b, o + j, none⟩ = some v) (hu : ∃ fs, Tryd.prog.underlying t = some (.struct fs)) (hi : (Tryd.prog.info? t).map (·.size) = some 11) : (loadVar t ⟨b, o, none⟩).run Tryd.prog W = .ok (.agg q.cells.toArray) W := by
  obtain ⟨fs, hu⟩ := hu
  exact run_loadVar_mid W b o t q.cells _ hc hu rfl (by rw [hi]; rfl)
theorem all_oneCell_ins (q : Ins) : q.cells.toArray.all (·.oneCell') = true := all_oneCell_toArray (by simp [Ins.cells, Value.oneCell'])
theorem fb_lt {l : List Ins} {n : Int} {k : Nat} (h : k < l.length) : firstBad l n (l.length - k) = if (l.getD k ins0).can n = false then some k else firstBad l n (l.length - (k + 1)) := by
  have e : l.length - k = (l.length - (k + 1)) + 1 := by omega
  rw [e]
  show (if (l.getD (l.length - (l.length - (k + 1) + 1)) ins0).can n = false then some (l.length - (l.length - (k + 1) + 1)) else _) = _
  rw [show l.length - (l.length - (k + 1) + 1) = k by omega]
set_option maxHeartbeats 500000 in
set_option maxRecDepth 100000 in
theorem check_any {w : World} {a : Option Addr} {cap : Nat} {l : List Ins} (hT : LT w) (hl : ISL w a l) (hlen : l.length ≤ 9223372036854775807) : Calls Tryd.prog 10 #[.slice a l.length cap] w fun e w' => e = .returned (.tuple #[.int .i64 (chk l).1, .int .i64 (chk l).2]) ∧ Keeps (fun _ => False) w w' := by
  unfold chk
  by_cases h64 : 64 < l.length
  · rw [if_pos h64]
    have b1 : decide ((64 : Int) < (l.length : Int)) = true := by simp; omega
    have b2 : decide (64 < l.length) = true := by simp; omega
    go_enter Tryd.func10, Tryd.ntmps10
    go_wp2
    go_ret2
    exact ⟨rfl, Keeps.refl _ w⟩
  · rw [if_neg h64]
    have b1 : decide ((64 : Int) < (l.length : Int)) = false := by simp; omega
    have b2 : decide (64 < l.length) = false := by simp; omega
    have hN64 : l.length ≤ 64 := by omega
    clear h64
    generalize hF : firstBad l l.length l.length = F at *
    generalize hN : l.length = N at *
    go_enter Tryd.func10, Tryd.ntmps10
    go_wp2_with fail
    go_loopw [11] (fun iv Wr => ∃ k : Nat, iv = .int .i64 (k : Int) ∧ k ≤ N ∧ firstBad l N (N - k) = F ∧ Keeps (fun _ => False) w Wr) (fun iv _ => N - (intOf iv).toNat)
    case atStart => exact ⟨0, rfl, Nat.zero_le _, hF, Keeps.refl _ w⟩
    case round =>
      obtain ⟨k, rfl, hk, hf, kr⟩ := hrel
      by_cases hlt : k < N
      · have hltI : decide ((k : Int) < (N : Int)) = true := by simp; omega
        have hltJ : (k : Int) < (N : Int) := by omega
        obtain ⟨b, off, rfl, hc⟩ := hl k (by omega)
        have hc' : ∀ j v, (l.getD k ins0).cells[j]? = some v → wr.cell? ⟨b, off + k * 11 + j, none⟩ = some v := fun j v e => kr.cell (hc j v e) (fun e => e)
        have hR1 := run_insAt (t := 31) hc' ⟨_, Tryd.underlying31⟩ iIn
        have hfb : Hid (_ = _) := fb_lt (l := l) (n := (N : Int)) (k := k) (by omega)
        rw [hN] at hfb
        have hff : Hid (_ = _) := hf
        generalize l.getD k ins0 = q at *
        obtain ⟨W4, hW4⟩ : ∃ W4, W4 = wr.alloc (.cells #[.int .i64 0, .int .i64 0, .bool false, .int .i64 0, .bool false, .int .i64 0, .bool false, .int .i64 0, .int .i64 0, .int .i64 0, .int .i64 0] 31) := ⟨_, rfl⟩
        have k4 : Keeps (fun _ => False) wr W4 := by rw [hW4]; exact (Keeps.refl _ wr).alloc _
        have hU4 : CL W4 wr.heap.size ins0.cells := by rw [hW4]; exact CL.made wr ins0.cells _
        have hcan := fun W hW => canBe_any (w := W) q (N : Int) hW
        have hA := all_oneCell_ins q
        have hnx : Hid (_ = _) := hfb.out.symm.trans hff.out
        clear hfb hff hf hc hc' hF
        cases hb : q.can N with
        | true =>
          have HN : Hid (firstBad l N (N - (k + 1)) = F) := by
            show _ = _
            rw [← hnx.out, hb]; rfl
          rw [hb] at hcan
          go_wp2_with (first | (refine wpList_load_run rfl 31 _ rfl ⟨b, off + k * 11, none⟩ rfl _ hR1 ?_; clear hR1) | (rw [← hW4]; clear hW4; refine wpList_store_cl rfl 31 _ _ rfl wr.heap.size 0 11 _ rfl rfl rfl hU4 (by show 11 ≤ 11; decide) iIn hA ?_; intro w5 hc5 k5 hsz5; clear hsz5; have hI5 : CL w5 wr.heap.size q.cells := hc5; have hR2 := run_ins hI5; have K5 : Keeps (fun _ => False) w w5 := kr.trans' (k4.trans' k5 (fun _ _ e => e.elim) (fun _ _ e => e)) (fun _ _ e => e) (fun i hi e => by have := kr.size; have e : i = wr.heap.size := e; omega)) | (refine wpList_load_run rfl 31 _ rfl ⟨wr.heap.size, 0, none⟩ rfl _ hR2 ?_; clear hR2) | (go_at_call 20; refine (hcan _ (hT.keep K5)).mono ?_; rintro e w6 ⟨rfl, k6⟩))
          go_roundw
          case rel => exact ⟨k + 1, by go_num, by omega, HN.out, K5.trans k6⟩
          case measure => simp [intOf]; omega
        | false =>
          have HN : Hid (F = some k) := by
            show _ = _
            rw [← hnx.out, hb]; rfl
          rw [hb] at hcan
          go_wp2_with (first | (refine wpList_load_run rfl 31 _ rfl ⟨b, off + k * 11, none⟩ rfl _ hR1 ?_; clear hR1) | (rw [← hW4]; clear hW4; refine wpList_store_cl rfl 31 _ _ rfl wr.heap.size 0 11 _ rfl rfl rfl hU4 (by show 11 ≤ 11; decide) iIn hA ?_; intro w5 hc5 k5 hsz5; clear hsz5; have hI5 : CL w5 wr.heap.size q.cells := hc5; have hR2 := run_ins hI5; have K5 : Keeps (fun _ => False) w w5 := kr.trans' (k4.trans' k5 (fun _ _ e => e.elim) (fun _ _ e => e)) (fun _ _ e => e) (fun i hi e => by have := kr.size; have e : i = wr.heap.size := e; omega)) | (refine wpList_load_run rfl 31 _ rfl ⟨wr.heap.size, 0, none⟩ rfl _ hR2 ?_; clear hR2) | (go_at_call 20; refine (hcan _ (hT.keep K5)).mono ?_; rintro e w6 ⟨rfl, k6⟩))
          go_ret2
          exact ⟨by rw [HN.out]; rfl, K5.trans k6⟩
      · obtain rfl : k = N := by omega
        have hltI : decide ((k : Int) < (k : Int)) = false := by simp
        rw [Nat.sub_self] at hf
        subst hf
        go_wp2_with fail
        go_ret2
        exact ⟨rfl, kr⟩
end Go.Proofs.YtanmpioplckgbaaDoor
