import Derived.Test.YtclednbclgkdaaaDoorLgG
namespace Go.Proofs.YtclednbclgkdaaaDoor
open Go.RowKit
attribute [local go_sem] Oper.semAt_some run_store_nf run_store_f
def Ins.jmp (q : Ins) : Bool := q.code == 7 || q.code == 8
/-- Does no jump go back, from the k-th on? -/
def fwd (l : List Ins) : Nat → Bool
  | 0 => true
  | m + 1 => if ((l.getD (l.length - (m + 1)) ins0).jmp && decide ((l.getD (l.length - (m + 1)) ins0).to ≤ ((l.length - (m + 1) : Nat) : Int))) = true then false else fwd l m
theorem fwd_lt {l : List Ins} {k : Nat} (h : k < l.length) : fwd l (l.length - k) = if ((l.getD k ins0).jmp && decide ((l.getD k ins0).to ≤ (k : Int))) = true then false else fwd l (l.length - (k + 1)) := by
  have e : l.length - k = (l.length - (k + 1)) + 1 := by omega
  rw [e]
  show (if ((l.getD (l.length - (l.length - (k + 1) + 1)) ins0).jmp && decide ((l.getD (l.length - (l.length - (k + 1) + 1)) ins0).to ≤ ((l.length - (l.length - (k + 1) + 1) : Nat) : Int))) = true then false else _) = _
  rw [show l.length - (l.length - (k + 1) + 1) = k by omega]
/-- What Forward answers. -/
def fwB (l : List Ins) : Bool := if (chk l).1 = 0 then fwd l l.length else false
theorem jumps_any (w : World) (q : Ins) : Calls Tryd.prog 23 #[.agg q.cells.toArray] w fun e w' => e = .returned (.bool q.jmp) ∧ Keeps (fun _ => False) w w' := by
  obtain ⟨cd, dst, oR, oN, xR, xN, yR, yN, op, rel, to⟩ := q
  show Calls Tryd.prog 23 #[.agg #[.int .i64 cd, .int .i64 dst, .bool oR, .int .i64 oN, .bool xR, .int .i64 xN, .bool yR, .int .i64 yN, .int .i64 op, .int .i64 rel, .int .i64 to]] w _
  have k : Keeps (fun _ => False) w (w.alloc (.cells #[.int .i64 cd, .int .i64 dst, .bool oR, .int .i64 oN, .bool xR, .int .i64 xN, .bool yR, .int .i64 yN, .int .i64 op, .int .i64 rel, .int .i64 to] 38)) := (Keeps.refl _ w).alloc _
  unfold Ins.jmp
  simp only
  cases h1 : (cd == 7) <;> cases h2 : (cd == 8) <;>
  (go_enter Tryd.func23, Tryd.ntmps23
   go_wp2
   go_ret
   exact ⟨rfl, k⟩)
set_option maxHeartbeats 500000 in
set_option maxRecDepth 100000 in
theorem forward_any {w : World} {a : Option Addr} {cap : Nat} {l : List Ins} (hT : LT w) (hl : ISL w a l) (hlen : l.length ≤ 9223372036854775807) : Calls Tryd.prog 14 #[.slice a l.length cap] w fun e w' => e = .returned (.tuple #[.bool (fwB l), .int .i64 (chk l).1]) ∧ Keeps (fun _ => False) w w' := by
  have hC := check_any (cap := cap) hT hl hlen
  have hch : (chk l).1 = 106 ∨ (chk l).1 = 108 ∨ (chk l).1 = 0 := by
    unfold chk
    split
    · exact .inl rfl
    · cases firstBad l l.length l.length with
      | none => exact .inr (.inr rfl)
      | some i => exact .inr (.inl rfl)
  have h64 : (chk l).1 = 0 → l.length ≤ 64 := fun e => by
    unfold chk at e
    split at e
    · cases e
    · omega
  unfold fwB
  generalize (chk l).1 = ce at *
  generalize (chk l).2 = ci at *
  by_cases h0 : ce = 0
  · subst h0
    have hN64 := h64 rfl
    rw [if_pos rfl]
    clear hch h64
    generalize hF : fwd l l.length = F at *
    generalize hN : l.length = N at *
    go_enter Tryd.func14, Tryd.ntmps14
    go_wp2_with (go_at_call 12; refine hC.mono ?_; clear hC; rintro e w1 ⟨rfl, k1⟩)
    go_loopw [18] (fun iv Wr => ∃ k : Nat, iv = .int .i64 (k : Int) ∧ k ≤ N ∧ fwd l (N - k) = F ∧ Keeps (fun _ => False) w Wr) (fun iv _ => N - (intOf iv).toNat)
    case atStart => exact ⟨0, rfl, Nat.zero_le _, hF, k1⟩
    case round =>
      obtain ⟨k, rfl, hk, hf, kr⟩ := hrel
      by_cases hlt : k < N
      · have hltI : decide ((k : Int) < (N : Int)) = true := by simp; omega
        have hltJ : (k : Int) < (N : Int) := by omega
        obtain ⟨b, off, rfl, hc⟩ := hl k (by omega)
        have hc' : ∀ j v, (l.getD k ins0).cells[j]? = some v → wr.cell? ⟨b, off + k * 11 + j, none⟩ = some v := fun j v e => kr.cell (hc j v e) (fun e => e)
        have hto := hc' 10 _ rfl
        have hR1 := run_insAt (t := 38) hc' ⟨_, Tryd.underlying38⟩ iIn
        have hfb : Hid (_ = _) := fwd_lt (l := l) (k := k) (by omega)
        rw [hN] at hfb
        have hff : Hid (_ = _) := hf
        generalize l.getD k ins0 = q at *
        have hj := fun W => jumps_any W q
        have hnx : Hid (_ = _) := hfb.out.symm.trans hff.out
        clear hfb hff hf hc hc' hF
        obtain ⟨W4, hW4⟩ : ∃ W4, W4 = wr.alloc (.cells #[.int .i64 0, .int .i64 0, .bool false, .int .i64 0, .bool false, .int .i64 0, .bool false, .int .i64 0, .int .i64 0, .int .i64 0, .int .i64 0] 38) := ⟨_, rfl⟩
        have k4 : Keeps (fun _ => False) wr W4 := by rw [hW4]; exact (Keeps.refl _ wr).alloc _
        have hU4 : CL W4 wr.heap.size ins0.cells := by rw [hW4]; exact CL.made wr ins0.cells _
        have hA := all_oneCell_ins q
        cases hb1 : q.jmp with
        | false =>
          have HN : Hid (fwd l (N - (k + 1)) = F) := by
            show _ = _
            rw [← hnx.out, hb1]; rfl
          rw [hb1] at hj
          go_wp2_with (first | (refine wpList_load_run rfl 38 _ rfl ⟨b, off + k * 11, none⟩ rfl _ hR1 ?_; clear hR1) | (rw [← hW4]; clear hW4; refine wpList_store_cl rfl 38 _ _ rfl wr.heap.size 0 11 _ rfl rfl rfl hU4 (by show 11 ≤ 11; decide) iIn hA ?_; intro w5 hc5 k5 hsz5; clear hsz5; have hI5 : CL w5 wr.heap.size q.cells := hc5; have hR2 := run_ins hI5; have K5 : Keeps (fun _ => False) w w5 := kr.trans' (k4.trans' k5 (fun _ _ e => e.elim) (fun _ _ e => e)) (fun _ _ e => e) (fun i hi e => by have := kr.size; have e : i = wr.heap.size := e; omega)) | (refine wpList_load_run rfl 38 _ rfl ⟨wr.heap.size, 0, none⟩ rfl _ hR2 ?_; clear hR2) | (go_at_call 23; refine (hj _).mono ?_; rintro e w6 ⟨rfl, k6⟩; have to6 := (hI5.keep (by show 0 < 11; decide) k6 (fun e => e)).c 10 _ rfl))
          go_roundw
          case rel => exact ⟨k + 1, by go_num, by omega, HN.out, K5.trans k6⟩
          case measure => simp [intOf]; omega
        | true =>
          rw [hb1] at hj
          cases hb2 : decide (q.to ≤ (k : Int)) with
          | false =>
            have HN : Hid (fwd l (N - (k + 1)) = F) := by
              show _ = _
              rw [← hnx.out, hb1, hb2]; rfl
            go_wp2_with (first | (refine wpList_load_run rfl 38 _ rfl ⟨b, off + k * 11, none⟩ rfl _ hR1 ?_; clear hR1) | (rw [← hW4]; clear hW4; refine wpList_store_cl rfl 38 _ _ rfl wr.heap.size 0 11 _ rfl rfl rfl hU4 (by show 11 ≤ 11; decide) iIn hA ?_; intro w5 hc5 k5 hsz5; clear hsz5; have hI5 : CL w5 wr.heap.size q.cells := hc5; have hR2 := run_ins hI5; have K5 : Keeps (fun _ => False) w w5 := kr.trans' (k4.trans' k5 (fun _ _ e => e.elim) (fun _ _ e => e)) (fun _ _ e => e) (fun i hi e => by have := kr.size; have e : i = wr.heap.size := e; omega)) | (refine wpList_load_run rfl 38 _ rfl ⟨wr.heap.size, 0, none⟩ rfl _ hR2 ?_; clear hR2) | (go_at_call 23; refine (hj _).mono ?_; rintro e w6 ⟨rfl, k6⟩; have to6 := (hI5.keep (by show 0 < 11; decide) k6 (fun e => e)).c 10 _ rfl))
            go_roundw
            case rel => exact ⟨k + 1, by go_num, by omega, HN.out, K5.trans k6⟩
            case measure => simp [intOf]; omega
          | true =>
            have HN : Hid (F = false) := by
              show _ = _
              rw [← hnx.out, hb1, hb2]; rfl
            go_wp2_with (first | (refine wpList_load_run rfl 38 _ rfl ⟨b, off + k * 11, none⟩ rfl _ hR1 ?_; clear hR1) | (rw [← hW4]; clear hW4; refine wpList_store_cl rfl 38 _ _ rfl wr.heap.size 0 11 _ rfl rfl rfl hU4 (by show 11 ≤ 11; decide) iIn hA ?_; intro w5 hc5 k5 hsz5; clear hsz5; have hI5 : CL w5 wr.heap.size q.cells := hc5; have hR2 := run_ins hI5; have K5 : Keeps (fun _ => False) w w5 := kr.trans' (k4.trans' k5 (fun _ _ e => e.elim) (fun _ _ e => e)) (fun _ _ e => e) (fun i hi e => by have := kr.size; have e : i = wr.heap.size := e; omega)) | (refine wpList_load_run rfl 38 _ rfl ⟨wr.heap.size, 0, none⟩ rfl _ hR2 ?_; clear hR2) | (go_at_call 23; refine (hj _).mono ?_; rintro e w6 ⟨rfl, k6⟩; have to6 := (hI5.keep (by show 0 < 11; decide) k6 (fun e => e)).c 10 _ rfl))
            go_ret2
            exact ⟨by rw [HN.out]; rfl, K5.trans k6⟩
      · obtain rfl : k = N := by omega
        have hltI : decide ((k : Int) < (k : Int)) = false := by simp
        rw [Nat.sub_self] at hf
        subst hf
        go_wp2_with fail
        go_ret2
        exact ⟨rfl, kr⟩
  · rw [if_neg h0]
    have hb : (ce == 0) = false := by simpa using h0
    go_enter Tryd.func14, Tryd.ntmps14
    go_wp2_with (go_at_call 12; refine hC.mono ?_; clear hC; rintro e w1 ⟨rfl, k1⟩)
    go_ret2
    exact ⟨rfl, k1⟩
end Go.Proofs.YtclednbclgkdaaaDoor
