import Derived.Test.YtkfeccocaokdlabDoorPhW
namespace Go.Proofs.YtkfeccocaokdlabDoor
open Go.RowKit
attribute [local go_sem] Oper.semAt_some run_store_nf run_store_f
set_option maxHeartbeats 4000000 in
set_option maxRecDepth 1000000 in
theorem way_any {w : World} {a a2 : Option Addr} {cap n2 cap2 : Nat} {l : List Ins} (hT : PT w) (hNT : NT w) (hl : ISL w a l) (hlen : l.length * 88 ≤ 140737488355328) (hBs : BSL w a2 n2) : Calls Tryd.prog 4 #[.slice a l.length cap, .slice a2 n2 cap2] w fun e w' => e = .returned (.bool true) ∧ Below w.heap.size w w' := by
  have hFx := fixed_ok hT hNT
  have hP := fun W (hl : ISL W a l) => prog_any (w := W) (cap := cap) hl hlen
  have hCk := fun W a cap (hT : LT W) (hl : ISL W a l) => check_any (w := W) (cap := cap) (a := a) hT hl (by omega)
  have hFw := fun W a cap (hT : LT W) (hl : ISL W a l) => forward_any (w := W) (cap := cap) (a := a) hT hl (by omega)
  have hLg := fun W a cap (hT : LT W) (hl : ISL W a l) (hA : ∀ b off, a = some ⟨b, off, none⟩ → b < W.heap.size) => longest_any (w := W) (cap := cap) (a := a) hT hl hA (by omega)
  have hbad := @chk_bad l
  have hway := @way_cases l
  have hok := chk_ok (l := l)
  generalize hfb : fwB l = fb at *
  generalize hce : (chk l).1 = ce at *
  generalize (chk l).2 = ci at *
  clear hfb hce
  have hLT := hT.lt
  clear hT hNT
  go_enter Tryd.func4, Tryd.ntmps4
  go_wp2_with fail
  refine hFx.mono ?_
  clear hFx
  rintro e w1 ⟨rfl, k1⟩
  go_wp2_with fail
  refine (hP w1 (hl.keep k1)).mono ?_
  rintro e w2 ⟨v, rfl, ho, k2⟩
  obtain ⟨a1, cap1, rfl, h1⟩ := isl_of_owns ho rfl
  have K2 := k1.trans k2
  have c2 := hCk w2 a1 cap1 (hLT.keep K2) h1
  clear hCk ho k1 k2 h1
  go_wp2_with fail
  refine c2.mono ?_
  clear c2
  rintro e w3 ⟨rfl, k3⟩
  have K3 := K2.trans k3
  clear K2 k3
  go_wp2_with fail
  refine (hP w3 (hl.keep K3)).mono ?_
  rintro e w4 ⟨v, rfl, ho, k4⟩
  obtain ⟨a3, cap3, rfl, h3⟩ := isl_of_owns ho rfl
  have K4 := K3.trans k4
  have c4 := hLg w4 a3 cap3 (hLT.keep K4) h3 (owns_blk' ho)
  clear hLg ho K3 k4 h3
  go_wp2_with fail
  refine c4.mono ?_
  clear c4
  rintro e w5 ⟨x, y, rfl, hg, k5⟩
  have K5 := K4.trans k5
  clear K4 k5
  go_wp2_with fail
  refine (hP w5 (hl.keep K5)).mono ?_
  rintro e w6 ⟨v, rfl, ho, k6⟩
  obtain ⟨a5, cap5, rfl, h5⟩ := isl_of_owns ho rfl
  have K6 := K5.trans k6
  have c6 := hFw w6 a5 cap5 (hLT.keep K6) h5
  clear hFw ho K5 k6 h5 hP
  go_wp2_with fail
  refine c6.mono ?_
  clear c6
  rintro e w7 ⟨rfl, k7⟩
  have K0 := K6.trans k7
  clear K6 k7
  by_cases h0 : ce = 0
  · obtain ⟨h64, hcan⟩ := hok h0
    have hcs := hway hg h0
    clear hbad hway hok hg
    subst h0
    rcases hcs with ⟨rfl, rfl, rfl⟩ | ⟨rfl, hx0, hxl, hSd⟩
    · have hl0 : ¬ (l.length : Int) < 0 := by omega
      have hl1 : decide ((l.length : Int) < 0) = false := by simp <;> omega
      go_wp2_with fail
      go_loopw [11, 12, 13] (fun av sv qv Wr => ∃ p k q : Nat, av = .int .i64 (p : Int) ∧ sv = .int .i64 (k : Int) ∧ qv = .int .i64 (q : Int) ∧ p ≤ l.length ∧ k ≤ l.length + 1 ∧ q ≤ k ∧ Wk l.length (nx l) k 0 p ∧ Keeps (fun _ => False) w Wr) (fun _ sv _ _ => l.length + 1 - (intOf sv).toNat)
      case atStart => exact ⟨0, 0, 0, rfl, rfl, rfl, Nat.zero_le _, Nat.zero_le _, Nat.le_refl _, rfl, K0⟩
      case round =>
        obtain ⟨p, k, tq, rfl, rfl, rfl, hpl, hkl, hqk, hW, kr⟩ := hrel
        by_cases hp : p < l.length
        · have hpI : decide ((p : Int) < (l.length : Int)) = true := by simp; omega
          have hpJ : (p : Int) < (l.length : Int) := by omega
          have hp0 : (0 : Int) ≤ (p : Int) := by omega
          have hq0 : (0 : Int) ≤ (tq : Int) := by omega
          by_cases hk : k ≤ l.length
          · have hkI : decide ((k : Int) ≤ (l.length : Int)) = true := by simp; omega
            have hkJ : (k : Int) ≤ (l.length : Int) := by omega
            obtain ⟨b, off, rfl, hc⟩ := hl p hp
            have hR1 := run_insAt (W := wr) (t := 27) (fun j v e => kr.cell (hc j v e) (fun e => e)) ⟨_, Tryd.underlying27⟩ iRn
            have hcn := hcan p hp
            have hnx : Hid (nx l p = ((l.getD p ins0).nxt p).map Int.toNat) := rfl
            generalize l.getD p ins0 = q at *
            have hA := all_oneCell_ins q
            obtain ⟨W4, hW4⟩ : ∃ W4, W4 = wr.alloc (.cells #[.int .i64 0, .int .i64 0, .bool false, .int .i64 0, .bool false, .int .i64 0, .bool false, .int .i64 0, .int .i64 0, .int .i64 0, .int .i64 0] 27) := ⟨_, rfl⟩
            have k4 : Keeps (fun _ => False) wr W4 := by rw [hW4]; exact (Keeps.refl _ wr).alloc _
            have hU4 : CL W4 wr.heap.size ins0.cells := by rw [hW4]; exact CL.made wr ins0.cells _
            have HW4 : Hid (_ = _) := hW4
            clear hW4 hc
            by_cases e9 : q.code = 9
            · have b9 : (q.code == 9) = true := by simpa using e9
              by_cases hm : k + 1 ≤ l.length
              · have e1 : decide ((l.length : Int) < ((k : Int) + 1)) = false := by simp; omega
                have e1' : ¬ (l.length : Int) < ((k : Int) + 1) := by omega
                go_wp2_with (first | (refine wpList_load_run rfl 27 _ rfl ⟨b, off + p * 11, none⟩ rfl _ hR1 ?_; clear hR1) | (rw [← HW4.out]; clear HW4; refine wpList_store_cl rfl 27 _ _ rfl wr.heap.size 0 11 _ rfl rfl rfl hU4 (by show 11 ≤ 11; decide) iRn hA ?_; intro w5 hc5 k5 hsz5; clear hsz5; have hI5 : CL w5 wr.heap.size q.cells := hc5; have x0 := hI5.c 0 _ rfl; have x10 := hI5.c 10 _ rfl; have K5 : Keeps (fun _ => False) w w5 := (kr.trans k4).trans' k5 (fun _ _ e => e) (fun i hi e => by have := kr.size; have e : i = wr.heap.size := e; omega); have BS5 := hBs.keep K5))
                go_ret
                exact ⟨rfl, (K5.below (Nat.le_refl _) (fun _ _ e => e))⟩
              · have e1 : decide ((l.length : Int) < ((k : Int) + 1)) = true := by simp; omega
                have e1' : (l.length : Int) < ((k : Int) + 1) := by omega
                go_wp2_with (first | (refine wpList_load_run rfl 27 _ rfl ⟨b, off + p * 11, none⟩ rfl _ hR1 ?_; clear hR1) | (rw [← HW4.out]; clear HW4; refine wpList_store_cl rfl 27 _ _ rfl wr.heap.size 0 11 _ rfl rfl rfl hU4 (by show 11 ≤ 11; decide) iRn hA ?_; intro w5 hc5 k5 hsz5; clear hsz5; have hI5 : CL w5 wr.heap.size q.cells := hc5; have x0 := hI5.c 0 _ rfl; have x10 := hI5.c 10 _ rfl; have K5 : Keeps (fun _ => False) w w5 := (kr.trans k4).trans' k5 (fun _ _ e => e) (fun i hi e => by have := kr.size; have e : i = wr.heap.size := e; omega); have BS5 := hBs.keep K5))
                go_ret
                exact ⟨rfl, (K5.below (Nat.le_refl _) (fun _ _ e => e))⟩
            · have b9 : (q.code == 9) = false := by simpa using e9
              by_cases e10 : q.code = 10
              · have b10 : (q.code == 10) = true := by simpa using e10
                by_cases hm : k + 1 ≤ l.length
                · have e1 : decide ((l.length : Int) < ((k : Int) + 1)) = false := by simp; omega
                  have e1' : ¬ (l.length : Int) < ((k : Int) + 1) := by omega
                  go_wp2_with (first | (refine wpList_load_run rfl 27 _ rfl ⟨b, off + p * 11, none⟩ rfl _ hR1 ?_; clear hR1) | (rw [← HW4.out]; clear HW4; refine wpList_store_cl rfl 27 _ _ rfl wr.heap.size 0 11 _ rfl rfl rfl hU4 (by show 11 ≤ 11; decide) iRn hA ?_; intro w5 hc5 k5 hsz5; clear hsz5; have hI5 : CL w5 wr.heap.size q.cells := hc5; have x0 := hI5.c 0 _ rfl; have x10 := hI5.c 10 _ rfl; have K5 : Keeps (fun _ => False) w w5 := (kr.trans k4).trans' k5 (fun _ _ e => e) (fun i hi e => by have := kr.size; have e : i = wr.heap.size := e; omega); have BS5 := hBs.keep K5))
                  go_ret
                  exact ⟨rfl, (K5.below (Nat.le_refl _) (fun _ _ e => e))⟩
                · have e1 : decide ((l.length : Int) < ((k : Int) + 1)) = true := by simp; omega
                  have e1' : (l.length : Int) < ((k : Int) + 1) := by omega
                  go_wp2_with (first | (refine wpList_load_run rfl 27 _ rfl ⟨b, off + p * 11, none⟩ rfl _ hR1 ?_; clear hR1) | (rw [← HW4.out]; clear HW4; refine wpList_store_cl rfl 27 _ _ rfl wr.heap.size 0 11 _ rfl rfl rfl hU4 (by show 11 ≤ 11; decide) iRn hA ?_; intro w5 hc5 k5 hsz5; clear hsz5; have hI5 : CL w5 wr.heap.size q.cells := hc5; have x0 := hI5.c 0 _ rfl; have x10 := hI5.c 10 _ rfl; have K5 : Keeps (fun _ => False) w w5 := (kr.trans k4).trans' k5 (fun _ _ e => e) (fun i hi e => by have := kr.size; have e : i = wr.heap.size := e; omega); have BS5 := hBs.keep K5))
                  go_ret
                  exact ⟨rfl, (K5.below (Nat.le_refl _) (fun _ _ e => e))⟩
              · have b10 : (q.code == 10) = false := by simpa using e10
                by_cases e8 : q.code = 8
                · have b8 : (q.code == 8) = true := by simpa using e8
                  have b7 : (q.code == 7) = false := by rw [e8]; rfl
                  have ht := can_to hcn (.inr e8)
                  obtain ⟨y, hy⟩ : ∃ y : Nat, q.to = (y : Int) := ⟨q.to.toNat, by omega⟩
                  have hym : y ∈ nx l p := by rw [hnx.out]; unfold Ins.nxt; rw [if_pos e8, hy]; simp
                  have hyl : y ≤ l.length := by rw [hy] at ht; omega
                  have HY : Hid (_ = _) := hy
                  clear hy
                  go_wp2_with (first | (refine wpList_load_run rfl 27 _ rfl ⟨b, off + p * 11, none⟩ rfl _ hR1 ?_; clear hR1) | (rw [← HW4.out]; clear HW4; refine wpList_store_cl rfl 27 _ _ rfl wr.heap.size 0 11 _ rfl rfl rfl hU4 (by show 11 ≤ 11; decide) iRn hA ?_; intro w5 hc5 k5 hsz5; clear hsz5; have hI5 : CL w5 wr.heap.size q.cells := hc5; have x0 := hI5.c 0 _ rfl; have x10 := hI5.c 10 _ rfl; have K5 : Keeps (fun _ => False) w w5 := (kr.trans k4).trans' k5 (fun _ _ e => e) (fun i hi e => by have := kr.size; have e : i = wr.heap.size := e; omega); have BS5 := hBs.keep K5))
                  go_roundw
                  case rel => exact ⟨y, k + 1, tq, by rw [HY.out], by go_num, by go_num, by omega, by omega, by omega, Wk.snoc.2 ⟨p, hp, hW, hym⟩, K5⟩
                  case measure => simp [intOf]; omega
                · have b8 : (q.code == 8) = false := by simpa using e8
                  by_cases e7 : q.code = 7
                  · have b7 : (q.code == 7) = true := by simpa using e7
                    have ht := can_to hcn (.inl e7)
                    obtain ⟨y, hy⟩ : ∃ y : Nat, q.to = (y : Int) := ⟨q.to.toNat, by omega⟩
                    have hym : y ∈ nx l p := by rw [hnx.out]; unfold Ins.nxt; rw [if_neg e8, if_pos e7, hy]; simp
                    have hpm : p + 1 ∈ nx l p := by rw [hnx.out]; unfold Ins.nxt; rw [if_neg e8, if_pos e7]; simp
                    have hyl : y ≤ l.length := by rw [hy] at ht; omega
                    have HY : Hid (_ = _) := hy
                    clear hy
                    by_cases hq : tq < n2
                    · have hqI : decide ((n2 : Int) ≤ (tq : Int)) = false := by simp; omega
                      have hqJ : ¬ (n2 : Int) ≤ (tq : Int) := by omega
                      have hqK : (tq : Int) < (n2 : Int) := by omega
                      obtain ⟨b2, off2, bv, rfl, hbc⟩ := hBs tq hq
                      cases bv with
                      | true =>
                        go_wp2_with (first | (refine wpList_load_run rfl 27 _ rfl ⟨b, off + p * 11, none⟩ rfl _ hR1 ?_; clear hR1) | (rw [← HW4.out]; clear HW4; refine wpList_store_cl rfl 27 _ _ rfl wr.heap.size 0 11 _ rfl rfl rfl hU4 (by show 11 ≤ 11; decide) iRn hA ?_; intro w5 hc5 k5 hsz5; clear hsz5; have hI5 : CL w5 wr.heap.size q.cells := hc5; have x0 := hI5.c 0 _ rfl; have x10 := hI5.c 10 _ rfl; have K5 : Keeps (fun _ => False) w w5 := (kr.trans k4).trans' k5 (fun _ _ e => e) (fun i hi e => by have := kr.size; have e : i = wr.heap.size := e; omega); have bc5 := K5.cell hbc (fun e => e)))
                        go_roundw
                        case rel => exact ⟨y, k + 1, tq + 1, by rw [HY.out], by go_num, by go_num, by omega, by omega, by omega, Wk.snoc.2 ⟨p, hp, hW, hym⟩, K5⟩
                        case measure => simp [intOf]; omega
                      | false =>
                        go_wp2_with (first | (refine wpList_load_run rfl 27 _ rfl ⟨b, off + p * 11, none⟩ rfl _ hR1 ?_; clear hR1) | (rw [← HW4.out]; clear HW4; refine wpList_store_cl rfl 27 _ _ rfl wr.heap.size 0 11 _ rfl rfl rfl hU4 (by show 11 ≤ 11; decide) iRn hA ?_; intro w5 hc5 k5 hsz5; clear hsz5; have hI5 : CL w5 wr.heap.size q.cells := hc5; have x0 := hI5.c 0 _ rfl; have x10 := hI5.c 10 _ rfl; have K5 : Keeps (fun _ => False) w w5 := (kr.trans k4).trans' k5 (fun _ _ e => e) (fun i hi e => by have := kr.size; have e : i = wr.heap.size := e; omega); have bc5 := K5.cell hbc (fun e => e)))
                        go_roundw
                        case rel => exact ⟨p + 1, k + 1, tq + 1, by go_num, by go_num, by go_num, by omega, by omega, by omega, Wk.snoc.2 ⟨p, hp, hW, hpm⟩, K5⟩
                        case measure => simp [intOf]; omega
                    · have hqI : decide ((n2 : Int) ≤ (tq : Int)) = true := by simp; omega
                      have hqJ : (n2 : Int) ≤ (tq : Int) := by omega
                      by_cases hm : k + 1 ≤ l.length
                      · have e1 : decide ((l.length : Int) < ((k : Int) + 1)) = false := by simp; omega
                        have e1' : ¬ (l.length : Int) < ((k : Int) + 1) := by omega
                        go_wp2_with (first | (refine wpList_load_run rfl 27 _ rfl ⟨b, off + p * 11, none⟩ rfl _ hR1 ?_; clear hR1) | (rw [← HW4.out]; clear HW4; refine wpList_store_cl rfl 27 _ _ rfl wr.heap.size 0 11 _ rfl rfl rfl hU4 (by show 11 ≤ 11; decide) iRn hA ?_; intro w5 hc5 k5 hsz5; clear hsz5; have hI5 : CL w5 wr.heap.size q.cells := hc5; have x0 := hI5.c 0 _ rfl; have x10 := hI5.c 10 _ rfl; have K5 : Keeps (fun _ => False) w w5 := (kr.trans k4).trans' k5 (fun _ _ e => e) (fun i hi e => by have := kr.size; have e : i = wr.heap.size := e; omega); have BS5 := hBs.keep K5))
                        go_ret
                        exact ⟨rfl, (K5.below (Nat.le_refl _) (fun _ _ e => e))⟩
                      · have e1 : decide ((l.length : Int) < ((k : Int) + 1)) = true := by simp; omega
                        have e1' : (l.length : Int) < ((k : Int) + 1) := by omega
                        go_wp2_with (first | (refine wpList_load_run rfl 27 _ rfl ⟨b, off + p * 11, none⟩ rfl _ hR1 ?_; clear hR1) | (rw [← HW4.out]; clear HW4; refine wpList_store_cl rfl 27 _ _ rfl wr.heap.size 0 11 _ rfl rfl rfl hU4 (by show 11 ≤ 11; decide) iRn hA ?_; intro w5 hc5 k5 hsz5; clear hsz5; have hI5 : CL w5 wr.heap.size q.cells := hc5; have x0 := hI5.c 0 _ rfl; have x10 := hI5.c 10 _ rfl; have K5 : Keeps (fun _ => False) w w5 := (kr.trans k4).trans' k5 (fun _ _ e => e) (fun i hi e => by have := kr.size; have e : i = wr.heap.size := e; omega); have BS5 := hBs.keep K5))
                        go_ret
                        exact ⟨rfl, (K5.below (Nat.le_refl _) (fun _ _ e => e))⟩
                  · have b7 : (q.code == 7) = false := by simpa using e7
                    have hpm : p + 1 ∈ nx l p := by rw [hnx.out]; unfold Ins.nxt; rw [if_neg e8, if_neg e7, if_neg (by omega)]; simp
                    go_wp2_with (first | (refine wpList_load_run rfl 27 _ rfl ⟨b, off + p * 11, none⟩ rfl _ hR1 ?_; clear hR1) | (rw [← HW4.out]; clear HW4; refine wpList_store_cl rfl 27 _ _ rfl wr.heap.size 0 11 _ rfl rfl rfl hU4 (by show 11 ≤ 11; decide) iRn hA ?_; intro w5 hc5 k5 hsz5; clear hsz5; have hI5 : CL w5 wr.heap.size q.cells := hc5; have x0 := hI5.c 0 _ rfl; have x10 := hI5.c 10 _ rfl; have K5 : Keeps (fun _ => False) w w5 := (kr.trans k4).trans' k5 (fun _ _ e => e) (fun i hi e => by have := kr.size; have e : i = wr.heap.size := e; omega); have BS5 := hBs.keep K5))
                    go_roundw
                    case rel => exact ⟨p + 1, k + 1, tq, by go_num, by go_num, by go_num, by omega, by omega, by omega, Wk.snoc.2 ⟨p, hp, hW, hpm⟩, K5⟩
                    case measure => simp [intOf]; omega
          · have hkI : decide ((k : Int) ≤ (l.length : Int)) = false := by simp; omega
            have hkJ : ¬ (k : Int) ≤ (l.length : Int) := by omega
            by_cases hm : k ≤ l.length
            · have e1 : decide ((l.length : Int) < (k : Int)) = false := by simp; omega
              have e1' : ¬ (l.length : Int) < (k : Int) := by omega
              go_wp2_with (fail)
              go_ret
              exact ⟨rfl, (kr.below (Nat.le_refl _) (fun _ _ e => e))⟩
            · have e1 : decide ((l.length : Int) < (k : Int)) = true := by simp; omega
              have e1' : (l.length : Int) < (k : Int) := by omega
              go_wp2_with (fail)
              go_ret
              exact ⟨rfl, (kr.below (Nat.le_refl _) (fun _ _ e => e))⟩
        · have hpI : decide ((p : Int) < (l.length : Int)) = false := by simp; omega
          have hpJ : ¬ (p : Int) < (l.length : Int) := by omega
          by_cases hm : k ≤ l.length
          · have e1 : decide ((l.length : Int) < (k : Int)) = false := by simp; omega
            have e1' : ¬ (l.length : Int) < (k : Int) := by omega
            go_wp2_with (fail)
            go_ret
            exact ⟨rfl, (kr.below (Nat.le_refl _) (fun _ _ e => e))⟩
          · have e1 : decide ((l.length : Int) < (k : Int)) = true := by simp; omega
            have e1' : (l.length : Int) < (k : Int) := by omega
            go_wp2_with (fail)
            go_ret
            exact ⟨rfl, (kr.below (Nat.le_refl _) (fun _ _ e => e))⟩
    · have hx1 : decide (x < 0) = false := by simp; omega
      have hx2 : decide ((l.length : Int) < x) = false := by simp; omega
      have hx3 : ¬ x < 0 := by omega
      have hx4 : ¬ (l.length : Int) < x := by omega
      cases fb with
      | true =>
        go_wp2_with fail
        go_loopw [11, 12, 13] (fun av sv qv Wr => ∃ p k q : Nat, av = .int .i64 (p : Int) ∧ sv = .int .i64 (k : Int) ∧ qv = .int .i64 (q : Int) ∧ p ≤ l.length ∧ k ≤ l.length + 1 ∧ q ≤ k ∧ Wk l.length (nx l) k 0 p ∧ Keeps (fun _ => False) w Wr) (fun _ sv _ _ => l.length + 1 - (intOf sv).toNat)
        case atStart => exact ⟨0, 0, 0, rfl, rfl, rfl, Nat.zero_le _, Nat.zero_le _, Nat.le_refl _, rfl, K0⟩
        case round =>
          obtain ⟨p, k, tq, rfl, rfl, rfl, hpl, hkl, hqk, hW, kr⟩ := hrel
          by_cases hp : p < l.length
          · have hpI : decide ((p : Int) < (l.length : Int)) = true := by simp; omega
            have hpJ : (p : Int) < (l.length : Int) := by omega
            have hp0 : (0 : Int) ≤ (p : Int) := by omega
            have hq0 : (0 : Int) ≤ (tq : Int) := by omega
            by_cases hk : k ≤ l.length
            · have hkI : decide ((k : Int) ≤ (l.length : Int)) = true := by simp; omega
              have hkJ : (k : Int) ≤ (l.length : Int) := by omega
              obtain ⟨b, off, rfl, hc⟩ := hl p hp
              have hR1 := run_insAt (W := wr) (t := 27) (fun j v e => kr.cell (hc j v e) (fun e => e)) ⟨_, Tryd.underlying27⟩ iRn
              have hcn := hcan p hp
              have hnx : Hid (nx l p = ((l.getD p ins0).nxt p).map Int.toNat) := rfl
              generalize l.getD p ins0 = q at *
              have hA := all_oneCell_ins q
              obtain ⟨W4, hW4⟩ : ∃ W4, W4 = wr.alloc (.cells #[.int .i64 0, .int .i64 0, .bool false, .int .i64 0, .bool false, .int .i64 0, .bool false, .int .i64 0, .int .i64 0, .int .i64 0, .int .i64 0] 27) := ⟨_, rfl⟩
              have k4 : Keeps (fun _ => False) wr W4 := by rw [hW4]; exact (Keeps.refl _ wr).alloc _
              have hU4 : CL W4 wr.heap.size ins0.cells := by rw [hW4]; exact CL.made wr ins0.cells _
              have HW4 : Hid (_ = _) := hW4
              clear hW4 hc
              by_cases e9 : q.code = 9
              · have b9 : (q.code == 9) = true := by simpa using e9
                have hmx := hSd (k + 1) (.inr ⟨p, hp, by simpa using hW⟩)
                have e1 : decide ((l.length : Int) < ((k : Int) + 1)) = false := by simp; omega
                have e1' : ¬ (l.length : Int) < ((k : Int) + 1) := by omega
                have e2 : decide (((k : Int) + 1) ≤ x) = true := by simp; omega
                have e2' : ((k : Int) + 1) ≤ x := by omega
                go_wp2_with (first | (refine wpList_load_run rfl 27 _ rfl ⟨b, off + p * 11, none⟩ rfl _ hR1 ?_; clear hR1) | (rw [← HW4.out]; clear HW4; refine wpList_store_cl rfl 27 _ _ rfl wr.heap.size 0 11 _ rfl rfl rfl hU4 (by show 11 ≤ 11; decide) iRn hA ?_; intro w5 hc5 k5 hsz5; clear hsz5; have hI5 : CL w5 wr.heap.size q.cells := hc5; have x0 := hI5.c 0 _ rfl; have x10 := hI5.c 10 _ rfl; have K5 : Keeps (fun _ => False) w w5 := (kr.trans k4).trans' k5 (fun _ _ e => e) (fun i hi e => by have := kr.size; have e : i = wr.heap.size := e; omega); have BS5 := hBs.keep K5))
                go_ret
                exact ⟨rfl, (K5.below (Nat.le_refl _) (fun _ _ e => e))⟩
              · have b9 : (q.code == 9) = false := by simpa using e9
                by_cases e10 : q.code = 10
                · have b10 : (q.code == 10) = true := by simpa using e10
                  have hmx := hSd (k + 1) (.inr ⟨p, hp, by simpa using hW⟩)
                  have e1 : decide ((l.length : Int) < ((k : Int) + 1)) = false := by simp; omega
                  have e1' : ¬ (l.length : Int) < ((k : Int) + 1) := by omega
                  have e2 : decide (((k : Int) + 1) ≤ x) = true := by simp; omega
                  have e2' : ((k : Int) + 1) ≤ x := by omega
                  go_wp2_with (first | (refine wpList_load_run rfl 27 _ rfl ⟨b, off + p * 11, none⟩ rfl _ hR1 ?_; clear hR1) | (rw [← HW4.out]; clear HW4; refine wpList_store_cl rfl 27 _ _ rfl wr.heap.size 0 11 _ rfl rfl rfl hU4 (by show 11 ≤ 11; decide) iRn hA ?_; intro w5 hc5 k5 hsz5; clear hsz5; have hI5 : CL w5 wr.heap.size q.cells := hc5; have x0 := hI5.c 0 _ rfl; have x10 := hI5.c 10 _ rfl; have K5 : Keeps (fun _ => False) w w5 := (kr.trans k4).trans' k5 (fun _ _ e => e) (fun i hi e => by have := kr.size; have e : i = wr.heap.size := e; omega); have BS5 := hBs.keep K5))
                  go_ret
                  exact ⟨rfl, (K5.below (Nat.le_refl _) (fun _ _ e => e))⟩
                · have b10 : (q.code == 10) = false := by simpa using e10
                  by_cases e8 : q.code = 8
                  · have b8 : (q.code == 8) = true := by simpa using e8
                    have b7 : (q.code == 7) = false := by rw [e8]; rfl
                    have ht := can_to hcn (.inr e8)
                    obtain ⟨y, hy⟩ : ∃ y : Nat, q.to = (y : Int) := ⟨q.to.toNat, by omega⟩
                    have hym : y ∈ nx l p := by rw [hnx.out]; unfold Ins.nxt; rw [if_pos e8, hy]; simp
                    have hyl : y ≤ l.length := by rw [hy] at ht; omega
                    have HY : Hid (_ = _) := hy
                    clear hy
                    go_wp2_with (first | (refine wpList_load_run rfl 27 _ rfl ⟨b, off + p * 11, none⟩ rfl _ hR1 ?_; clear hR1) | (rw [← HW4.out]; clear HW4; refine wpList_store_cl rfl 27 _ _ rfl wr.heap.size 0 11 _ rfl rfl rfl hU4 (by show 11 ≤ 11; decide) iRn hA ?_; intro w5 hc5 k5 hsz5; clear hsz5; have hI5 : CL w5 wr.heap.size q.cells := hc5; have x0 := hI5.c 0 _ rfl; have x10 := hI5.c 10 _ rfl; have K5 : Keeps (fun _ => False) w w5 := (kr.trans k4).trans' k5 (fun _ _ e => e) (fun i hi e => by have := kr.size; have e : i = wr.heap.size := e; omega); have BS5 := hBs.keep K5))
                    go_roundw
                    case rel => exact ⟨y, k + 1, tq, by rw [HY.out], by go_num, by go_num, by omega, by omega, by omega, Wk.snoc.2 ⟨p, hp, hW, hym⟩, K5⟩
                    case measure => simp [intOf]; omega
                  · have b8 : (q.code == 8) = false := by simpa using e8
                    by_cases e7 : q.code = 7
                    · have b7 : (q.code == 7) = true := by simpa using e7
                      have ht := can_to hcn (.inl e7)
                      obtain ⟨y, hy⟩ : ∃ y : Nat, q.to = (y : Int) := ⟨q.to.toNat, by omega⟩
                      have hym : y ∈ nx l p := by rw [hnx.out]; unfold Ins.nxt; rw [if_neg e8, if_pos e7, hy]; simp
                      have hpm : p + 1 ∈ nx l p := by rw [hnx.out]; unfold Ins.nxt; rw [if_neg e8, if_pos e7]; simp
                      have hyl : y ≤ l.length := by rw [hy] at ht; omega
                      have HY : Hid (_ = _) := hy
                      clear hy
                      by_cases hq : tq < n2
                      · have hqI : decide ((n2 : Int) ≤ (tq : Int)) = false := by simp; omega
                        have hqJ : ¬ (n2 : Int) ≤ (tq : Int) := by omega
                        have hqK : (tq : Int) < (n2 : Int) := by omega
                        obtain ⟨b2, off2, bv, rfl, hbc⟩ := hBs tq hq
                        cases bv with
                        | true =>
                          go_wp2_with (first | (refine wpList_load_run rfl 27 _ rfl ⟨b, off + p * 11, none⟩ rfl _ hR1 ?_; clear hR1) | (rw [← HW4.out]; clear HW4; refine wpList_store_cl rfl 27 _ _ rfl wr.heap.size 0 11 _ rfl rfl rfl hU4 (by show 11 ≤ 11; decide) iRn hA ?_; intro w5 hc5 k5 hsz5; clear hsz5; have hI5 : CL w5 wr.heap.size q.cells := hc5; have x0 := hI5.c 0 _ rfl; have x10 := hI5.c 10 _ rfl; have K5 : Keeps (fun _ => False) w w5 := (kr.trans k4).trans' k5 (fun _ _ e => e) (fun i hi e => by have := kr.size; have e : i = wr.heap.size := e; omega); have bc5 := K5.cell hbc (fun e => e)))
                          go_roundw
                          case rel => exact ⟨y, k + 1, tq + 1, by rw [HY.out], by go_num, by go_num, by omega, by omega, by omega, Wk.snoc.2 ⟨p, hp, hW, hym⟩, K5⟩
                          case measure => simp [intOf]; omega
                        | false =>
                          go_wp2_with (first | (refine wpList_load_run rfl 27 _ rfl ⟨b, off + p * 11, none⟩ rfl _ hR1 ?_; clear hR1) | (rw [← HW4.out]; clear HW4; refine wpList_store_cl rfl 27 _ _ rfl wr.heap.size 0 11 _ rfl rfl rfl hU4 (by show 11 ≤ 11; decide) iRn hA ?_; intro w5 hc5 k5 hsz5; clear hsz5; have hI5 : CL w5 wr.heap.size q.cells := hc5; have x0 := hI5.c 0 _ rfl; have x10 := hI5.c 10 _ rfl; have K5 : Keeps (fun _ => False) w w5 := (kr.trans k4).trans' k5 (fun _ _ e => e) (fun i hi e => by have := kr.size; have e : i = wr.heap.size := e; omega); have bc5 := K5.cell hbc (fun e => e)))
                          go_roundw
                          case rel => exact ⟨p + 1, k + 1, tq + 1, by go_num, by go_num, by go_num, by omega, by omega, by omega, Wk.snoc.2 ⟨p, hp, hW, hpm⟩, K5⟩
                          case measure => simp [intOf]; omega
                      · have hqI : decide ((n2 : Int) ≤ (tq : Int)) = true := by simp; omega
                        have hqJ : (n2 : Int) ≤ (tq : Int) := by omega
                        have hmx := hSd (k + 1) (.inr ⟨p, hp, by simpa using hW⟩)
                        have e1 : decide ((l.length : Int) < ((k : Int) + 1)) = false := by simp; omega
                        have e1' : ¬ (l.length : Int) < ((k : Int) + 1) := by omega
                        have e2 : decide (((k : Int) + 1) ≤ x) = true := by simp; omega
                        have e2' : ((k : Int) + 1) ≤ x := by omega
                        go_wp2_with (first | (refine wpList_load_run rfl 27 _ rfl ⟨b, off + p * 11, none⟩ rfl _ hR1 ?_; clear hR1) | (rw [← HW4.out]; clear HW4; refine wpList_store_cl rfl 27 _ _ rfl wr.heap.size 0 11 _ rfl rfl rfl hU4 (by show 11 ≤ 11; decide) iRn hA ?_; intro w5 hc5 k5 hsz5; clear hsz5; have hI5 : CL w5 wr.heap.size q.cells := hc5; have x0 := hI5.c 0 _ rfl; have x10 := hI5.c 10 _ rfl; have K5 : Keeps (fun _ => False) w w5 := (kr.trans k4).trans' k5 (fun _ _ e => e) (fun i hi e => by have := kr.size; have e : i = wr.heap.size := e; omega); have BS5 := hBs.keep K5))
                        go_ret
                        exact ⟨rfl, (K5.below (Nat.le_refl _) (fun _ _ e => e))⟩
                    · have b7 : (q.code == 7) = false := by simpa using e7
                      have hpm : p + 1 ∈ nx l p := by rw [hnx.out]; unfold Ins.nxt; rw [if_neg e8, if_neg e7, if_neg (by omega)]; simp
                      go_wp2_with (first | (refine wpList_load_run rfl 27 _ rfl ⟨b, off + p * 11, none⟩ rfl _ hR1 ?_; clear hR1) | (rw [← HW4.out]; clear HW4; refine wpList_store_cl rfl 27 _ _ rfl wr.heap.size 0 11 _ rfl rfl rfl hU4 (by show 11 ≤ 11; decide) iRn hA ?_; intro w5 hc5 k5 hsz5; clear hsz5; have hI5 : CL w5 wr.heap.size q.cells := hc5; have x0 := hI5.c 0 _ rfl; have x10 := hI5.c 10 _ rfl; have K5 : Keeps (fun _ => False) w w5 := (kr.trans k4).trans' k5 (fun _ _ e => e) (fun i hi e => by have := kr.size; have e : i = wr.heap.size := e; omega); have BS5 := hBs.keep K5))
                      go_roundw
                      case rel => exact ⟨p + 1, k + 1, tq, by go_num, by go_num, by go_num, by omega, by omega, by omega, Wk.snoc.2 ⟨p, hp, hW, hpm⟩, K5⟩
                      case measure => simp [intOf]; omega
            · have hkI : decide ((k : Int) ≤ (l.length : Int)) = false := by simp; omega
              have hkJ : ¬ (k : Int) ≤ (l.length : Int) := by omega
              have hmx := hSd (k) (Sd.of hW)
              have e1 : decide ((l.length : Int) < (k : Int)) = false := by simp; omega
              have e1' : ¬ (l.length : Int) < (k : Int) := by omega
              have e2 : decide ((k : Int) ≤ x) = true := by simp; omega
              have e2' : (k : Int) ≤ x := by omega
              go_wp2_with (fail)
              go_ret
              exact ⟨rfl, (kr.below (Nat.le_refl _) (fun _ _ e => e))⟩
          · have hpI : decide ((p : Int) < (l.length : Int)) = false := by simp; omega
            have hpJ : ¬ (p : Int) < (l.length : Int) := by omega
            have hmx := hSd (k) (Sd.of hW)
            have e1 : decide ((l.length : Int) < (k : Int)) = false := by simp; omega
            have e1' : ¬ (l.length : Int) < (k : Int) := by omega
            have e2 : decide ((k : Int) ≤ x) = true := by simp; omega
            have e2' : (k : Int) ≤ x := by omega
            go_wp2_with (fail)
            go_ret
            exact ⟨rfl, (kr.below (Nat.le_refl _) (fun _ _ e => e))⟩
      | false =>
        go_wp2_with fail
        go_loopw [11, 12, 13] (fun av sv qv Wr => ∃ p k q : Nat, av = .int .i64 (p : Int) ∧ sv = .int .i64 (k : Int) ∧ qv = .int .i64 (q : Int) ∧ p ≤ l.length ∧ k ≤ l.length + 1 ∧ q ≤ k ∧ Wk l.length (nx l) k 0 p ∧ Keeps (fun _ => False) w Wr) (fun _ sv _ _ => l.length + 1 - (intOf sv).toNat)
        case atStart => exact ⟨0, 0, 0, rfl, rfl, rfl, Nat.zero_le _, Nat.zero_le _, Nat.le_refl _, rfl, K0⟩
        case round =>
          obtain ⟨p, k, tq, rfl, rfl, rfl, hpl, hkl, hqk, hW, kr⟩ := hrel
          by_cases hp : p < l.length
          · have hpI : decide ((p : Int) < (l.length : Int)) = true := by simp; omega
            have hpJ : (p : Int) < (l.length : Int) := by omega
            have hp0 : (0 : Int) ≤ (p : Int) := by omega
            have hq0 : (0 : Int) ≤ (tq : Int) := by omega
            by_cases hk : k ≤ l.length
            · have hkI : decide ((k : Int) ≤ (l.length : Int)) = true := by simp; omega
              have hkJ : (k : Int) ≤ (l.length : Int) := by omega
              obtain ⟨b, off, rfl, hc⟩ := hl p hp
              have hR1 := run_insAt (W := wr) (t := 27) (fun j v e => kr.cell (hc j v e) (fun e => e)) ⟨_, Tryd.underlying27⟩ iRn
              have hcn := hcan p hp
              have hnx : Hid (nx l p = ((l.getD p ins0).nxt p).map Int.toNat) := rfl
              generalize l.getD p ins0 = q at *
              have hA := all_oneCell_ins q
              obtain ⟨W4, hW4⟩ : ∃ W4, W4 = wr.alloc (.cells #[.int .i64 0, .int .i64 0, .bool false, .int .i64 0, .bool false, .int .i64 0, .bool false, .int .i64 0, .int .i64 0, .int .i64 0, .int .i64 0] 27) := ⟨_, rfl⟩
              have k4 : Keeps (fun _ => False) wr W4 := by rw [hW4]; exact (Keeps.refl _ wr).alloc _
              have hU4 : CL W4 wr.heap.size ins0.cells := by rw [hW4]; exact CL.made wr ins0.cells _
              have HW4 : Hid (_ = _) := hW4
              clear hW4 hc
              by_cases e9 : q.code = 9
              · have b9 : (q.code == 9) = true := by simpa using e9
                have hmx := hSd (k + 1) (.inr ⟨p, hp, by simpa using hW⟩)
                have e1 : decide ((l.length : Int) < ((k : Int) + 1)) = false := by simp; omega
                have e1' : ¬ (l.length : Int) < ((k : Int) + 1) := by omega
                have e2 : decide (((k : Int) + 1) ≤ x) = true := by simp; omega
                have e2' : ((k : Int) + 1) ≤ x := by omega
                go_wp2_with (first | (refine wpList_load_run rfl 27 _ rfl ⟨b, off + p * 11, none⟩ rfl _ hR1 ?_; clear hR1) | (rw [← HW4.out]; clear HW4; refine wpList_store_cl rfl 27 _ _ rfl wr.heap.size 0 11 _ rfl rfl rfl hU4 (by show 11 ≤ 11; decide) iRn hA ?_; intro w5 hc5 k5 hsz5; clear hsz5; have hI5 : CL w5 wr.heap.size q.cells := hc5; have x0 := hI5.c 0 _ rfl; have x10 := hI5.c 10 _ rfl; have K5 : Keeps (fun _ => False) w w5 := (kr.trans k4).trans' k5 (fun _ _ e => e) (fun i hi e => by have := kr.size; have e : i = wr.heap.size := e; omega); have BS5 := hBs.keep K5))
                go_ret
                exact ⟨rfl, (K5.below (Nat.le_refl _) (fun _ _ e => e))⟩
              · have b9 : (q.code == 9) = false := by simpa using e9
                by_cases e10 : q.code = 10
                · have b10 : (q.code == 10) = true := by simpa using e10
                  have hmx := hSd (k + 1) (.inr ⟨p, hp, by simpa using hW⟩)
                  have e1 : decide ((l.length : Int) < ((k : Int) + 1)) = false := by simp; omega
                  have e1' : ¬ (l.length : Int) < ((k : Int) + 1) := by omega
                  have e2 : decide (((k : Int) + 1) ≤ x) = true := by simp; omega
                  have e2' : ((k : Int) + 1) ≤ x := by omega
                  go_wp2_with (first | (refine wpList_load_run rfl 27 _ rfl ⟨b, off + p * 11, none⟩ rfl _ hR1 ?_; clear hR1) | (rw [← HW4.out]; clear HW4; refine wpList_store_cl rfl 27 _ _ rfl wr.heap.size 0 11 _ rfl rfl rfl hU4 (by show 11 ≤ 11; decide) iRn hA ?_; intro w5 hc5 k5 hsz5; clear hsz5; have hI5 : CL w5 wr.heap.size q.cells := hc5; have x0 := hI5.c 0 _ rfl; have x10 := hI5.c 10 _ rfl; have K5 : Keeps (fun _ => False) w w5 := (kr.trans k4).trans' k5 (fun _ _ e => e) (fun i hi e => by have := kr.size; have e : i = wr.heap.size := e; omega); have BS5 := hBs.keep K5))
                  go_ret
                  exact ⟨rfl, (K5.below (Nat.le_refl _) (fun _ _ e => e))⟩
                · have b10 : (q.code == 10) = false := by simpa using e10
                  by_cases e8 : q.code = 8
                  · have b8 : (q.code == 8) = true := by simpa using e8
                    have b7 : (q.code == 7) = false := by rw [e8]; rfl
                    have ht := can_to hcn (.inr e8)
                    obtain ⟨y, hy⟩ : ∃ y : Nat, q.to = (y : Int) := ⟨q.to.toNat, by omega⟩
                    have hym : y ∈ nx l p := by rw [hnx.out]; unfold Ins.nxt; rw [if_pos e8, hy]; simp
                    have hyl : y ≤ l.length := by rw [hy] at ht; omega
                    have HY : Hid (_ = _) := hy
                    clear hy
                    go_wp2_with (first | (refine wpList_load_run rfl 27 _ rfl ⟨b, off + p * 11, none⟩ rfl _ hR1 ?_; clear hR1) | (rw [← HW4.out]; clear HW4; refine wpList_store_cl rfl 27 _ _ rfl wr.heap.size 0 11 _ rfl rfl rfl hU4 (by show 11 ≤ 11; decide) iRn hA ?_; intro w5 hc5 k5 hsz5; clear hsz5; have hI5 : CL w5 wr.heap.size q.cells := hc5; have x0 := hI5.c 0 _ rfl; have x10 := hI5.c 10 _ rfl; have K5 : Keeps (fun _ => False) w w5 := (kr.trans k4).trans' k5 (fun _ _ e => e) (fun i hi e => by have := kr.size; have e : i = wr.heap.size := e; omega); have BS5 := hBs.keep K5))
                    go_roundw
                    case rel => exact ⟨y, k + 1, tq, by rw [HY.out], by go_num, by go_num, by omega, by omega, by omega, Wk.snoc.2 ⟨p, hp, hW, hym⟩, K5⟩
                    case measure => simp [intOf]; omega
                  · have b8 : (q.code == 8) = false := by simpa using e8
                    by_cases e7 : q.code = 7
                    · have b7 : (q.code == 7) = true := by simpa using e7
                      have ht := can_to hcn (.inl e7)
                      obtain ⟨y, hy⟩ : ∃ y : Nat, q.to = (y : Int) := ⟨q.to.toNat, by omega⟩
                      have hym : y ∈ nx l p := by rw [hnx.out]; unfold Ins.nxt; rw [if_neg e8, if_pos e7, hy]; simp
                      have hpm : p + 1 ∈ nx l p := by rw [hnx.out]; unfold Ins.nxt; rw [if_neg e8, if_pos e7]; simp
                      have hyl : y ≤ l.length := by rw [hy] at ht; omega
                      have HY : Hid (_ = _) := hy
                      clear hy
                      by_cases hq : tq < n2
                      · have hqI : decide ((n2 : Int) ≤ (tq : Int)) = false := by simp; omega
                        have hqJ : ¬ (n2 : Int) ≤ (tq : Int) := by omega
                        have hqK : (tq : Int) < (n2 : Int) := by omega
                        obtain ⟨b2, off2, bv, rfl, hbc⟩ := hBs tq hq
                        cases bv with
                        | true =>
                          go_wp2_with (first | (refine wpList_load_run rfl 27 _ rfl ⟨b, off + p * 11, none⟩ rfl _ hR1 ?_; clear hR1) | (rw [← HW4.out]; clear HW4; refine wpList_store_cl rfl 27 _ _ rfl wr.heap.size 0 11 _ rfl rfl rfl hU4 (by show 11 ≤ 11; decide) iRn hA ?_; intro w5 hc5 k5 hsz5; clear hsz5; have hI5 : CL w5 wr.heap.size q.cells := hc5; have x0 := hI5.c 0 _ rfl; have x10 := hI5.c 10 _ rfl; have K5 : Keeps (fun _ => False) w w5 := (kr.trans k4).trans' k5 (fun _ _ e => e) (fun i hi e => by have := kr.size; have e : i = wr.heap.size := e; omega); have bc5 := K5.cell hbc (fun e => e)))
                          go_roundw
                          case rel => exact ⟨y, k + 1, tq + 1, by rw [HY.out], by go_num, by go_num, by omega, by omega, by omega, Wk.snoc.2 ⟨p, hp, hW, hym⟩, K5⟩
                          case measure => simp [intOf]; omega
                        | false =>
                          go_wp2_with (first | (refine wpList_load_run rfl 27 _ rfl ⟨b, off + p * 11, none⟩ rfl _ hR1 ?_; clear hR1) | (rw [← HW4.out]; clear HW4; refine wpList_store_cl rfl 27 _ _ rfl wr.heap.size 0 11 _ rfl rfl rfl hU4 (by show 11 ≤ 11; decide) iRn hA ?_; intro w5 hc5 k5 hsz5; clear hsz5; have hI5 : CL w5 wr.heap.size q.cells := hc5; have x0 := hI5.c 0 _ rfl; have x10 := hI5.c 10 _ rfl; have K5 : Keeps (fun _ => False) w w5 := (kr.trans k4).trans' k5 (fun _ _ e => e) (fun i hi e => by have := kr.size; have e : i = wr.heap.size := e; omega); have bc5 := K5.cell hbc (fun e => e)))
                          go_roundw
                          case rel => exact ⟨p + 1, k + 1, tq + 1, by go_num, by go_num, by go_num, by omega, by omega, by omega, Wk.snoc.2 ⟨p, hp, hW, hpm⟩, K5⟩
                          case measure => simp [intOf]; omega
                      · have hqI : decide ((n2 : Int) ≤ (tq : Int)) = true := by simp; omega
                        have hqJ : (n2 : Int) ≤ (tq : Int) := by omega
                        have hmx := hSd (k + 1) (.inr ⟨p, hp, by simpa using hW⟩)
                        have e1 : decide ((l.length : Int) < ((k : Int) + 1)) = false := by simp; omega
                        have e1' : ¬ (l.length : Int) < ((k : Int) + 1) := by omega
                        have e2 : decide (((k : Int) + 1) ≤ x) = true := by simp; omega
                        have e2' : ((k : Int) + 1) ≤ x := by omega
                        go_wp2_with (first | (refine wpList_load_run rfl 27 _ rfl ⟨b, off + p * 11, none⟩ rfl _ hR1 ?_; clear hR1) | (rw [← HW4.out]; clear HW4; refine wpList_store_cl rfl 27 _ _ rfl wr.heap.size 0 11 _ rfl rfl rfl hU4 (by show 11 ≤ 11; decide) iRn hA ?_; intro w5 hc5 k5 hsz5; clear hsz5; have hI5 : CL w5 wr.heap.size q.cells := hc5; have x0 := hI5.c 0 _ rfl; have x10 := hI5.c 10 _ rfl; have K5 : Keeps (fun _ => False) w w5 := (kr.trans k4).trans' k5 (fun _ _ e => e) (fun i hi e => by have := kr.size; have e : i = wr.heap.size := e; omega); have BS5 := hBs.keep K5))
                        go_ret
                        exact ⟨rfl, (K5.below (Nat.le_refl _) (fun _ _ e => e))⟩
                    · have b7 : (q.code == 7) = false := by simpa using e7
                      have hpm : p + 1 ∈ nx l p := by rw [hnx.out]; unfold Ins.nxt; rw [if_neg e8, if_neg e7, if_neg (by omega)]; simp
                      go_wp2_with (first | (refine wpList_load_run rfl 27 _ rfl ⟨b, off + p * 11, none⟩ rfl _ hR1 ?_; clear hR1) | (rw [← HW4.out]; clear HW4; refine wpList_store_cl rfl 27 _ _ rfl wr.heap.size 0 11 _ rfl rfl rfl hU4 (by show 11 ≤ 11; decide) iRn hA ?_; intro w5 hc5 k5 hsz5; clear hsz5; have hI5 : CL w5 wr.heap.size q.cells := hc5; have x0 := hI5.c 0 _ rfl; have x10 := hI5.c 10 _ rfl; have K5 : Keeps (fun _ => False) w w5 := (kr.trans k4).trans' k5 (fun _ _ e => e) (fun i hi e => by have := kr.size; have e : i = wr.heap.size := e; omega); have BS5 := hBs.keep K5))
                      go_roundw
                      case rel => exact ⟨p + 1, k + 1, tq, by go_num, by go_num, by go_num, by omega, by omega, by omega, Wk.snoc.2 ⟨p, hp, hW, hpm⟩, K5⟩
                      case measure => simp [intOf]; omega
            · have hkI : decide ((k : Int) ≤ (l.length : Int)) = false := by simp; omega
              have hkJ : ¬ (k : Int) ≤ (l.length : Int) := by omega
              have hmx := hSd (k) (Sd.of hW)
              have e1 : decide ((l.length : Int) < (k : Int)) = false := by simp; omega
              have e1' : ¬ (l.length : Int) < (k : Int) := by omega
              have e2 : decide ((k : Int) ≤ x) = true := by simp; omega
              have e2' : (k : Int) ≤ x := by omega
              go_wp2_with (fail)
              go_ret
              exact ⟨rfl, (kr.below (Nat.le_refl _) (fun _ _ e => e))⟩
          · have hpI : decide ((p : Int) < (l.length : Int)) = false := by simp; omega
            have hpJ : ¬ (p : Int) < (l.length : Int) := by omega
            have hmx := hSd (k) (Sd.of hW)
            have e1 : decide ((l.length : Int) < (k : Int)) = false := by simp; omega
            have e1' : ¬ (l.length : Int) < (k : Int) := by omega
            have e2 : decide ((k : Int) ≤ x) = true := by simp; omega
            have e2' : (k : Int) ≤ x := by omega
            go_wp2_with (fail)
            go_ret
            exact ⟨rfl, (kr.below (Nat.le_refl _) (fun _ _ e => e))⟩
  · have hb := hbad hg h0
    obtain ⟨rfl, rfl, rfl⟩ := hb
    have hb0 : (y == 0) = false := by simpa using h0
    have hb1 : (y != 0) = true := by simpa using h0
    clear hbad hway hok hg hl hBs
    go_wp2_with fail
    go_ret
    exact ⟨rfl, K0.below (Nat.le_refl _) (fun _ _ e => e)⟩
end Go.Proofs.YtkfeccocaokdlabDoor
