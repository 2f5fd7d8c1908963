import Derived.Test.YthmoimilhbmagabStreamSt
import Derived.Deep.RegionWith
import Derived.BigRegion
import Derived.Deep.CutBlock
namespace Go.Proofs.Ythmoimilhbmagab
open Go.ChangeShapes Go.WideShapes Go.ChangeAt Go.RowKit

set_option maxHeartbeats 40000000 in
set_option maxRecDepth 100000 in
theorem stream_walk (a c : Option Addr) (len cap tl tc : Nat) (x y : Nat → Int) (w : World) (hr : IsRaw w a len x) (ht : IsRaw w c tl y) (hy : ∀ i, i < tl → In64 (y i)) (hl : len ≤ 17592186044416) (htl : tl ≤ 17592186044416) :
    Calls Try.prog 3 #[.slice a len cap, .slice c tl tc] w fun e w' => e = .returned (.bool true) ∧ Below w.heap.size w w' := by
  have HR : Hid (IsRaw w a len x) := hr
  have HT : Hid (IsRaw w c tl y) := ht
  have HY : Hid (∀ i, i < tl → In64 (y i)) := hy
  clear hr ht hy
  go_enter Try.func3, Try.ntmps3
  go_wp2_with fail
  have hb0 : Below w.heap.size w (w.alloc (.cells #[.int .i64 3, .int .i64 1, .int .i64 4, .int .i64 1, .int .i64 5] 2)) := (Below.refl _ _).alloc (Nat.le_refl _) _
  have ho0 : ∀ i, i < 5 → (w.alloc (.cells #[.int .i64 3, .int .i64 1, .int .i64 4, .int .i64 1, .int .i64 5] 2)).cell? ⟨w.heap.size, i, none⟩ = some (.int .i64 (oth i)) := by
    intro i hi
    rw [alloc_cell]
    have h5 : i = 0 ∨ i = 1 ∨ i = 2 ∨ i = 3 ∨ i = 4 := by omega
    rcases h5 with h | h | h | h | h <;> subst h <;> rfl
  refine (newDraws_ex (HR.out.step hb0) hl (w.heap.size + 1) (by simp)).mono ?_
  rintro e w1 ⟨b0, rfl, hbb, hs1, hd1, hb1⟩
  have ho1 : ∀ i, i < 5 → w1.cell? ⟨w.heap.size, i, none⟩ = some (.int .i64 (oth i)) := fun i hi => by rw [hb1.cell (p := ⟨w.heap.size, i, none⟩) (by simp)]; exact ho0 i hi
  have hk1 : Below w.heap.size w w1 := hb0.trans (hb1.mono (by omega))
  have hbb' : b0 = w.heap.size + 2 := by omega
  subst hbb'
  have HO1 : Hid (∀ i, i < 5 → w1.cell? ⟨w.heap.size, i, none⟩ = some (.int .i64 (oth i))) := ho1
  have HK1 : Hid (Below w.heap.size w w1) := hk1
  have HD1 : Hid (IsDr w1 (w.heap.size + 2) (w.heap.size + 1) len x 0) := hd1
  have HS1 : Hid (w1.heap.size = w.heap.size + 3) := hs1
  clear hb0 ho0 hs1 hd1 hb1 ho1 hk1 hbb
  go_wp2_with fail
  refine (newDraws_ex (x := oth) (.inr ⟨w.heap.size, 0, rfl, by rw [HS1.out]; omega, fun i hi => by rw [Nat.zero_add]; exact HO1.out i hi⟩) (by omega) (w.heap.size + 3) HS1.out).mono ?_
  rintro e w2 ⟨b1, rfl, hbb, hs2, hd2, hb2⟩
  have hbb' : b1 = w.heap.size + 4 := by omega
  subst hbb'
  have hst := St.start (w := w) 25 26 (by omega) (HK1.out.trans (hb2.mono (by omega))) (HD1.out.keep hb2 (by omega) (by omega)) hd2 (fun i hi => by rw [hb2.cell (p := ⟨w.heap.size, i, none⟩) (by simp)]; exact HO1.out i hi)
  have HS2 : Hid (w2.heap.size = w.heap.size + 5) := hs2
  have HST : Hid (_) := hst
  clear hs2 hd2 hb2 hbb HO1 HK1 HD1 HS1 hst
  go_wp2
  rw [HS2.out]
  go_loopw [9] (fun i wr => ∃ j k0 k1 : Nat, j ≤ tl ∧ i = .int .i64 j ∧ St w w.heap.size len x k0 k1 k0 k1 wr) (fun i _ => tl - (intOf i).toNat)
  case atStart => exact ⟨0, 0, 0, Nat.zero_le _, rfl, HST.out⟩
  case round =>
    obtain ⟨j, k0, k1, hj, rfl, hst⟩ := hrel
    have H : Hid (St w w.heap.size len x k0 k1 k0 k1 wr) := hst
    have d0 := hst.d0
    have d1 := hst.d1
    have t0 := hst.t0
    have t1 := hst.t1
    have f0 := hst.f0
    have f1 := hst.f1
    have z0 := hst.z0
    have z1 := hst.z1
    have le0 := hst.s0.le
    have le1 := hst.s1.le
    have hbw := hst.below
    clear hst HST HS2
    by_cases hlt : j < tl
    · obtain ⟨bc, oc, rfl, hbc, hcc⟩ := HT.out.resolve_left (by omega)
      have cy := (hbw.cell (p := ⟨bc, oc + j, none⟩) hbc).trans (hcc j hlt)
      have iy := HY.out j hlt
      generalize y j = t at *
      clear hcc HY HT
      by_cases ht0 : t < 0
      · have y1 : -9223372036854775808 ≤ t := iy.1
        have iu0 : In64 (-(t + 1)) := by unfold In64; omega
        have hu0' : 0 ≤ -(t + 1) := by omega
        go_upto_region 13 with fail
        generalize -(t + 1) = U at *
        have iu : In64 U := iu0
        have hu0 : 0 ≤ U := hu0'
        clear iu0 hu0'
        by_cases uz : U = 0
        · subst uz
          by_cases hk : k1 < 5
          · skip
            have g1 : decide ((k1 : Int) < 5) = true := by simp; omega
            have co : wr.cell? ⟨w.heap.size, k1 % 5, none⟩ = some (.int .i64 (oth k1)) := by rw [Nat.mod_eq_of_lt hk]; exact H.out.other k1 hk
            go_wp2
            go_quiet (fail)
            go_wp2_with fail
            refine (next_some (St.s1 (St.at1 (H.out.drewN _))) hk).mono ?_
            rintro e w3 ⟨rfl, m, hw3⟩
            have h3 : St w w.heap.size len x k0 (k1 + 1) k0 (k1 + 1) w3 := by rw [hw3]; exact ((St.at1 (H.out.drewN _)).take1 hk).drewN m
            clear hw3 d0 d1 t0 t1 f0 f1 z0 z1 co hbw
            have d0' := h3.d0
            have d1' := h3.d1
            have t0' := h3.t0
            have t1' := h3.t1
            have z0' := h3.z0
            have z1' := h3.z1
            have H3 : Hid (St w w.heap.size len x k0 (k1 + 1) k0 (k1 + 1) w3) := h3
            clear h3
            go_wp2_with fail
            go_quiet (first | (go_at_call 10; exact Calls.quiet_of_same (below_low _ _ (by first | omega | exact hneg) _)) | (go_at_call 11; exact Calls.quiet_of_same (taken_any (H3.out.drewN _).s1)) | (go_at_call 12; exact Calls.quiet_of (left_any (H3.out.drewN _).s1)))
            go_wp2
            go_roundw
            case rel => exact ⟨j + 1, k0, k1 + 1, by omega, by go_num, H3.out.drewN _⟩
            case measure => simp [intOf]; omega
          · skip
            have g1 : decide ((k1 : Int) < ((5 : Int))) = false := by simp; omega
            have hkn : k1 = 5 := by omega
            have HKN : Hid (k1 = 5) := hkn
            clear hkn
            go_wp2
            go_quiet (fail)
            go_wp2_with fail
            refine (next_none (H.out.drewN _).s1 HKN.out).mono ?_
            rintro e w3 ⟨rfl, m, hw3⟩
            have h3 : St w w.heap.size len x k0 k1 k0 k1 w3 := by rw [hw3]; exact (H.out.drewN _).drewN m
            clear hw3 d0 d1 t0 t1 f0 f1 z0 z1  hbw
            have d0' := h3.d0
            have d1' := h3.d1
            have t0' := h3.t0
            have t1' := h3.t1
            have z0' := h3.z0
            have z1' := h3.z1
            have H3 : Hid (St w w.heap.size len x k0 k1 k0 k1 w3) := h3
            clear h3
            go_wp2_with fail
            go_quiet (first | (go_at_call 10; exact Calls.quiet_of_same (below_low _ _ (by first | omega | exact hneg) _)) | (go_at_call 11; exact Calls.quiet_of_same (taken_any (H3.out.drewN _).s1)) | (go_at_call 12; exact Calls.quiet_of (left_any (H3.out.drewN _).s1)))
            go_wp2
            go_roundw
            case rel => exact ⟨j + 1, k0, k1, by omega, by go_num, H3.out.drewN _⟩
            case measure => simp [intOf]; omega
        · by_cases u1 : U = 1
          · subst u1
            by_cases hk : k1 < 5
            · skip
              have g1 : decide ((k1 : Int) < (5 : Int)) = true := by simp; omega
              go_wp2
              go_quiet (fail)
              go_wp2_with fail
              have hg1 := H.out.drewN nq
              generalize wr.drewN nq = wg1 at *
              clear d0 d1 t0 t1 f0 f1 z0 z1 hbw
              have hbw := hg1.below
              have d0 := hg1.d0
              have d1 := hg1.d1
              have t0 := hg1.t0
              have t1 := hg1.t1
              have f0 := hg1.f0
              have f1 := hg1.f1
              have z0 := hg1.z0
              have z1 := hg1.z1
              have HG1 : Hid (St _ _ _ _ _ _ _ _ wg1) := hg1
              clear hg1
              go_quiet ((go_at_call 10; exact Calls.quiet_of_same (below_low _ _ (by omega) _)))
              go_wp2_with fail
              have hg2 := HG1.out.drewN nq
              generalize wg1.drewN nq = wg2 at *
              clear d0 d1 t0 t1 f0 f1 z0 z1 hbw
              have hbw := hg2.below
              have d0 := hg2.d0
              have d1 := hg2.d1
              have t0 := hg2.t0
              have t1 := hg2.t1
              have f0 := hg2.f0
              have f1 := hg2.f1
              have z0 := hg2.z0
              have z1 := hg2.z1
              have HG2 : Hid (St _ _ _ _ _ _ _ _ wg2) := hg2
              clear hg2
              go_quiet (first | (go_at_call 10; exact Calls.quiet_of_same (below_low _ _ (by first | omega | exact hneg) _)) | (go_at_call 11; exact Calls.quiet_of_same (taken_any (HG2.out.drewN _).s1)) | (go_at_call 12; exact Calls.quiet_of (left_any (HG2.out.drewN _).s1)))
              go_wp2
              go_roundw
              case rel => exact ⟨j + 1, k0, k1, by omega, by go_num, HG2.out.drewN _⟩
              case measure => simp [intOf]; omega
            · skip
              have g1 : decide ((k1 : Int) < (5 : Int)) = false := by simp; omega
              go_wp2
              go_quiet (fail)
              go_wp2_with fail
              have hg1 := H.out.drewN nq
              generalize wr.drewN nq = wg1 at *
              clear d0 d1 t0 t1 f0 f1 z0 z1 hbw
              have hbw := hg1.below
              have d0 := hg1.d0
              have d1 := hg1.d1
              have t0 := hg1.t0
              have t1 := hg1.t1
              have f0 := hg1.f0
              have f1 := hg1.f1
              have z0 := hg1.z0
              have z1 := hg1.z1
              have HG1 : Hid (St _ _ _ _ _ _ _ _ wg1) := hg1
              clear hg1
              go_quiet ((go_at_call 10; exact Calls.quiet_of_same (below_low _ _ (by omega) _)))
              go_wp2_with fail
              have hg2 := HG1.out.drewN nq
              generalize wg1.drewN nq = wg2 at *
              clear d0 d1 t0 t1 f0 f1 z0 z1 hbw
              have hbw := hg2.below
              have d0 := hg2.d0
              have d1 := hg2.d1
              have t0 := hg2.t0
              have t1 := hg2.t1
              have f0 := hg2.f0
              have f1 := hg2.f1
              have z0 := hg2.z0
              have z1 := hg2.z1
              have HG2 : Hid (St _ _ _ _ _ _ _ _ wg2) := hg2
              clear hg2
              go_quiet (first | (go_at_call 10; exact Calls.quiet_of_same (below_low _ _ (by first | omega | exact hneg) _)) | (go_at_call 11; exact Calls.quiet_of_same (taken_any (HG2.out.drewN _).s1)) | (go_at_call 12; exact Calls.quiet_of (left_any (HG2.out.drewN _).s1)))
              go_wp2
              go_roundw
              case rel => exact ⟨j + 1, k0, k1, by omega, by go_num, HG2.out.drewN _⟩
              case measure => simp [intOf]; omega
          · have hub : 1 < U := by omega
            have hz : ¬ (IntKind.u64.wrap U = 0) := by rw [IntKind.wrap_u64]; unfold In64 at iu; omega
            have e0 : (U == 0) = false := by simp; omega
            have e1 : (U != 1) = true := by simp; omega
            have iu2 : U ≤ 9223372036854775807 := by unfold In64 at iu; omega
            have hneg : IntKind.i64.wrap (-U) ≤ 1 := by rw [IntKind.wrap_i64]; omega
            by_cases hk : k1 < 5
            · skip
              have g1 : decide ((k1 : Int) < 5) = true := by simp; omega
              have co : wr.cell? ⟨w.heap.size, k1 % 5, none⟩ = some (.int .i64 (oth k1)) := by rw [Nat.mod_eq_of_lt hk]; exact H.out.other k1 hk
              have hcmp : (urem (oth k1) U != IntKind.i64.wrap ((IntKind.u64.wrap (oth k1)).tmod (IntKind.u64.wrap U))) = false := by unfold urem wrap64; rw [IntKind.wrap_i64]; simp
              go_wp2
              go_quiet (fail)
              go_wp2_with fail
              have hg1 := St.at1 (H.out.drewN nq)
              generalize (wr.drewN nq).setCell _ _ = wg1 at *
              clear d0 d1 t0 t1 f0 f1 z0 z1 hbw
              have hbw := hg1.below
              have d0 := hg1.d0
              have d1 := hg1.d1
              have t0 := hg1.t0
              have t1 := hg1.t1
              have f0 := hg1.f0
              have f1 := hg1.f1
              have z0 := hg1.z0
              have z1 := hg1.z1
              have HG1 : Hid (St _ _ _ _ _ _ _ _ wg1) := hg1
              clear hg1
              clear co
              go_region_with (go_at_call 10; refine (below_some (St.s1 HG1.out.drew) hk _ hub iu).mono ?_; rintro e w3 ⟨rfl, m, rfl⟩)
              go_simp
              go_wp2_with fail
              have hg2 := (HG1.out.take1 hk).drewN (1 + m)
              generalize (wg1.setCell _ _).drewN (1 + m) = wg2 at *
              clear d0 d1 t0 t1 f0 f1 z0 z1 hbw
              have hbw := hg2.below
              have d0 := hg2.d0
              have d1 := hg2.d1
              have t0 := hg2.t0
              have t1 := hg2.t1
              have f0 := hg2.f0
              have f1 := hg2.f1
              have z0 := hg2.z0
              have z1 := hg2.z1
              have HG2 : Hid (St _ _ _ _ _ _ _ _ wg2) := hg2
              clear hg2
              go_quiet (first | (go_at_call 10; exact Calls.quiet_of_same (below_low _ _ (by first | omega | exact hneg) _)) | (go_at_call 11; exact Calls.quiet_of_same (taken_any (HG2.out.drewN _).s1)) | (go_at_call 12; exact Calls.quiet_of (left_any (HG2.out.drewN _).s1)))
              go_wp2
              go_roundw
              case rel => exact ⟨j + 1, k0, k1 + 1, by omega, by go_num, HG2.out.drewN _⟩
              case measure => simp [intOf]; omega
            · skip
              have g1 : decide ((k1 : Int) < ((5 : Int))) = false := by simp; omega
              have hkn : k1 = 5 := by omega
              have HKN : Hid (k1 = 5) := hkn
              clear hkn
              go_wp2
              go_quiet (fail)
              go_wp2_with fail
              have hg1 := H.out.drewN nq
              generalize wr.drewN nq = wg1 at *
              clear d0 d1 t0 t1 f0 f1 z0 z1 hbw
              have hbw := hg1.below
              have d0 := hg1.d0
              have d1 := hg1.d1
              have t0 := hg1.t0
              have t1 := hg1.t1
              have f0 := hg1.f0
              have f1 := hg1.f1
              have z0 := hg1.z0
              have z1 := hg1.z1
              have HG1 : Hid (St _ _ _ _ _ _ _ _ wg1) := hg1
              clear hg1
              go_quiet ((go_at_call 10; exact Calls.quiet_of (below_none (HG1.out.drewN _).s1 HKN.out _ hub iu)))
              go_wp2_with fail
              have hg2 := HG1.out.drewN nq
              generalize wg1.drewN nq = wg2 at *
              clear d0 d1 t0 t1 f0 f1 z0 z1 hbw
              have hbw := hg2.below
              have d0 := hg2.d0
              have d1 := hg2.d1
              have t0 := hg2.t0
              have t1 := hg2.t1
              have f0 := hg2.f0
              have f1 := hg2.f1
              have z0 := hg2.z0
              have z1 := hg2.z1
              have HG2 : Hid (St _ _ _ _ _ _ _ _ wg2) := hg2
              clear hg2
              go_quiet (first | (go_at_call 10; exact Calls.quiet_of_same (below_low _ _ (by first | omega | exact hneg) _)) | (go_at_call 11; exact Calls.quiet_of_same (taken_any (HG2.out.drewN _).s1)) | (go_at_call 12; exact Calls.quiet_of (left_any (HG2.out.drewN _).s1)))
              go_wp2
              go_roundw
              case rel => exact ⟨j + 1, k0, k1, by omega, by go_num, HG2.out.drewN _⟩
              case measure => simp [intOf]; omega
      · have iu : In64 t := iy
        have hu0 : 0 ≤ t := by omega
        clear iy
        by_cases uz : t = 0
        · subst uz
          by_cases hk : k0 < len
          · skip
            have g1 : decide ((k0 : Int) < (len : Int)) = true := by simp; omega
            obtain ⟨br, orr, rfl, hbr, hcr⟩ := HR.out.resolve_left (by omega)
            have cx := (hbw.cell (p := ⟨br, orr + k0, none⟩) hbr).trans (hcr k0 hk)
            clear hcr
            have co := H.out.other (k0 % 5) (by omega)
            go_wp2
            go_quiet (fail)
            go_wp2_with fail
            refine (next_some (St.s0 (St.at0 (H.out.drewN _))) hk).mono ?_
            rintro e w3 ⟨rfl, m, hw3⟩
            have h3 : St w w.heap.size len x (k0 + 1) k1 (k0 + 1) k1 w3 := by rw [hw3]; exact ((St.at0 (H.out.drewN _)).take0 hk).drewN m
            clear hw3 d0 d1 t0 t1 f0 f1 z0 z1 co hbw
            have d0' := h3.d0
            have d1' := h3.d1
            have t0' := h3.t0
            have t1' := h3.t1
            have z0' := h3.z0
            have z1' := h3.z1
            have H3 : Hid (St w w.heap.size len x (k0 + 1) k1 (k0 + 1) k1 w3) := h3
            clear h3
            go_wp2_with fail
            go_quiet (first | (go_at_call 10; exact Calls.quiet_of_same (below_low _ _ (by first | omega | exact hneg) _)) | (go_at_call 11; exact Calls.quiet_of_same (taken_any (H3.out.drewN _).s0)) | (go_at_call 12; exact Calls.quiet_of (left_any (H3.out.drewN _).s0)))
            go_wp2
            go_roundw
            case rel => exact ⟨j + 1, k0 + 1, k1, by omega, by go_num, H3.out.drewN _⟩
            case measure => simp [intOf]; omega
          · skip
            have g1 : decide ((k0 : Int) < (len)) = false := by simp; omega
            have hkn : k0 = len := by omega
            have HKN : Hid (k0 = len) := hkn
            clear hkn
            go_wp2
            go_quiet (fail)
            go_wp2_with fail
            refine (next_none (H.out.drewN _).s0 HKN.out).mono ?_
            rintro e w3 ⟨rfl, m, hw3⟩
            have h3 : St w w.heap.size len x k0 k1 k0 k1 w3 := by rw [hw3]; exact (H.out.drewN _).drewN m
            clear hw3 d0 d1 t0 t1 f0 f1 z0 z1  hbw
            have d0' := h3.d0
            have d1' := h3.d1
            have t0' := h3.t0
            have t1' := h3.t1
            have z0' := h3.z0
            have z1' := h3.z1
            have H3 : Hid (St w w.heap.size len x k0 k1 k0 k1 w3) := h3
            clear h3
            go_wp2_with fail
            go_quiet (first | (go_at_call 10; exact Calls.quiet_of_same (below_low _ _ (by first | omega | exact hneg) _)) | (go_at_call 11; exact Calls.quiet_of_same (taken_any (H3.out.drewN _).s0)) | (go_at_call 12; exact Calls.quiet_of (left_any (H3.out.drewN _).s0)))
            go_wp2
            go_roundw
            case rel => exact ⟨j + 1, k0, k1, by omega, by go_num, H3.out.drewN _⟩
            case measure => simp [intOf]; omega
        · by_cases u1 : t = 1
          · subst u1
            by_cases hk : k0 < len
            · skip
              have g1 : decide ((k0 : Int) < (len : Int)) = true := by simp; omega
              go_wp2
              go_quiet (fail)
              go_wp2_with fail
              have hg1 := H.out.drewN nq
              generalize wr.drewN nq = wg1 at *
              clear d0 d1 t0 t1 f0 f1 z0 z1 hbw
              have hbw := hg1.below
              have d0 := hg1.d0
              have d1 := hg1.d1
              have t0 := hg1.t0
              have t1 := hg1.t1
              have f0 := hg1.f0
              have f1 := hg1.f1
              have z0 := hg1.z0
              have z1 := hg1.z1
              have HG1 : Hid (St _ _ _ _ _ _ _ _ wg1) := hg1
              clear hg1
              go_quiet ((go_at_call 10; exact Calls.quiet_of_same (below_low _ _ (by omega) _)))
              go_wp2_with fail
              have hg2 := HG1.out.drewN nq
              generalize wg1.drewN nq = wg2 at *
              clear d0 d1 t0 t1 f0 f1 z0 z1 hbw
              have hbw := hg2.below
              have d0 := hg2.d0
              have d1 := hg2.d1
              have t0 := hg2.t0
              have t1 := hg2.t1
              have f0 := hg2.f0
              have f1 := hg2.f1
              have z0 := hg2.z0
              have z1 := hg2.z1
              have HG2 : Hid (St _ _ _ _ _ _ _ _ wg2) := hg2
              clear hg2
              go_quiet (first | (go_at_call 10; exact Calls.quiet_of_same (below_low _ _ (by first | omega | exact hneg) _)) | (go_at_call 11; exact Calls.quiet_of_same (taken_any (HG2.out.drewN _).s0)) | (go_at_call 12; exact Calls.quiet_of (left_any (HG2.out.drewN _).s0)))
              go_wp2
              go_roundw
              case rel => exact ⟨j + 1, k0, k1, by omega, by go_num, HG2.out.drewN _⟩
              case measure => simp [intOf]; omega
            · skip
              have g1 : decide ((k0 : Int) < (len : Int)) = false := by simp; omega
              go_wp2
              go_quiet (fail)
              go_wp2_with fail
              have hg1 := H.out.drewN nq
              generalize wr.drewN nq = wg1 at *
              clear d0 d1 t0 t1 f0 f1 z0 z1 hbw
              have hbw := hg1.below
              have d0 := hg1.d0
              have d1 := hg1.d1
              have t0 := hg1.t0
              have t1 := hg1.t1
              have f0 := hg1.f0
              have f1 := hg1.f1
              have z0 := hg1.z0
              have z1 := hg1.z1
              have HG1 : Hid (St _ _ _ _ _ _ _ _ wg1) := hg1
              clear hg1
              go_quiet ((go_at_call 10; exact Calls.quiet_of_same (below_low _ _ (by omega) _)))
              go_wp2_with fail
              have hg2 := HG1.out.drewN nq
              generalize wg1.drewN nq = wg2 at *
              clear d0 d1 t0 t1 f0 f1 z0 z1 hbw
              have hbw := hg2.below
              have d0 := hg2.d0
              have d1 := hg2.d1
              have t0 := hg2.t0
              have t1 := hg2.t1
              have f0 := hg2.f0
              have f1 := hg2.f1
              have z0 := hg2.z0
              have z1 := hg2.z1
              have HG2 : Hid (St _ _ _ _ _ _ _ _ wg2) := hg2
              clear hg2
              go_quiet (first | (go_at_call 10; exact Calls.quiet_of_same (below_low _ _ (by first | omega | exact hneg) _)) | (go_at_call 11; exact Calls.quiet_of_same (taken_any (HG2.out.drewN _).s0)) | (go_at_call 12; exact Calls.quiet_of (left_any (HG2.out.drewN _).s0)))
              go_wp2
              go_roundw
              case rel => exact ⟨j + 1, k0, k1, by omega, by go_num, HG2.out.drewN _⟩
              case measure => simp [intOf]; omega
          · have hub : 1 < t := by omega
            have hz : ¬ (IntKind.u64.wrap t = 0) := by rw [IntKind.wrap_u64]; unfold In64 at iu; omega
            have e0 : (t == 0) = false := by simp; omega
            have e1 : (t != 1) = true := by simp; omega
            have iu2 : t ≤ 9223372036854775807 := by unfold In64 at iu; omega
            have hneg : IntKind.i64.wrap (-t) ≤ 1 := by rw [IntKind.wrap_i64]; omega
            by_cases hk : k0 < len
            · skip
              have g1 : decide ((k0 : Int) < (len : Int)) = true := by simp; omega
              obtain ⟨br, orr, rfl, hbr, hcr⟩ := HR.out.resolve_left (by omega)
              have cx := (hbw.cell (p := ⟨br, orr + k0, none⟩) hbr).trans (hcr k0 hk)
              clear hcr
              have co := H.out.other (k0 % 5) (by omega)
              have hcmp : (urem (x k0) t != IntKind.i64.wrap ((IntKind.u64.wrap (x k0)).tmod (IntKind.u64.wrap t))) = false := by unfold urem wrap64; rw [IntKind.wrap_i64]; simp
              go_wp2
              go_quiet (fail)
              go_wp2_with fail
              have hg1 := St.at0 (H.out.drewN nq)
              generalize (wr.drewN nq).setCell _ _ = wg1 at *
              clear d0 d1 t0 t1 f0 f1 z0 z1 hbw
              have hbw := hg1.below
              have d0 := hg1.d0
              have d1 := hg1.d1
              have t0 := hg1.t0
              have t1 := hg1.t1
              have f0 := hg1.f0
              have f1 := hg1.f1
              have z0 := hg1.z0
              have z1 := hg1.z1
              have HG1 : Hid (St _ _ _ _ _ _ _ _ wg1) := hg1
              clear hg1
              clear co
              go_region_with (go_at_call 10; refine (below_some (St.s0 HG1.out.drew) hk _ hub iu).mono ?_; rintro e w3 ⟨rfl, m, rfl⟩)
              go_simp
              go_wp2_with fail
              have hg2 := (HG1.out.take0 hk).drewN (1 + m)
              generalize (wg1.setCell _ _).drewN (1 + m) = wg2 at *
              clear d0 d1 t0 t1 f0 f1 z0 z1 hbw
              have hbw := hg2.below
              have d0 := hg2.d0
              have d1 := hg2.d1
              have t0 := hg2.t0
              have t1 := hg2.t1
              have f0 := hg2.f0
              have f1 := hg2.f1
              have z0 := hg2.z0
              have z1 := hg2.z1
              have HG2 : Hid (St _ _ _ _ _ _ _ _ wg2) := hg2
              clear hg2
              go_quiet (first | (go_at_call 10; exact Calls.quiet_of_same (below_low _ _ (by first | omega | exact hneg) _)) | (go_at_call 11; exact Calls.quiet_of_same (taken_any (HG2.out.drewN _).s0)) | (go_at_call 12; exact Calls.quiet_of (left_any (HG2.out.drewN _).s0)))
              go_wp2
              go_roundw
              case rel => exact ⟨j + 1, k0 + 1, k1, by omega, by go_num, HG2.out.drewN _⟩
              case measure => simp [intOf]; omega
            · skip
              have g1 : decide ((k0 : Int) < (len)) = false := by simp; omega
              have hkn : k0 = len := by omega
              have HKN : Hid (k0 = len) := hkn
              clear hkn
              go_wp2
              go_quiet (fail)
              go_wp2_with fail
              have hg1 := H.out.drewN nq
              generalize wr.drewN nq = wg1 at *
              clear d0 d1 t0 t1 f0 f1 z0 z1 hbw
              have hbw := hg1.below
              have d0 := hg1.d0
              have d1 := hg1.d1
              have t0 := hg1.t0
              have t1 := hg1.t1
              have f0 := hg1.f0
              have f1 := hg1.f1
              have z0 := hg1.z0
              have z1 := hg1.z1
              have HG1 : Hid (St _ _ _ _ _ _ _ _ wg1) := hg1
              clear hg1
              go_quiet ((go_at_call 10; exact Calls.quiet_of (below_none (HG1.out.drewN _).s0 HKN.out _ hub iu)))
              go_wp2_with fail
              have hg2 := HG1.out.drewN nq
              generalize wg1.drewN nq = wg2 at *
              clear d0 d1 t0 t1 f0 f1 z0 z1 hbw
              have hbw := hg2.below
              have d0 := hg2.d0
              have d1 := hg2.d1
              have t0 := hg2.t0
              have t1 := hg2.t1
              have f0 := hg2.f0
              have f1 := hg2.f1
              have z0 := hg2.z0
              have z1 := hg2.z1
              have HG2 : Hid (St _ _ _ _ _ _ _ _ wg2) := hg2
              clear hg2
              go_quiet (first | (go_at_call 10; exact Calls.quiet_of_same (below_low _ _ (by first | omega | exact hneg) _)) | (go_at_call 11; exact Calls.quiet_of_same (taken_any (HG2.out.drewN _).s0)) | (go_at_call 12; exact Calls.quiet_of (left_any (HG2.out.drewN _).s0)))
              go_wp2
              go_roundw
              case rel => exact ⟨j + 1, k0, k1, by omega, by go_num, HG2.out.drewN _⟩
              case measure => simp [intOf]; omega
    · have hjt : decide ((j : Int) < (tl : Int)) = false := by simp; omega
      by_cases hk : 0 < k1
      · have g1 : decide ((0 : Int) < (k1 : Int)) = true := by simp; omega
        go_wp2
        go_quiet ((go_at_call 12; exact Calls.quiet_of (left_any (H.out.drewN _).s1)))
        go_wp2
        go_ret
        exact ⟨rfl, (H.out.drewN _).below⟩
      · have g1 : decide ((0 : Int) < (k1 : Int)) = false := by simp; omega
        have o3 : (oth k1 == 3) = true := by have hk0 : k1 = 0 := by omega
                                             subst hk0; rfl
        have hk5 : k1 < 5 := by omega
        have q1 : ((5 : Int) - (k1 : Int) == IntKind.i64.wrap ((5 : Int) - (k1 : Int))) = true := by rw [IntKind.wrap_i64]; simp; omega
        go_wp2
        go_region_with (first | (go_at_call 12; refine (left_any (St.s1 H.out.drew)).mono ?_; rintro e w3 ⟨rfl, m, rfl⟩) | (go_at_call 9; refine (next_some (H.out.drewN _).s1 hk5).mono ?_; rintro e w3 ⟨rfl, m', rfl⟩))
        all_goals
          go_simp
          go_wp2
          go_ret
          exact ⟨rfl, (((H.out.drewN _).take1 hk5).drewN _).below⟩
end Go.Proofs.Ythmoimilhbmagab
