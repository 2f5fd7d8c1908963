import Derived.Test.YtlglhmmlebjidaaLjC
namespace Go.Proofs.Ytlglhmmlebjidaa
open Go.RowKit
theorem rise_does {S : List Int} {c : Cl} (h : Rise S) : Rise (doesL S c).2.2 := by
  unfold doesL
  split
  · exact rise_with h
  split
  · exact rise_wout h
  split
  · exact h
  split
  · cases S with
    | nil => exact h
    | cons x T => exact rise_wout h
  split
  · exact h
  split
  · exact h
  · exact rise_with (rise_wout h)
theorem rise_setK (l : List Cl) (L : List Nat) : ∀ k, Rise (setK l L k)
  | 0 => List.Pairwise.nil
  | k + 1 => rise_does (rise_setK l L k)
def KeB (l : List Cl) (w w' : World) (v : Value) (ec : Int) : Prop := (ec = 0 ∧ MayL l ∧ ∃ sa sc, v = .slice sa (keyL l).length sc ∧ KL w' sa (keyL l) ∧ ∀ b off, sa = some ⟨b, off, none⟩ → w.heap.size ≤ b) ∨ (ec = 171 ∧ ¬ MayL l ∧ v = .slice none 0 0)
set_option maxHeartbeats 1000000 in
set_option maxRecDepth 100000 in
theorem rbyPoints_any {w : World} {a : Option Addr} {cap : Nat} {l : List Cl} (hl : CSL w a l) (hn : l.length ≤ 2199023255552) : Calls Try.prog 19 #[.slice a l.length cap] w fun e w' => ∃ r ec, e = .returned (.tuple #[.int .i64 r, .int .i64 ec]) ∧ BpA l r ec ∧ Keeps (fun _ => False) w w' := by
  have hor := rmay_any (cap := cap) hl hn
  have HBY : Hid (∀ W, MayL l → Keeps (fun _ => False) w W → Calls Try.prog 31 #[.slice a l.length cap] W fun e w' => ∃ v, e = .returned v ∧ w'.ownsRow W.heap.size 3 1 v (byP l l.length).length (pvs (byP l l.length)) ∧ Keeps (fun _ => False) W w') := fun W hM k => rbyPoint_any (hl.keep k) hn hM
  have HL : Hid (CSL w a l) := hl
  clear hl
  generalize hN : l.length = N at *
  have HN : Hid (l.length = N) := hN
  clear hN
  go_enter Try.func19, Try.ntmps19
  refine wp_seq_k (fun KK hKK => ?_)
  have hKH : Hid _ := hKK
  clear hKK
  go_wp2_with fail
  refine hKH.out _ _ ?_
  clear hKH KK
  refine wp_seq_k (fun KK hKK => ?_)
  have hKH : Hid _ := hKK
  clear hKK
  go_wp2_with (go_at_call 30; refine hor.mono ?_; clear hor; rintro e w1 ⟨mb, rfl, hP, k1⟩; have HP : Hid (mb = true ↔ MayL l) := hP; clear hP)
  refine hKH.out _ _ ?_
  clear hKH KK
  cases mb with
  | false =>
    have HM : Hid (¬ MayL l) := fun h => by have := HP.out.2 h; cases this
    go_wp2_with fail
    go_ret2
    exact ⟨_, _, rfl, .inr ⟨rfl, HM.out, rfl⟩, k1⟩
  | true =>
    have HM : Hid (MayL l) := HP.out.1 rfl
    have hby := HBY.out w1 HM.out k1
    have HB : Hid ((byP l l.length).length ≤ N) := by show _ ≤ _; rw [HN.out]; exact byP_len l N
    have HMB : Hid (∀ i ∈ byP l l.length, i < N) := fun i hi => by rw [← HN.out]; exact ((mem_byP l _ i).1 hi).1
    have HR : Hid (∀ W' r, BpP l (byP l l.length) r → Keeps (fun _ => False) w W' → ∃ r' ec, Ending.returned (.tuple #[.int .i64 r, .int .i64 0]) = Ending.returned (.tuple #[.int .i64 r', .int .i64 ec]) ∧ BpA l r' ec ∧ Keeps (fun _ => False) w W') := fun W' r h k => ⟨r, 0, rfl, .inl ⟨rfl, HM.out, h⟩, k⟩
    rw [← HN.out] at hby
    clear HP HBY
    generalize byP l l.length = L at *
    rw [HN.out] at hby
    have hBN := HB.out
    generalize hM : L.length = M at *
    have HML : Hid (L.length = M) := hM
    clear hM
    go_wp2_with (go_at_call 31; refine hby.mono ?_; clear hby; rintro e w2 ⟨v, rfl, hO, k2⟩; obtain ⟨al, cl, rfl, hcell, -, -⟩ := own_slice hO; have HCE : Hid (∀ j, j < M → ∃ g, al = some ⟨g, 0, none⟩ ∧ w2.cell? ⟨g, j, none⟩ = some (.int .i64 ((L.getD j 0 : Nat) : Int))) := fun j hj => hcell j _ (pvs_get (by rw [HML.out]; exact hj)); clear hO hcell)
    have K2 := k1.trans k2
    clear k1 k2
    go_loopw [5, 7] (fun sv iv Wr => ∃ (k : Nat) (sa : Option Addr) (sc : Nat), iv = .int .i64 (k : Int) ∧ k ≤ M ∧ sv = .slice sa (setK l L k).length sc ∧ (∀ j, j < k → goK l L j = true) ∧ KL Wr sa (setK l L k) ∧ Keeps (fun _ => False) w2 Wr) (fun _ iv _ => M - (intOf iv).toNat)
    case atStart => exact ⟨0, none, 0, rfl, Nat.zero_le _, rfl, fun j hj => absurd hj (by omega), fun i hi => absurd hi (by simp [setK]), Keeps.refl _ _⟩
    case round =>
      obtain ⟨k, sa, sc, rfl, hk, rfl, hal, hks, kr⟩ := hrel
      have HAL : Hid (∀ j, j < k → goK l L j = true) := hal
      clear hal
      have HKS : Hid (KL wr sa (setK l L k)) := hks
      clear hks
      have Kwr := K2.trans kr
      by_cases hlt : k < M
      · have j1 : decide ((k : Int) < (M : Int)) = true := decide_eq_true (by omega)
        have j2 : decide (k < M) = true := decide_eq_true hlt
        have j3 : (k : Int) < (M : Int) := by omega
        have j4 : (0 : Int) ≤ (k : Int) := by omega
        have hwi : IntKind.i64.wrap ((k : Int) + 1) = (k : Int) + 1 := by rw [IntKind.wrap_i64]; omega
        obtain ⟨g, rfl, hg⟩ := HCE.out k hlt
        have c0 := kr.cell hg (fun e => e)
        have hpN : L.getD k 0 < N := HMB.out _ (by rw [List.getD_eq_getElem?_getD, List.getElem?_eq_getElem (by rw [HML.out]; exact hlt)]; exact List.getElem_mem _)
        obtain ⟨b, off, rfl, hc⟩ := HL.out (L.getD k 0) (by rw [HN.out]; exact hpN)
        have hR := run_cl (W := wr) (fun j v e => Kwr.cell (hc j v e) (fun e => e))
        have hp1 : ((L.getD k 0 : Nat) : Int) < (N : Int) := by omega
        have hsl : (setK l L k).length ≤ 17592186043000 := Nat.le_trans (setK_len l L k) (by omega)
        have HDO : Hid (∀ W, Keeps (fun _ => False) wr W → Calls Try.prog 32 #[.slice sa (setK l L k).length sc, .agg (l.getD (L.getD k 0) cl0).cells.toArray] W (DoP (setK l L k) (l.getD (L.getD k 0) cl0) sa W)) := fun W kW => rdoes_any (HKS.out.keep kW) (rise_setK l L k) hsl _
        have HNS : Hid (setK l L (k + 1) = (doesL (setK l L k) (l.getD (L.getD k 0) cl0)).2.2) := rfl
        have HGK : Hid (goK l L k = goesP (l.getD (L.getD k 0) cl0) (doesL (setK l L k) (l.getD (L.getD k 0) cl0)).1 (doesL (setK l L k) (l.getD (L.getD k 0) cl0)).2.1) := rfl
        have HALN : Hid (goK l L k = true → ∀ j, j < k + 1 → goK l L j = true) := fun h j hj => by
          by_cases e : j = k
          · rw [e]; exact h
          · exact HAL.out j (by omega)
        clear hc hg hsl
        generalize hp : L.getD k 0 = p at *
        have HPP : Hid (L.getD k 0 = p) := hp
        clear hp
        generalize l.getD p cl0 = c at *
        unfold DoP at HDO
        generalize (doesL (setK l L k) c).1 = yy at *
        generalize (doesL (setK l L k) c).2.1 = rr at *
        obtain ⟨W4, hW4⟩ : ∃ W4, W4 = wr.alloc (.cells #[.int .i64 0, .int .i64 0, .int .i64 0, .bool false, .int .i64 0, .int .i64 0, .int .i64 0, .int .i64 0] 40) := ⟨_, rfl⟩
        have k4 : Keeps (fun _ => False) wr W4 := by rw [hW4]; exact (Keeps.refl _ wr).alloc _
        have hU4 : CL W4 wr.heap.size cl0.cells := by rw [hW4]; exact CL.made wr cl0.cells _
        have HW4 : Hid (W4 = wr.alloc (.cells #[.int .i64 0, .int .i64 0, .int .i64 0, .bool false, .int .i64 0, .int .i64 0, .int .i64 0, .int .i64 0] 40)) := hW4
        clear hW4
        have hOC := all_oneCell_cl c
        have HGF : Hid (goK l L k = false → BpP l L (p : Int)) := fun h => .inl ⟨k, by rw [HML.out]; exact hlt, HAL.out, h, by rw [HPP.out]⟩
        by_cases ht : c.to_ = -1
        · have t1 : (c.to_ != -1) = false := by simp [ht]
          have han : ansD c = false := by unfold ansD; exact t1
          clear ht
          go_wp2_with (first | (refine wpList_load_runL rfl 40 _ rfl ⟨b, off + p * 8, none⟩ rfl _ hR ?_; clear hR) | (rw [← HW4.out]; clear HW4; refine wpList_store_cl rfl 40 _ _ rfl wr.heap.size 0 8 _ rfl rfl rfl hU4 (by show 8 ≤ 8; decide) iCl hOC ?_; intro w5 hc5 k5 hsz5; clear hsz5; have hI5 : CL w5 wr.heap.size c.cells := hc5; clear hc5; have K45 : Keeps (fun _ => False) wr w5 := k4.trans' k5 (fun _ _ e => e) (fun i hi e => (by have e : i = wr.heap.size := e; omega)); clear k4 k5 hU4; have HR5 := run_clB hI5; have hdo := HDO.out w5 K45; clear HDO) | (refine wpList_load_runL rfl 40 _ rfl ⟨wr.heap.size, 0, none⟩ rfl _ HR5 ?_; clear HR5) | (go_at_call 32; refine hdo.mono ?_; clear hdo; rintro e w6 ⟨sa2, sc2, rfl, hk6, k6, hb6⟩; have HK6 : Hid (KL w6 sa2 (doesL (setK l L k) c).2.2) := hk6; clear hk6; have c7 : w6.cell? ⟨wr.heap.size, 7, none⟩ = some (.int .i64 c.to_) := (hI5.keep (by show 0 < 8; decide) k6 (fun e => e)).c 7 _ rfl; have c3 : w6.cell? ⟨wr.heap.size, 3, none⟩ = some (.bool c.yes) := (hI5.keep (by show 0 < 8; decide) k6 (fun e => e)).c 3 _ rfl; have c4 : w6.cell? ⟨wr.heap.size, 4, none⟩ = some (.int .i64 c.result) := (hI5.keep (by show 0 < 8; decide) k6 (fun e => e)).c 4 _ rfl; have cg := (K45.trans k6).cell c0 (fun e => e); have KW := (K45.trans k6)))
          go_roundw
          case rel => exact ⟨k + 1, sa2, sc2, by go_num, by omega, by rw [HNS.out], HALN.out (by rw [HGK.out]; unfold goesP; simp [han]), by rw [HNS.out]; exact HK6.out, kr.trans KW⟩
          case measure => simp [intOf]; omega
        · have t1 : (c.to_ != -1) = true := by simp [ht]
          have han : ansD c = true := by unfold ansD; exact t1
          clear ht
          by_cases hy : yy = c.yes
          · subst hy
            have y1 : (c.yes != c.yes) = false := by simp
            by_cases hr : rr = c.result
            · have r1 : (rr != c.result) = false := by simp [hr]
              have HYR : Hid (rr = c.result) := hr
              clear hr
              go_wp2_with (first | (refine wpList_load_runL rfl 40 _ rfl ⟨b, off + p * 8, none⟩ rfl _ hR ?_; clear hR) | (rw [← HW4.out]; clear HW4; refine wpList_store_cl rfl 40 _ _ rfl wr.heap.size 0 8 _ rfl rfl rfl hU4 (by show 8 ≤ 8; decide) iCl hOC ?_; intro w5 hc5 k5 hsz5; clear hsz5; have hI5 : CL w5 wr.heap.size c.cells := hc5; clear hc5; have K45 : Keeps (fun _ => False) wr w5 := k4.trans' k5 (fun _ _ e => e) (fun i hi e => (by have e : i = wr.heap.size := e; omega)); clear k4 k5 hU4; have HR5 := run_clB hI5; have hdo := HDO.out w5 K45; clear HDO) | (refine wpList_load_runL rfl 40 _ rfl ⟨wr.heap.size, 0, none⟩ rfl _ HR5 ?_; clear HR5) | (go_at_call 32; refine hdo.mono ?_; clear hdo; rintro e w6 ⟨sa2, sc2, rfl, hk6, k6, hb6⟩; have HK6 : Hid (KL w6 sa2 (doesL (setK l L k) c).2.2) := hk6; clear hk6; have c7 : w6.cell? ⟨wr.heap.size, 7, none⟩ = some (.int .i64 c.to_) := (hI5.keep (by show 0 < 8; decide) k6 (fun e => e)).c 7 _ rfl; have c3 : w6.cell? ⟨wr.heap.size, 3, none⟩ = some (.bool c.yes) := (hI5.keep (by show 0 < 8; decide) k6 (fun e => e)).c 3 _ rfl; have c4 : w6.cell? ⟨wr.heap.size, 4, none⟩ = some (.int .i64 c.result) := (hI5.keep (by show 0 < 8; decide) k6 (fun e => e)).c 4 _ rfl; have cg := (K45.trans k6).cell c0 (fun e => e); have KW := (K45.trans k6)))
              go_roundw
              case rel => exact ⟨k + 1, sa2, sc2, by go_num, by omega, by rw [HNS.out], HALN.out (by rw [HGK.out]; unfold goesP; simp [HYR.out]), by rw [HNS.out]; exact HK6.out, kr.trans KW⟩
              case measure => simp [intOf]; omega
            · have r1 : (rr != c.result) = true := by simp [hr]
              have HYR : Hid (¬ rr = c.result) := hr
              clear hr
              have HB : Hid (BpP l L (p : Int)) := HGF.out (by rw [HGK.out]; unfold goesP; simp [han, HYR.out])
              go_wp2_with (first | (refine wpList_load_runL rfl 40 _ rfl ⟨b, off + p * 8, none⟩ rfl _ hR ?_; clear hR) | (rw [← HW4.out]; clear HW4; refine wpList_store_cl rfl 40 _ _ rfl wr.heap.size 0 8 _ rfl rfl rfl hU4 (by show 8 ≤ 8; decide) iCl hOC ?_; intro w5 hc5 k5 hsz5; clear hsz5; have hI5 : CL w5 wr.heap.size c.cells := hc5; clear hc5; have K45 : Keeps (fun _ => False) wr w5 := k4.trans' k5 (fun _ _ e => e) (fun i hi e => (by have e : i = wr.heap.size := e; omega)); clear k4 k5 hU4; have HR5 := run_clB hI5; have hdo := HDO.out w5 K45; clear HDO) | (refine wpList_load_runL rfl 40 _ rfl ⟨wr.heap.size, 0, none⟩ rfl _ HR5 ?_; clear HR5) | (go_at_call 32; refine hdo.mono ?_; clear hdo; rintro e w6 ⟨sa2, sc2, rfl, hk6, k6, hb6⟩; have HK6 : Hid (KL w6 sa2 (doesL (setK l L k) c).2.2) := hk6; clear hk6; have c7 : w6.cell? ⟨wr.heap.size, 7, none⟩ = some (.int .i64 c.to_) := (hI5.keep (by show 0 < 8; decide) k6 (fun e => e)).c 7 _ rfl; have c3 : w6.cell? ⟨wr.heap.size, 3, none⟩ = some (.bool c.yes) := (hI5.keep (by show 0 < 8; decide) k6 (fun e => e)).c 3 _ rfl; have c4 : w6.cell? ⟨wr.heap.size, 4, none⟩ = some (.int .i64 c.result) := (hI5.keep (by show 0 < 8; decide) k6 (fun e => e)).c 4 _ rfl; have cg := (K45.trans k6).cell c0 (fun e => e); have KW := (K45.trans k6)))
              go_ret2
              exact HR.out _ _ HB.out (Kwr.trans KW)
          · have y1 : (yy != c.yes) = true := by simp [hy]
            have HYR : Hid (¬ yy = c.yes) := hy
            clear hy
            have HB : Hid (BpP l L (p : Int)) := HGF.out (by rw [HGK.out]; unfold goesP; simp [han, HYR.out])
            go_wp2_with (first | (refine wpList_load_runL rfl 40 _ rfl ⟨b, off + p * 8, none⟩ rfl _ hR ?_; clear hR) | (rw [← HW4.out]; clear HW4; refine wpList_store_cl rfl 40 _ _ rfl wr.heap.size 0 8 _ rfl rfl rfl hU4 (by show 8 ≤ 8; decide) iCl hOC ?_; intro w5 hc5 k5 hsz5; clear hsz5; have hI5 : CL w5 wr.heap.size c.cells := hc5; clear hc5; have K45 : Keeps (fun _ => False) wr w5 := k4.trans' k5 (fun _ _ e => e) (fun i hi e => (by have e : i = wr.heap.size := e; omega)); clear k4 k5 hU4; have HR5 := run_clB hI5; have hdo := HDO.out w5 K45; clear HDO) | (refine wpList_load_runL rfl 40 _ rfl ⟨wr.heap.size, 0, none⟩ rfl _ HR5 ?_; clear HR5) | (go_at_call 32; refine hdo.mono ?_; clear hdo; rintro e w6 ⟨sa2, sc2, rfl, hk6, k6, hb6⟩; have HK6 : Hid (KL w6 sa2 (doesL (setK l L k) c).2.2) := hk6; clear hk6; have c7 : w6.cell? ⟨wr.heap.size, 7, none⟩ = some (.int .i64 c.to_) := (hI5.keep (by show 0 < 8; decide) k6 (fun e => e)).c 7 _ rfl; have c3 : w6.cell? ⟨wr.heap.size, 3, none⟩ = some (.bool c.yes) := (hI5.keep (by show 0 < 8; decide) k6 (fun e => e)).c 3 _ rfl; have c4 : w6.cell? ⟨wr.heap.size, 4, none⟩ = some (.int .i64 c.result) := (hI5.keep (by show 0 < 8; decide) k6 (fun e => e)).c 4 _ rfl; have cg := (K45.trans k6).cell c0 (fun e => e); have KW := (K45.trans k6)))
            go_ret2
            exact HR.out _ _ HB.out (Kwr.trans KW)
      · have j1 : decide ((k : Int) < (M : Int)) = false := decide_eq_false (by omega)
        have j2 : decide (k < M) = false := decide_eq_false hlt
        have HB : Hid (BpP l L (-1)) := .inr ⟨fun j hj => HAL.out j (by rw [HML.out] at hj; omega), rfl⟩
        go_wp2_with fail
        go_ret2
        exact HR.out _ _ HB.out Kwr
set_option maxHeartbeats 1000000 in
set_option maxRecDepth 100000 in
theorem rkeys_any {w : World} {a : Option Addr} {cap : Nat} {l : List Cl} (hl : CSL w a l) (hn : l.length ≤ 2199023255552) : Calls Try.prog 20 #[.slice a l.length cap] w fun e w' => ∃ v ec, e = .returned (.tuple #[v, .int .i64 ec]) ∧ KeB l w w' v ec ∧ Keeps (fun _ => False) w w' := by
  have hor := rmay_any (cap := cap) hl hn
  have HBY : Hid (∀ W, MayL l → Keeps (fun _ => False) w W → Calls Try.prog 31 #[.slice a l.length cap] W fun e w' => ∃ v, e = .returned v ∧ w'.ownsRow W.heap.size 3 1 v (byP l l.length).length (pvs (byP l l.length)) ∧ Keeps (fun _ => False) W w') := fun W hM k => rbyPoint_any (hl.keep k) hn hM
  have HL : Hid (CSL w a l) := hl
  clear hl
  generalize hN : l.length = N at *
  have HN : Hid (l.length = N) := hN
  clear hN
  go_enter Try.func20, Try.ntmps20
  refine wp_seq_k (fun KK hKK => ?_)
  have hKH : Hid _ := hKK
  clear hKK
  go_wp2_with fail
  refine hKH.out _ _ ?_
  clear hKH KK
  refine wp_seq_k (fun KK hKK => ?_)
  have hKH : Hid _ := hKK
  clear hKK
  go_wp2_with (go_at_call 30; refine hor.mono ?_; clear hor; rintro e w1 ⟨mb, rfl, hP, k1⟩; have HP : Hid (mb = true ↔ MayL l) := hP; clear hP)
  refine hKH.out _ _ ?_
  clear hKH KK
  cases mb with
  | false =>
    have HM : Hid (¬ MayL l) := fun h => by have := HP.out.2 h; cases this
    go_wp2_with fail
    go_ret2
    exact ⟨_, _, rfl, .inr ⟨rfl, HM.out, rfl⟩, k1⟩
  | true =>
    have HM : Hid (MayL l) := HP.out.1 rfl
    have hby := HBY.out w1 HM.out k1
    have HB : Hid ((byP l l.length).length ≤ N) := by show _ ≤ _; rw [HN.out]; exact byP_len l N
    have HMB : Hid (∀ i ∈ byP l l.length, i < N) := fun i hi => by rw [← HN.out]; exact ((mem_byP l _ i).1 hi).1
    have HR : Hid (∀ W' v sa sc, v = .slice sa (setK l (byP l l.length) (byP l l.length).length).length sc → KL W' sa (setK l (byP l l.length) (byP l l.length).length) → (∀ b off, sa = some ⟨b, off, none⟩ → w.heap.size ≤ b) → Keeps (fun _ => False) w W' → ∃ v' ec, Ending.returned (.tuple #[v, .int .i64 0]) = Ending.returned (.tuple #[v', .int .i64 ec]) ∧ KeB l w W' v' ec ∧ Keeps (fun _ => False) w W') := fun W' v sa sc hv h hb k => ⟨v, 0, rfl, .inl ⟨rfl, HM.out, sa, sc, hv, h, hb⟩, k⟩
    rw [← HN.out] at hby
    clear HP HBY
    generalize byP l l.length = L at *
    rw [HN.out] at hby
    have hBN := HB.out
    generalize hM : L.length = M at *
    have HML : Hid (L.length = M) := hM
    clear hM
    go_wp2_with (go_at_call 31; refine hby.mono ?_; clear hby; rintro e w2 ⟨v, rfl, hO, k2⟩; obtain ⟨al, cl, rfl, hcell, -, -⟩ := own_slice hO; have HCE : Hid (∀ j, j < M → ∃ g, al = some ⟨g, 0, none⟩ ∧ w2.cell? ⟨g, j, none⟩ = some (.int .i64 ((L.getD j 0 : Nat) : Int))) := fun j hj => hcell j _ (pvs_get (by rw [HML.out]; exact hj)); clear hO hcell)
    have K2 := k1.trans k2
    clear k1 k2
    go_loopw [5, 7] (fun sv iv Wr => ∃ (k : Nat) (sa : Option Addr) (sc : Nat), iv = .int .i64 (k : Int) ∧ k ≤ M ∧ sv = .slice sa (setK l L k).length sc ∧ (∀ b off, sa = some ⟨b, off, none⟩ → w.heap.size ≤ b) ∧ KL Wr sa (setK l L k) ∧ Keeps (fun _ => False) w2 Wr) (fun _ iv _ => M - (intOf iv).toNat)
    case atStart => exact ⟨0, none, 0, rfl, Nat.zero_le _, rfl, (fun b off e => by cases e), fun i hi => absurd hi (by simp [setK]), Keeps.refl _ _⟩
    case round =>
      obtain ⟨k, sa, sc, rfl, hk, rfl, hbs, hks, kr⟩ := hrel
      have HBS : Hid (∀ b off, sa = some ⟨b, off, none⟩ → w.heap.size ≤ b) := hbs
      clear hbs
      have HKS : Hid (KL wr sa (setK l L k)) := hks
      clear hks
      have Kwr := K2.trans kr
      by_cases hlt : k < M
      · have j1 : decide ((k : Int) < (M : Int)) = true := decide_eq_true (by omega)
        have j2 : decide (k < M) = true := decide_eq_true hlt
        have j3 : (k : Int) < (M : Int) := by omega
        have j4 : (0 : Int) ≤ (k : Int) := by omega
        have hwi : IntKind.i64.wrap ((k : Int) + 1) = (k : Int) + 1 := by rw [IntKind.wrap_i64]; omega
        obtain ⟨g, rfl, hg⟩ := HCE.out k hlt
        have c0 := kr.cell hg (fun e => e)
        have hpN : L.getD k 0 < N := HMB.out _ (by rw [List.getD_eq_getElem?_getD, List.getElem?_eq_getElem (by rw [HML.out]; exact hlt)]; exact List.getElem_mem _)
        obtain ⟨b, off, rfl, hc⟩ := HL.out (L.getD k 0) (by rw [HN.out]; exact hpN)
        have hR := run_cl (W := wr) (fun j v e => Kwr.cell (hc j v e) (fun e => e))
        have hp1 : ((L.getD k 0 : Nat) : Int) < (N : Int) := by omega
        have hsl : (setK l L k).length ≤ 17592186043000 := Nat.le_trans (setK_len l L k) (by omega)
        have HDO : Hid (∀ W, Keeps (fun _ => False) wr W → Calls Try.prog 32 #[.slice sa (setK l L k).length sc, .agg (l.getD (L.getD k 0) cl0).cells.toArray] W (DoP (setK l L k) (l.getD (L.getD k 0) cl0) sa W)) := fun W kW => rdoes_any (HKS.out.keep kW) (rise_setK l L k) hsl _
        have HNS : Hid (setK l L (k + 1) = (doesL (setK l L k) (l.getD (L.getD k 0) cl0)).2.2) := rfl
        have HGK : Hid (goK l L k = goesP (l.getD (L.getD k 0) cl0) (doesL (setK l L k) (l.getD (L.getD k 0) cl0)).1 (doesL (setK l L k) (l.getD (L.getD k 0) cl0)).2.1) := rfl
        clear hc hg hsl
        generalize hp : L.getD k 0 = p at *
        have HPP : Hid (L.getD k 0 = p) := hp
        clear hp
        generalize l.getD p cl0 = c at *
        unfold DoP at HDO
        generalize (doesL (setK l L k) c).1 = yy at *
        generalize (doesL (setK l L k) c).2.1 = rr at *
        have hdo := HDO.out wr (Keeps.refl _ _)
        clear HDO HGK
        go_wp2_with (first | (refine wpList_load_runL rfl 40 _ rfl ⟨b, off + p * 8, none⟩ rfl _ hR ?_; clear hR) | (go_at_call 32; refine hdo.mono ?_; clear hdo; rintro e w6 ⟨sa2, sc2, rfl, hk6, k6, hb6⟩; have HK6 : Hid (KL w6 sa2 (doesL (setK l L k) c).2.2) := hk6; clear hk6))
        go_roundw
        case rel => exact ⟨k + 1, sa2, sc2, by go_num, by omega, by rw [HNS.out], fun b off e => (hb6 b off e).elim (HBS.out b off) (fun h => Nat.le_trans Kwr.size h), by rw [HNS.out]; exact HK6.out, kr.trans k6⟩
        case measure => simp [intOf]; omega
      · have j1 : decide ((k : Int) < (M : Int)) = false := decide_eq_false (by omega)
        have j2 : decide (k < M) = false := decide_eq_false hlt
        obtain rfl : k = M := by omega
        go_wp2_with fail
        go_ret2
        exact HR.out _ _ _ _ rfl HKS.out HBS.out Kwr
end Go.Proofs.Ytlglhmmlebjidaa
