import Derived.Test.YtagplkgjdaojnaaTabFt
namespace Go.Proofs.Ytagplkgjdaojnaa
open Go.RowKit
attribute [local go_sem] Oper.semAt_some

/-- How many of the first j have the fate 1. -/
def hc (rs : List Rd) (j : Nat) : Nat := ((rs.take j).filter fun r => r.fate = 1).length
theorem hc_succ {rs : List Rd} {j : Nat} {r : Rd} (h : rs[j]? = some r) : hc rs (j + 1) = hc rs j + if r.fate = 1 then 1 else 0 := by
  unfold hc
  rw [List.take_add_one, h]
  simp only [Option.toList_some, List.filter_append, List.length_append]
  by_cases c : r.fate = 1 <;> simp [c]
theorem hc_end (rs : List Rd) : hc rs rs.length = (es rs).length := by
  unfold hc es
  rw [ents_count, List.take_length]
theorem hc_le (rs : List Rd) (j : Nat) : hc rs j ≤ j := by
  unfold hc
  exact Nat.le_trans (List.length_filter_le _ _) (by simp; omega)

section
variable {w : World} {T : Tk} {rs : List Rd}
theorem TV.find_en (h : TV w T rs) {i : Nat} {e : En} (he : (es rs)[i]? = some e) : Calls Try.prog 26 #[.pointer (some ⟨T.tb, 0, none⟩), .int .i64 e.ob] w fun x w' => x = .returned (.tuple #[.agg #[.int .i64 e.ob, .int .i64 e.ver, .int .i64 (e.ord : Int)], .int .i64 0]) ∧ Keeps (fun _ => False) w w' := by
  obtain ⟨r, h1, _, h3⟩ := es_get (List.mem_of_getElem? he)
  have hk : I64 e.ob := by rw [h3]; exact (h.gd.num r (List.mem_of_getElem? h1)).1
  have := find_any h hk
  have hf : fnd rs e.ob = some e := by unfold fnd; rw [pl_of h.gd.dis he]; exact he
  rw [hf] at this
  exact this
theorem TV.at_en (h : TV w T rs) {i : Nat} {e : En} (he : (es rs)[i]? = some e) : Calls Try.prog 27 #[.pointer (some ⟨T.tb, 0, none⟩), .int .i64 (i : Int)] w fun x w' => x = .returned (.tuple #[.agg #[.int .i64 e.ob, .int .i64 e.ver, .int .i64 (e.ord : Int)], .int .i64 0]) ∧ Keeps (fun _ => False) w w' := by
  have := at_any h (i : Int)
  have hl := (List.getElem?_eq_some_iff.1 he).1
  have hf : atp rs (i : Int) = some e := by unfold atp; rw [if_neg (by omega)]; simpa using he
  rw [hf] at this
  exact this
theorem TV.at_no (h : TV w T rs) : Calls Try.prog 27 #[.pointer (some ⟨T.tb, 0, none⟩), .int .i64 ((es rs).length : Int)] w fun x w' => x = .returned (.tuple #[.agg #[.int .i64 0, .int .i64 0, .int .i64 0], .int .i64 72]) ∧ Keeps (fun _ => False) w w' := by
  have := at_any h ((es rs).length : Int)
  have hf : atp rs ((es rs).length : Int) = none := by unfold atp; rw [if_pos (by omega)]
  rw [hf] at this
  exact this
theorem TV.fate_en (h : TV w T rs) {i : Nat} {e : En} (he : (es rs)[i]? = some e) : Calls Try.prog 10 #[.pointer (some ⟨T.tb, 0, none⟩), .int .i64 (e.ord : Int)] w fun x w' => x = .returned (.tuple #[.int .i64 1, .int .i64 0]) ∧ w' = w := by
  obtain ⟨r, h1, h2, h3⟩ := es_get (List.mem_of_getElem? he)
  have := fateOf_any h (e.ord : Int)
  have hl := (List.getElem?_eq_some_iff.1 h1).1
  have hf : fto rs (e.ord : Int) = (1, 0) := by unfold fto; rw [if_neg (by omega)]; simp [h1, h2]
  rw [hf] at this
  exact this
theorem TV.fate_at (h : TV w T rs) {j : Nat} {r : Rd} (hr : rs[j]? = some r) : Calls Try.prog 10 #[.pointer (some ⟨T.tb, 0, none⟩), .int .i64 (j : Int)] w fun x w' => x = .returned (.tuple #[.int .i64 (r.fate : Int), .int .i64 0]) ∧ w' = w := by
  have := fateOf_any h (j : Int)
  have hl := (List.getElem?_eq_some_iff.1 hr).1
  have hf : fto rs (j : Int) = ((r.fate : Int), 0) := by unfold fto; rw [if_neg (by omega)]; simp [hr]
  rw [hf] at this
  exact this
theorem TV.fate_no (h : TV w T rs) : Calls Try.prog 10 #[.pointer (some ⟨T.tb, 0, none⟩), .int .i64 (rs.length : Int)] w fun x w' => x = .returned (.tuple #[.int .i64 0, .int .i64 72]) ∧ w' = w := by
  have := fateOf_any h (rs.length : Int)
  have hf : fto rs (rs.length : Int) = (0, 72) := by unfold fto; rw [if_pos (by omega)]
  rw [hf] at this
  exact this
end

set_option maxHeartbeats 6400000 in
set_option maxRecDepth 1000000 in
theorem ordered_any {w : World} {T : Tk} {rs : List Rd} (h : TV w T rs) {a : Option Addr} {L cap : Nat} (hL : L = (es rs).length) (ho : w.ownsRow 0 36 3 (.slice a L cap) L (fl ecells (es rs))) (hn : rs.length ≤ 4398046511200) :
    Calls Try.prog 17 #[.pointer (some ⟨T.tb, 0, none⟩), .slice a L cap] w fun e w' => e = .returned (.bool true) ∧ Keeps (fun _ => False) w w' := by
  have hle := es_len rs
  have hL9 : L ≤ 4398046511200 := by omega
  have HLl : Hid (L = (es rs).length) := hL
  clear hL
  go_enter Try.func17, Try.ntmps17
  go_wp2_with fail
  go_loopw [5] (fun iv W => ∃ i : Nat, iv = .int .i64 (i : Int) ∧ i ≤ L ∧ Keeps (fun _ => False) w W) (fun iv _ => L - (intOf iv).toNat)
  case atStart => exact ⟨0, rfl, Nat.zero_le _, Keeps.refl _ _⟩
  case round =>
    obtain ⟨i, rfl, hiL, kW⟩ := hrel
    have hi0 : (0 : Int) ≤ (i : Int) := by omega
    by_cases hlt : i < L
    · have hltI : (i : Int) < (L : Int) := by omega
      obtain ⟨e, he⟩ : ∃ e, (es rs)[i]? = some e := ⟨(es rs)[i]'(by rw [← HLl.out]; exact hlt), by simp⟩
      have ho2 := kW.owns ho (fun _ _ e => e)
      obtain ⟨g, rfl⟩ : ∃ g, a = some ⟨g, 0, none⟩ := by
        rcases ho2.2 with ⟨_, e0⟩ | ⟨g, cp, cur, e0, _⟩
        · omega
        · cases e0; exact ⟨g, rfl⟩
      obtain ⟨c0, c1, c2⟩ := owns_en ho2 rfl he
      simp only at c0 c1 c2
      have hfind := fun W (K : Keeps (fun _ => False) w W) => (h.new K).find_en he
      have hat := fun W (K : Keeps (fun _ => False) w W) => (h.new K).at_en he
      have hfate := fun W (K : Keeps (fun _ => False) w W) => (h.new K).fate_en he
      have hNE : Nonempty (KS wr) := ⟨⟨wr, Keeps.refl _ wr⟩⟩
      have C2 := ks_cell c2
      have hprev : Hid (∀ i', i = i' + 1 → ∃ po : Nat, wr.cell? ⟨g, i' * 3 + 2, none⟩ = some (.int .i64 (po : Int)) ∧ po < e.ord) := fun i' hi' => by
        obtain ⟨p, hp⟩ : ∃ p, (es rs)[i']? = some p := ⟨(es rs)[i']'(by rw [← HLl.out]; omega), by simp⟩
        refine ⟨p.ord, (owns_en ho2 rfl hp).r2, ?_⟩
        have hs : (es rs).Pairwise (fun a b => a.ord < b.ord) := ents_sorted rs 0
        rw [List.pairwise_iff_getElem] at hs
        obtain ⟨l1, e1⟩ := List.getElem?_eq_some_iff.1 hp
        obtain ⟨l2, e2⟩ := List.getElem?_eq_some_iff.1 he
        have := hs i' i l1 l2 (by omega)
        rw [e1, e2] at this
        exact this
      obtain ⟨eo, heo⟩ : ∃ eo, Hid (eo = e.ob) := ⟨_, rfl⟩
      obtain ⟨ev', hev⟩ : ∃ ev', Hid (ev' = e.ver) := ⟨_, rfl⟩
      obtain ⟨en, hen⟩ : ∃ en, Hid (en = e.ord) := ⟨_, rfl⟩
      simp only [← heo.out, ← hev.out, ← hen.out] at c0 c1 c2 C2 hfind hat hfate
      rw [← hen.out] at hprev
      clear he ho2
      have hbo : (eo != eo) = false := by simp
      have hbv : (ev' != ev') = false := by simp
      have hbn : ((en : Int) != (en : Int)) = false := by simp
      cases i with
      | zero =>
        go_wp2_with fail
        refine wp_region_ks (by kernel_rfl) (by kernel_rfl) ?_
        repeat (go_big_quiet_step (fail))
        refine wpQuiet_nil ?_
        rintro _ ⟨U, rfl⟩
        have KW2 := kW.trans U.property
        replace c0 := U.property.cell c0 (fun e => e)
        replace c1 := U.property.cell c1 (fun e => e)
        replace c2 := U.property.cell c2 (fun e => e)
        clear hNE C2 hprev
        generalize U.val = wu at *
        go_wp2_with fail
        refine (hfind _ KW2).mono ?_
        rintro x w3 ⟨rfl, k3⟩
        have K3 := KW2.trans k3
        have d0 := k3.cell c0 (fun e => e)
        have d1 := k3.cell c1 (fun e => e)
        have d2 := k3.cell c2 (fun e => e)
        clear hfind
        go_wp2_with fail
        obtain ⟨w4, hw4⟩ : ∃ w4, Hid (w4 = w3.alloc (.cells #[.int .i64 eo, .int .i64 ev', .int .i64 (en : Int)] 36)) := ⟨_, rfl⟩
        rw [← hw4.out]
        have k4 : Keeps (fun _ => False) w3 w4 := by rw [hw4.out]; exact (Keeps.refl _ w3).alloc _
        have K4 := K3.trans k4
        have e0 := k4.cell d0 (fun e => e)
        have e1 := k4.cell d1 (fun e => e)
        have e2 := k4.cell d2 (fun e => e)
        have f0 : w4.cell? ⟨w3.heap.size, 0, none⟩ = some (.int .i64 eo) := by rw [hw4.out]; simp
        have f1 : w4.cell? ⟨w3.heap.size, 1, none⟩ = some (.int .i64 ev') := by rw [hw4.out]; simp
        have f2 : w4.cell? ⟨w3.heap.size, 2, none⟩ = some (.int .i64 (en : Int)) := by rw [hw4.out]; simp
        generalize w3.heap.size = b6 at *
        clear hw4 d0 d1 d2 k4 K3 k3
        refine (hat _ K4).mono ?_
        rintro x w5 ⟨rfl, k5⟩
        clear hat
        have K5 := K4.trans k5
        have d0 := k5.cell e0 (fun e => e)
        have d1 := k5.cell e1 (fun e => e)
        have d2 := k5.cell e2 (fun e => e)
        have g0 := k5.cell f0 (fun e => e)
        have g1 := k5.cell f1 (fun e => e)
        have g2 := k5.cell f2 (fun e => e)
        clear e0 e1 e2 f0 f1 f2 K4 k5 c0 c1 c2 KW2
        have e2a := fun ob => ((Keeps.refl (fun _ => False) w5).alloc ob).cell d2 (fun e => e)
        go_wp2_with fail
        obtain ⟨w6, hw6⟩ : ∃ w6, Hid (w6 = w5.alloc (.cells #[.int .i64 eo, .int .i64 ev', .int .i64 (en : Int)] 36)) := ⟨_, rfl⟩
        rw [← hw6.out]
        have k6 : Keeps (fun _ => False) w5 w6 := by rw [hw6.out]; exact (Keeps.refl _ w5).alloc _
        have K6 := K5.trans k6
        have e0 := k6.cell d0 (fun e => e)
        have e1 := k6.cell d1 (fun e => e)
        have e2 := k6.cell d2 (fun e => e)
        have f0 := k6.cell g0 (fun e => e)
        have f1 := k6.cell g1 (fun e => e)
        have f2 := k6.cell g2 (fun e => e)
        have h0 : w6.cell? ⟨w5.heap.size, 0, none⟩ = some (.int .i64 eo) := by rw [hw6.out]; simp
        have h1 : w6.cell? ⟨w5.heap.size, 1, none⟩ = some (.int .i64 ev') := by rw [hw6.out]; simp
        have h2 : w6.cell? ⟨w5.heap.size, 2, none⟩ = some (.int .i64 (en : Int)) := by rw [hw6.out]; simp
        generalize w5.heap.size = b8 at *
        clear hw6 d0 d1 d2 g0 g1 g2 k6 K5 e2a
        refine (hfate _ K6).mono ?_
        rintro x w7 ⟨rfl, rfl⟩
        clear hfate
        go_wp2_with fail
        have E0 := ks_cell e0
        have E1 := ks_cell e1
        have E2 := ks_cell e2
        have F0 := ks_cell f0
        have F1 := ks_cell f1
        have F2 := ks_cell f2
        have H0 := ks_cell h0
        have H1 := ks_cell h1
        have H2 := ks_cell h2
        have hNE7 : Nonempty (KS w7) := ⟨⟨w7, Keeps.refl _ w7⟩⟩
        clear e0 e1 e2 f0 f1 f2 h0 h1 h2
        refine wp_region_ks (by kernel_rfl) (by kernel_rfl) ?_
        repeat (go_big_quiet_step (fail))
        refine wpQuiet_nil ?_
        rintro _ ⟨U7, rfl⟩
        go_wp2_with fail
        go_roundw
        case rel => exact ⟨0 + 1, by go_num, by omega, K6.trans U7.property⟩
        case measure => simp [intOf]; omega
      | succ i' =>
        obtain ⟨po, cp, hpo⟩ := hprev.out i' rfl
        have CP := ks_cell cp
        have hlp : decide ((en : Int) ≤ (po : Int)) = false := by simp; omega
        have hlp' : ¬ (en : Int) ≤ (po : Int) := by omega
        have hi1 : (0 : Int) < (i' : Int) + 1 := by omega
        have hi2 : (0 : Int) ≤ (i' : Int) := by omega
        have hi3 : (i' : Int) < (L : Int) := by omega
        have hi4 : (i' : Int) + 1 < (L : Int) := by omega
        have hi5 : (0 : Int) ≤ (i' : Int) + 1 := by omega
        have hi6 : (i' : Int) + 1 - 1 = (i' : Int) := by omega
        go_wp2_with fail
        refine wp_region_ks (by kernel_rfl) (by kernel_rfl) ?_
        repeat (go_big_quiet_step (fail))
        refine wpQuiet_nil ?_
        rintro _ ⟨U, rfl⟩
        have KW2 := kW.trans U.property
        replace c0 := U.property.cell c0 (fun e => e)
        replace c1 := U.property.cell c1 (fun e => e)
        replace c2 := U.property.cell c2 (fun e => e)
        clear hNE C2 hprev CP cp
        generalize U.val = wu at *
        go_wp2_with fail
        refine (hfind _ KW2).mono ?_
        rintro x w3 ⟨rfl, k3⟩
        have K3 := KW2.trans k3
        have d0 := k3.cell c0 (fun e => e)
        have d1 := k3.cell c1 (fun e => e)
        have d2 := k3.cell c2 (fun e => e)
        clear hfind
        go_wp2_with fail
        obtain ⟨w4, hw4⟩ : ∃ w4, Hid (w4 = w3.alloc (.cells #[.int .i64 eo, .int .i64 ev', .int .i64 (en : Int)] 36)) := ⟨_, rfl⟩
        rw [← hw4.out]
        have k4 : Keeps (fun _ => False) w3 w4 := by rw [hw4.out]; exact (Keeps.refl _ w3).alloc _
        have K4 := K3.trans k4
        have e0 := k4.cell d0 (fun e => e)
        have e1 := k4.cell d1 (fun e => e)
        have e2 := k4.cell d2 (fun e => e)
        have f0 : w4.cell? ⟨w3.heap.size, 0, none⟩ = some (.int .i64 eo) := by rw [hw4.out]; simp
        have f1 : w4.cell? ⟨w3.heap.size, 1, none⟩ = some (.int .i64 ev') := by rw [hw4.out]; simp
        have f2 : w4.cell? ⟨w3.heap.size, 2, none⟩ = some (.int .i64 (en : Int)) := by rw [hw4.out]; simp
        generalize w3.heap.size = b6 at *
        clear hw4 d0 d1 d2 k4 K3 k3
        refine (hat _ K4).mono ?_
        rintro x w5 ⟨rfl, k5⟩
        clear hat
        have K5 := K4.trans k5
        have d0 := k5.cell e0 (fun e => e)
        have d1 := k5.cell e1 (fun e => e)
        have d2 := k5.cell e2 (fun e => e)
        have g0 := k5.cell f0 (fun e => e)
        have g1 := k5.cell f1 (fun e => e)
        have g2 := k5.cell f2 (fun e => e)
        clear e0 e1 e2 f0 f1 f2 K4 k5 c0 c1 c2 KW2
        have e2a := fun ob => ((Keeps.refl (fun _ => False) w5).alloc ob).cell d2 (fun e => e)
        go_wp2_with fail
        obtain ⟨w6, hw6⟩ : ∃ w6, Hid (w6 = w5.alloc (.cells #[.int .i64 eo, .int .i64 ev', .int .i64 (en : Int)] 36)) := ⟨_, rfl⟩
        rw [← hw6.out]
        have k6 : Keeps (fun _ => False) w5 w6 := by rw [hw6.out]; exact (Keeps.refl _ w5).alloc _
        have K6 := K5.trans k6
        have e0 := k6.cell d0 (fun e => e)
        have e1 := k6.cell d1 (fun e => e)
        have e2 := k6.cell d2 (fun e => e)
        have f0 := k6.cell g0 (fun e => e)
        have f1 := k6.cell g1 (fun e => e)
        have f2 := k6.cell g2 (fun e => e)
        have h0 : w6.cell? ⟨w5.heap.size, 0, none⟩ = some (.int .i64 eo) := by rw [hw6.out]; simp
        have h1 : w6.cell? ⟨w5.heap.size, 1, none⟩ = some (.int .i64 ev') := by rw [hw6.out]; simp
        have h2 : w6.cell? ⟨w5.heap.size, 2, none⟩ = some (.int .i64 (en : Int)) := by rw [hw6.out]; simp
        generalize w5.heap.size = b8 at *
        clear hw6 d0 d1 d2 g0 g1 g2 k6 K5 e2a
        refine (hfate _ K6).mono ?_
        rintro x w7 ⟨rfl, rfl⟩
        clear hfate
        go_wp2_with fail
        have E0 := ks_cell e0
        have E1 := ks_cell e1
        have E2 := ks_cell e2
        have F0 := ks_cell f0
        have F1 := ks_cell f1
        have F2 := ks_cell f2
        have H0 := ks_cell h0
        have H1 := ks_cell h1
        have H2 := ks_cell h2
        have hNE7 : Nonempty (KS w7) := ⟨⟨w7, Keeps.refl _ w7⟩⟩
        clear e0 e1 e2 f0 f1 f2 h0 h1 h2
        refine wp_region_ks (by kernel_rfl) (by kernel_rfl) ?_
        repeat (go_big_quiet_step (fail))
        refine wpQuiet_nil ?_
        rintro _ ⟨U7, rfl⟩
        go_wp2_with fail
        go_roundw
        case rel => exact ⟨i' + 1 + 1, by go_num, by omega, K6.trans U7.property⟩
        case measure => simp [intOf]; omega
    · rw [show i = L by omega]
      obtain ⟨N, hN⟩ : ∃ N, Hid (N = rs.length) := ⟨_, rfl⟩
      have hAN := fun W (K : Keeps (fun _ => False) w W) => (h.new K).at_no
      rw [← HLl.out] at hAN
      have hAd := fun W (K : Keeps (fun _ => False) w W) => added_any (h.new K)
      have hFN := fun W (K : Keeps (fun _ => False) w W) => (h.new K).fate_no
      rw [← hN.out] at hAd hFN
      have hFj := fun W (K : Keeps (fun _ => False) w W) (j : Nat) (r : Rd) (hr : rs[j]? = some r) => (h.new K).fate_at hr
      have hN9 : N ≤ 4398046511200 := by rw [hN.out]; exact hn
      have hnum : Hid (∀ (j : Nat) (r : Rd), rs[j]? = some r → 1 ≤ r.fate ∧ r.fate ≤ 3) := fun j r hr => (h.gd.num r (List.mem_of_getElem? hr)).2.2
      have hce : Hid (hc rs N = L) := by show _ = _; rw [hN.out, hc_end, HLl.out]
      clear h ho hlt hiL hi0 hn hle
      go_wp2_with fail
      refine (hAN _ kW).mono ?_
      rintro x w3 ⟨rfl, k3⟩
      have K3 := kW.trans k3
      clear hAN k3 kW
      go_wp2_with fail
      refine (hAd _ (K3.alloc _)).mono ?_
      rintro x w4 ⟨rfl, hw4⟩
      have K4 : Keeps (fun _ => False) w w4 := by rw [hw4]; exact K3.alloc _
      clear hw4 K3
      go_wp2_with fail
      refine (hFN _ K4).mono ?_
      rintro x w5 ⟨rfl, hw5⟩
      have K5 : Keeps (fun _ => False) w w5 := by rw [hw5]; exact K4
      clear hw5 K4 hFN
      go_wp2_with fail
      go_loopw [16, 17] (fun hv jv W => ∃ j : Nat, jv = .int .i64 (j : Int) ∧ hv = .int .i64 (hc rs j : Int) ∧ j ≤ N ∧ Keeps (fun _ => False) w W) (fun _ jv _ => N - (intOf jv).toNat)
      case atStart => exact ⟨0, rfl, rfl, Nat.zero_le _, K5⟩
      case round =>
        clear K5
        obtain ⟨j, rfl, rfl, hjN, K5⟩ := hrel
        have hcl := hc_le rs j
        by_cases hj : j < N
        · have hjI : (j : Int) < (N : Int) := by omega
          obtain ⟨r, hr⟩ : ∃ r, rs[j]? = some r := ⟨rs[j]'(by rw [← hN.out]; exact hj), by simp⟩
          have hF := fun W K => hFj W K j r hr
          have hr3 := hnum.out j r hr
          have hs := hc_succ hr
          clear hFj hr
          obtain ⟨f, hf⟩ : ∃ f, f = r.fate := ⟨_, rfl⟩
          rw [← hf] at hF hr3 hs
          clear hf
          obtain ⟨H, hH⟩ : ∃ H, Hid (H = hc rs j) := ⟨_, rfl⟩
          rw [← hH.out] at hs hcl ⊢
          have HS : Hid (hc rs (j + 1) = H + if f = 1 then 1 else 0) := hs
          clear hs
          rcases (by omega : f = 1 ∨ f = 2 ∨ f = 3) with rfl | rfl | rfl
          · go_wp2_with fail
            refine (hAd _ K5).mono ?_
            rintro x w6 ⟨rfl, hw6⟩
            have K6 : Keeps (fun _ => False) w w6 := by rw [hw6]; exact K5
            clear hw6 K5
            go_wp2_with fail
            refine (hF _ K6).mono ?_
            rintro x w7 ⟨rfl, hw7⟩
            have K7 : Keeps (fun _ => False) w w7 := by rw [hw7]; exact K6
            clear hw7 K6 hF hAd
            go_wp2_with fail
            go_roundw
            case rel => exact ⟨j + 1, by go_num, by rw [HS.out]; go_num, by omega, K7⟩
            case measure => simp [intOf]; omega
          · go_wp2_with fail
            refine (hAd _ K5).mono ?_
            rintro x w6 ⟨rfl, hw6⟩
            have K6 : Keeps (fun _ => False) w w6 := by rw [hw6]; exact K5
            clear hw6 K5
            go_wp2_with fail
            refine (hF _ K6).mono ?_
            rintro x w7 ⟨rfl, hw7⟩
            have K7 : Keeps (fun _ => False) w w7 := by rw [hw7]; exact K6
            clear hw7 K6 hF hAd
            go_wp2_with fail
            go_roundw
            case rel => exact ⟨j + 1, by go_num, by rw [HS.out]; go_num, by omega, K7⟩
            case measure => simp [intOf]; omega
          · go_wp2_with fail
            refine (hAd _ K5).mono ?_
            rintro x w6 ⟨rfl, hw6⟩
            have K6 : Keeps (fun _ => False) w w6 := by rw [hw6]; exact K5
            clear hw6 K5
            go_wp2_with fail
            refine (hF _ K6).mono ?_
            rintro x w7 ⟨rfl, hw7⟩
            have K7 : Keeps (fun _ => False) w w7 := by rw [hw7]; exact K6
            clear hw7 K6 hF hAd
            go_wp2_with fail
            go_roundw
            case rel => exact ⟨j + 1, by go_num, by rw [HS.out]; go_num, by omega, K7⟩
            case measure => simp [intOf]; omega
        · rw [show j = N by omega, hce.out]
          have hjI : ¬ (j : Int) < (N : Int) := by omega
          clear hFj
          go_wp2_with fail
          refine (hAd _ K5).mono ?_
          rintro x w6 ⟨rfl, hw6⟩
          have K6 : Keeps (fun _ => False) w w6 := by rw [hw6]; exact K5
          clear hw6 K5 hAd
          go_wp2_with fail
          go_ret
          exact ⟨rfl, K6⟩
end Go.Proofs.Ytagplkgjdaojnaa
