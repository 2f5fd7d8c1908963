import Derived.Test.YtclednbclgkdaaaDoorDrB
import Derived.Test.YtclednbclgkdaaaDoorLgP
namespace Go.Proofs.YtclednbclgkdaaaDoor
open Go.RowKit Go.Deep Go.ChangeShapes Go.WideShapes Go.ChangeAt
attribute [local go_sem] Oper.semAt_some run_store_nf run_store_f
theorem isl_of_owns_d {W : World} {base n : Nat} {v : Value} {l : List Ins} (h : W.ownsRow base 42 11 v n (icl l)) (hn : l.length = n) : ∃ a cap, v = .slice a n cap ∧ ISL W a l := by
  rcases h.2 with ⟨rfl, h0⟩ | ⟨g, cap, cur, rfl, _⟩
  · have hz : n = 0 := by first | exact h0.1 | omega
    subst hz
    exact ⟨none, 0, rfl, fun i hi => by omega⟩
  · refine ⟨_, cap, rfl, fun i hi => ⟨g, 0, rfl, fun j v hv => ?_⟩⟩
    have e := icl_get l i j v hi hv
    have hc := h.cells (g := g) rfl (i * 11 + j) v e
    rw [add_at] at hc
    rw [Nat.zero_add] at hc ⊢
    exact hc
theorem dress_cases {s d : ByteArray} (hd : d.data.toList = 9 :: (dpre s.data.toList ++ e1)) (hz : d.size ≤ 4096) : prL (prsR d) = prL (prsR s) ∧ ((prF (prsR s) = (0, 0, 0) ∧ prF (prsR d) = (0, 0, 0)) ∨ (prL (prsR s) = [] ∧ ∃ F1 F2 F3 : Int, prF (prsR s) = (F1, F2, F3) ∧ prF (prsR d) = (F1, F2, F3 + 1) ∧ F1 ≠ 0 ∧ 0 ≤ F3 ∧ F3 ≤ 200000)) := by
  obtain ⟨hs, h⟩ := dress_main hd hz
  rw [h]
  cases hp : prsR s with
  | ok l => exact ⟨rfl, .inl ⟨rfl, rfl⟩⟩
  | error e =>
    obtain ⟨h1, h2, h3⟩ := prs_okE hs hp
    exact ⟨rfl, .inr ⟨rfl, e.1, e.2.1, e.2.2, rfl, rfl, h1, h2, h3⟩⟩
set_option maxHeartbeats 2000000 in
set_option maxRecDepth 1000000 in
theorem dress_any2 {w : World} (hT : PT w) (hNT : NT w) (s : ByteArray) (hs : s.size ≤ 281474976710656) : Calls Tryd.prog 5 #[.string s] w fun e w' => e = .returned (.bool true) ∧ Below w.heap.size w w' := by
  have hFx := fixed_ok hT hNT
  have hFy := fun W (k : Keeps (fun _ => False) w W) => fixed_ok (w := W) (hT.keep k) (hNT.keep k)
  have hPx := fun W (k : Keeps (fun _ => False) w W) (x : ByteArray) (hx : x.size ≤ 9223372036854775807) => parse_all (w := W) x hx (hT.keep k) (hNT.keep k)
  have hDr := dressed_any (w := w) s hs
  clear hT hNT
  go_enter Tryd.func5, Tryd.ntmps5
  refine wp_seq_k (fun KK hKK => ?_)
  have hKH : Hid _ := hKK
  clear hKK
  go_wp2_with fail
  refine hKH.out _ _ ?_
  clear hKH KK
  refine wp_seq_k (fun KK hKK => ?_)
  have hKH : Hid _ := hKK
  clear hKK
  go_wp2_with fail
  refine hDr.mono ?_
  clear hDr
  rintro e w0 ⟨d, rfl, hd, hdz, rfl⟩
  go_wp2_with fail
  refine hKH.out _ _ ?_
  clear hKH KK
  have HD : Hid (d.data.toList = 9 :: (dpre s.data.toList ++ e1)) := hd
  have HZ : Hid (d.size ≤ 4000000000000000) := hdz
  clear hd hdz
  rcases Nat.lt_or_ge 4096 d.size with hz | hz
  · have q1 : decide (4096 < (d.size : Int)) = true := decide_eq_true (by omega)
    have q2 : decide (4096 < d.size) = true := decide_eq_true hz
    clear hPx HD HZ
    go_wp2_with fail
    refine hFx.mono ?_
    clear hFx
    rintro e w1 ⟨rfl, k1⟩
    have hF2 := hFy w1 k1
    go_wp2_with fail
    refine hF2.mono ?_
    clear hF2
    rintro e w2 ⟨rfl, k2⟩
    go_wp2_with fail
    go_ret
    exact ⟨rfl, (k1.trans k2).below (Nat.le_refl _) (fun _ _ e => e)⟩
  have q1 : decide (4096 < (d.size : Int)) = false := decide_eq_false (by omega)
  have q2 : decide (4096 < d.size) = false := decide_eq_false (by omega)
  clear hFy
  have HZ4 : Hid (d.size ≤ 4096) := hz
  clear hz
  refine wp_seq_k (fun KK hKK => ?_)
  have hKH : Hid _ := hKK
  clear hKK
  go_wp2_with fail
  refine hFx.mono ?_
  clear hFx
  rintro e w1 ⟨rfl, k1⟩
  go_wp2_with fail
  refine hKH.out _ _ ?_
  clear hKH KK
  obtain ⟨hLL, hcs⟩ := dress_cases HD.out HZ4.out
  clear HD q1 q2
  have hp2 := hPx w1 k1 s (by omega)
  have hpd := fun W k => hPx W k d (by have := HZ4.out; omega)
  clear hPx hs HZ HZ4
  rw [hLL] at hpd
  clear hLL
  obtain ⟨l, hl⟩ : ∃ l, prL (prsR s) = l := ⟨_, rfl⟩
  obtain ⟨n, hn⟩ : ∃ n, l.length = n := ⟨_, rfl⟩
  rw [hl, hn] at hp2 hpd
  rw [hl] at hcs
  clear hl
  obtain ⟨⟨F1, F2, F3⟩, hF⟩ : ∃ F, prF (prsR s) = F := ⟨_, rfl⟩
  obtain ⟨⟨G1, G2, G3⟩, hG⟩ : ∃ F, prF (prsR d) = F := ⟨_, rfl⟩
  rw [hF] at hp2
  rw [hG] at hpd
  rw [hF, hG] at hcs
  simp only at hp2 hpd
  clear hF hG
  have HC : Hid (_ ∨ _) := hcs
  clear hcs
  refine wp_seq_k (fun KK hKK => ?_)
  have hKH : Hid _ := hKK
  clear hKK
  go_wp2_with fail
  refine hp2.mono ?_
  clear hp2
  rintro e w2 ⟨v2, rfl, ho2, k2, hb2⟩
  obtain ⟨ap, cp, rfl⟩ := slice_of_owns ho2
  have HB : Hid (n ≤ 64) := hb2
  clear hb2
  obtain ⟨W3, hW3⟩ : ∃ W3, W3 = w2.alloc (.cells #[.int .i64 F1, .int .i64 F2, .int .i64 F3] 26) := ⟨_, rfl⟩
  have k3 : Keeps (fun _ => False) w2 W3 := by rw [hW3]; exact (Keeps.refl _ w2).alloc _
  have g3 : CL W3 w2.heap.size [.int .i64 F1, .int .i64 F2, .int .i64 F3] := by rw [hW3]; exact CL.made w2 _ _
  have HW3 : Hid (_ = _) := hW3
  clear hW3
  go_wp2_with fail
  refine hKH.out _ _ ?_
  clear hKH KK
  rw [← HW3.out]
  clear HW3
  have ho3 := k3.owns ho2 (fun _ _ e => e)
  obtain ⟨ap', cp', ep', hI3⟩ := isl_of_owns ho3 hn
  injection ep' with ep1 _ ep3
  subst ep1 ep3
  have K3 := (k1.trans k2).trans k3
  clear k1 k2 k3 ho2 ho3
  have hp4 := hpd W3 K3
  clear hpd
  refine wp_seq_k (fun KK hKK => ?_)
  have hKH : Hid _ := hKK
  clear hKK
  go_wp2_with fail
  refine hp4.mono ?_
  clear hp4
  rintro e w4 ⟨v4, rfl, ho4, k4, _⟩
  obtain ⟨aq, cq, rfl⟩ := slice_of_owns ho4
  obtain ⟨W5, hW5⟩ : ∃ W5, W5 = w4.alloc (.cells #[.int .i64 G1, .int .i64 G2, .int .i64 G3] 26) := ⟨_, rfl⟩
  have k5 : Keeps (fun _ => False) w4 W5 := by rw [hW5]; exact (Keeps.refl _ w4).alloc _
  have g5 : CL W5 w4.heap.size [.int .i64 G1, .int .i64 G2, .int .i64 G3] := by rw [hW5]; exact CL.made w4 _ _
  have HW5 : Hid (_ = _) := hW5
  clear hW5
  go_wp2_with fail
  refine hKH.out _ _ ?_
  clear hKH KK
  rw [← HW5.out]
  clear HW5
  have ho5 := k5.owns ho4 (fun _ _ e => e)
  obtain ⟨aq', cq', eq', hI5⟩ := isl_of_owns ho5 hn
  injection eq' with eq1 _ eq3
  subst eq1 eq3
  have K35 := k4.trans k5
  have hI35 := hI3.keep K35
  have g35 := g3.keep (by show 0 < 3; decide) K35 (fun e => e)
  have K5 := K3.trans K35
  clear k4 k5 ho4 ho5 hI3 g3 K3 K35
  have a0 := g35.c 0 _ rfl
  have a1 := g35.c 1 _ rfl
  have a2 := g35.c 2 _ rfl
  have c0 := g5.c 0 _ rfl
  have c1 := g5.c 1 _ rfl
  have c2 := g5.c 2 _ rfl
  clear g35 g5
  rcases HC.out with ⟨f0, f1⟩ | ⟨f0, F1', F2', F3', f1, f2, f3, f4, f5⟩
  · clear HC
    injection f0 with f01 f0
    injection f0 with f02 f03
    injection f1 with f11 f1
    injection f1 with f12 f13
    subst f01 f02 f03 f11 f12 f13
    have hB5 := backs_any (cap := cp) hI35 (by rw [hn]; have := HB.out; omega)
    have hB6 := fun W (k : Keeps (fun _ => False) W5 W) => backs_any (w := W) (cap := cq) (hI5.keep k) (by rw [hn]; have := HB.out; omega)
    rw [hn] at hB5 hB6
    clear hI35 hI5
    go_wp2_with fail
    refine hB5.mono ?_
    clear hB5
    rintro e w6 ⟨v6, rfl, ho6, k6⟩
    obtain ⟨ar, cr, rfl, hI6⟩ := isl_of_owns_d ho6 hn
    have hB7 := hB6 w6 k6
    clear hB6 ho6
    go_wp2_with fail
    refine hB7.mono ?_
    clear hB7
    rintro e w7 ⟨v7, rfl, ho7, k7⟩
    obtain ⟨au, cu, rfl, hI7⟩ := isl_of_owns_d ho7 hn
    have hSm := same_any (c1 := cr) (c2 := cu) (hI6.keep k7) hI7 (by rw [hn]; have := HB.out; omega)
    rw [hn] at hSm
    clear ho7 hI6 hI7
    go_wp2_with fail
    refine hSm.mono ?_
    clear hSm
    rintro e w8 ⟨rfl, k8⟩
    go_wp2_with fail
    go_ret
    exact ⟨rfl, (((K5.trans k6).trans k7).trans k8).below (Nat.le_refl _) (fun _ _ e => e)⟩
  · clear HC
    injection f1 with f11 f1
    injection f1 with f12 f13
    injection f2 with f21 f2
    injection f2 with f22 f23
    subst f11 f12 f13 f21 f22 f23
    subst f0
    obtain rfl : n = 0 := hn.symm
    have t0 : (G1 == 0) = false := beq_eq_false_iff_ne.2 f3
    have t1 : (G1 == G1) = true := by simp
    have t2 : (G2 == G2) = true := by simp
    have t3 : IntKind.i64.wrap (F3 + 1) = F3 + 1 := by rw [IntKind.wrap_i64]; omega
    have t4 : (F3 + 1 == F3 + 1) = true := by simp
    clear f3 f4 f5 hI35 hI5
    go_wp2_with fail
    go_ret
    exact ⟨rfl, K5.below (Nat.le_refl _) (fun _ _ e => e)⟩
end Go.Proofs.YtclednbclgkdaaaDoor
