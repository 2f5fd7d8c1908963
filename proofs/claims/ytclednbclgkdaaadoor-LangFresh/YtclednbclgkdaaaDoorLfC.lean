import Derived.Test.YtclednbclgkdaaaDoorLfB
namespace Go.Proofs.YtclednbclgkdaaaDoor
open Go.RowKit Go.Deep Go.ChangeShapes Go.WideShapes Go.ChangeAt
attribute [local go_sem] Oper.semAt_some run_store_nf run_store_f
theorem row_cell {W : World} {base n cap g j : Nat} {l : List Ins} (h : W.ownsRow base 38 11 (.slice (some ⟨g, 0, none⟩) n cap) n (icl l)) {v : Value} (hv : (icl l)[j]? = some v) : W.cell? ⟨g, j, none⟩ = some v := by
  have hc := h.cells (g := g) rfl j v hv
  rw [add_at, Nat.zero_add] at hc
  exact hc
theorem row_z {W : World} {base n cap g j : Nat} {l : List Ins} (h : W.ownsRow base 38 11 (.slice (some ⟨g, 0, none⟩) n cap) n (icl l)) : W.frozen? ⟨g, j, none⟩ = false := by
  rcases h.2 with ⟨h1, _⟩ | ⟨g', cp, cur, h1, _, hgg, _⟩
  · cases h1
  · injection h1 with h1 _ _
    injection h1 with h1
    injection h1 with h1 _ _
    subst h1
    simp [World.frozen?, hgg]
set_option maxHeartbeats 2000000 in
set_option maxRecDepth 1000000 in
theorem fresh_any {w : World} (hT : PT w) (hNT : NT w) (s : ByteArray) (hs : s.size ≤ 9223372036854775807) (o : ByteArray) (ho : o.size ≤ 9223372036854775807) : Calls Tryd.prog 4 #[.string s, .string o] w fun e w' => e = .returned (.bool true) ∧ Below w.heap.size w w' := by
  have hFx := fixed_ok hT hNT
  obtain ⟨l, hl⟩ : ∃ l, prL (prsR s) = l := ⟨_, rfl⟩
  obtain ⟨n, hn⟩ : ∃ n, l.length = n := ⟨_, rfl⟩
  obtain ⟨lx, hlx⟩ : ∃ l, prL (prsR o) = l := ⟨_, rfl⟩
  obtain ⟨nx, hnx⟩ : ∃ n, lx.length = n := ⟨_, rfl⟩
  have hPa := fun W (k : Keeps (fun _ => False) w W) => parse_all (w := W) s hs (hT.keep k) (hNT.keep k)
  have hPo := fun W (k : Keeps (fun _ => False) w W) => parse_all (w := W) o ho (hT.keep k) (hNT.keep k)
  rw [hl, hn] at hPa
  rw [hlx, hnx] at hPo
  obtain ⟨⟨F1, F2, F3⟩, hF⟩ : ∃ F, prF (prsR s) = F := ⟨_, rfl⟩
  obtain ⟨⟨G1, G2, G3⟩, hG⟩ : ∃ F, prF (prsR o) = F := ⟨_, rfl⟩
  rw [hF] at hPa
  rw [hG] at hPo
  simp only at hPa hPo
  clear hG
  go_enter Tryd.func4, Tryd.ntmps4
  refine wp_seq_k (fun KK hKK => ?_)
  have hKH : Hid _ := hKK
  clear hKK
  go_wp2_with fail
  refine hKH.out _ _ ?_
  clear hKH KK
  refine wp_seq_k (fun KK hKK => ?_)
  have hKH : Hid _ := hKK
  clear hKK
  go_wp2_with fail
  refine hFx.mono ?_
  clear hFx
  rintro e w1 ⟨rfl, k1⟩
  have hp2 := hPa w1 k1
  go_wp2_with fail
  refine hKH.out _ _ ?_
  clear hKH KK
  refine wp_seq_k (fun KK hKK => ?_)
  have hKH : Hid _ := hKK
  clear hKK
  go_wp2_with fail
  refine hp2.mono ?_
  clear hp2 hPa
  rintro e w2 ⟨v2, rfl, ho2, k2, hb2⟩
  obtain ⟨ap, cp, rfl⟩ := slice_of_owns ho2
  have HB2 : Hid (n ≤ 64) := hb2
  clear hb2
  obtain ⟨W3, hW3⟩ : ∃ W3, W3 = w2.alloc (.cells #[.int .i64 F1, .int .i64 F2, .int .i64 F3] 26) := ⟨_, rfl⟩
  have k3 : Keeps (fun _ => False) w2 W3 := by rw [hW3]; exact (Keeps.refl _ w2).alloc _
  have g3 : CL W3 w2.heap.size [.int .i64 F1, .int .i64 F2, .int .i64 F3] := by rw [hW3]; exact CL.made w2 _ _
  have HW3 : Hid (_ = _) := hW3
  clear hW3
  go_wp2_with fail
  refine hKH.out _ _ ?_
  clear hKH KK
  rw [← HW3.out]
  clear HW3
  have ho3 := k3.owns ho2 (fun _ _ e => e)
  obtain ⟨ap', cp', ep', hI3⟩ := isl_of_owns ho3 hn
  injection ep' with ep1 _ ep3
  subst ep1 ep3
  have hB3 := backs_any (cap := cp) hI3 (by rw [hn]; have := HB2.out; omega)
  rw [hn] at hB3
  clear hI3
  refine wp_seq_k (fun KK hKK => ?_)
  have hKH : Hid _ := hKK
  clear hKK
  go_wp2_with fail
  refine hB3.mono ?_
  clear hB3
  rintro e w4 ⟨v4, rfl, ho4, k4⟩
  obtain ⟨aw, cw, rfl, hI4⟩ := isl_of_owns_r' ho4 hn
  have hp5 := hPo w4 (((k1.trans k2).trans k3).trans k4)
  go_wp2_with fail
  refine hKH.out _ _ ?_
  clear hKH KK
  refine wp_seq_k (fun KK hKK => ?_)
  have hKH : Hid _ := hKK
  clear hKK
  go_wp2_with fail
  refine hp5.mono ?_
  clear hp5 hPo
  rintro e w5 ⟨v5, rfl, ho5, k5, hb5⟩
  obtain ⟨ax, cx, rfl⟩ := slice_of_owns ho5
  have HB5 : Hid (nx ≤ 64) := hb5
  clear hb5
  obtain ⟨W6, hW6⟩ : ∃ W6, W6 = w5.alloc (.cells #[.int .i64 G1, .int .i64 G2, .int .i64 G3] 26) := ⟨_, rfl⟩
  have k6 : Keeps (fun _ => False) w5 W6 := by rw [hW6]; exact (Keeps.refl _ w5).alloc _
  have HW6 : Hid (_ = _) := hW6
  clear hW6
  go_wp2_with fail
  refine hKH.out _ _ ?_
  clear hKH KK
  rw [← HW6.out]
  clear HW6
  have ho6 := k6.owns ho5 (fun _ _ e => e)
  obtain ⟨ax', cx', ex', hI6⟩ := isl_of_owns ho6 hnx
  injection ex' with ex1 _ ex3
  subst ex1 ex3
  have hB6 := backs_any (cap := cx) hI6 (by rw [hnx]; have := HB5.out; omega)
  rw [hnx] at hB6
  clear hI6
  refine wp_seq_k (fun KK hKK => ?_)
  have hKH : Hid _ := hKK
  clear hKK
  go_wp2_with fail
  refine hB6.mono ?_
  clear hB6
  rintro e w7 ⟨v7, rfl, ho7, k7⟩
  obtain ⟨awx, cwx, rfl, hI7⟩ := isl_of_owns_r' ho7 hnx
  go_wp2_with fail
  refine hKH.out _ _ ?_
  clear hKH KK
  have K47 := (k5.trans k6).trans k7
  have K37 := k4.trans K47
  have hP7 := K37.owns ho3 (fun _ _ e => e)
  have hf7 := g3.keep (by show 0 < 3; decide) K37 (fun e => e)
  have hw7 := hI4.keep K47
  have hx7 := k7.owns ho6 (fun _ _ e => e)
  have K7 : Keeps (fun _ => False) w w7 := ((k1.trans k2).trans k3).trans K37
  have z1 := k1.size
  have z2 := k2.size
  have z3 := k3.size
  have z4 := k4.size
  have z5 := k5.size
  have z6 := k6.size
  have z7 := k7.size
  have hfl : w2.heap.size < W3.heap.size := g3.lt (by show 0 < 3; decide)
  have hpl : ∀ g, Value.ownBlock (.slice ap n cp) = some g → g < w2.heap.size := fun g e => owns_lt' ho2 g e
  have hpb : ∀ g, Value.ownBlock (.slice ap n cp) = some g → w1.heap.size ≤ g := fun g e => owns_base ho2 g e
  have hwb : ∀ b off, aw = some ⟨b, off, none⟩ → W3.heap.size ≤ b ∧ b < w4.heap.size := fun b off e => by subst e; exact ⟨owns_base ho4 b rfl, owns_lt' ho4 b rfl⟩
  have hxb : ∀ g, Value.ownBlock (.slice ax nx cx) = some g → w4.heap.size ≤ g := fun g e => owns_base ho5 g e
  have hwxb : ∀ b off, awx = some ⟨b, off, none⟩ → W6.heap.size ≤ b := fun b off e => by subst e; exact owns_base ho7 b rfl
  have HA1 : Hid (∀ g, Value.ownBlock (.slice ap n cp) = some g → w2.heap.size ≠ g ∧ Value.ownBlock (.slice ax nx cx) ≠ some g ∧ (∀ off, aw ≠ some ⟨g, off, none⟩) ∧ (∀ off, awx ≠ some ⟨g, off, none⟩)) := fun g hg => by
    have := hpl g hg
    exact ⟨by omega, fun e => by have := hxb g e; omega, fun off e => by have := hwb g off e; omega, fun off e => by have := hwxb g off e; omega⟩
  have HA2 : Hid (∀ g, Value.ownBlock (.slice ax nx cx) = some g → ∀ off, aw ≠ some ⟨g, off, none⟩) := fun g hg off e => by
    have := hxb g hg
    have := hwb g off e
    omega
  have hBX : w.heap.size ≤ w4.heap.size := by omega
  have HWL : Hid (∀ b off, aw = some ⟨b, off, none⟩ → b < w7.heap.size) := fun b off e => by have := hwb b off e; omega
  clear ho2 ho3 ho4 ho5 ho6 ho7 g3 hI4 k1 k2 k3 k4 k5 k6 k7 K47 K37 hfl hpl hwb hxb hwxb z2 z3 z4 z5 z6 z7
  refine wp_seq_k (fun KK hKK => ?_)
  have hKH : Hid _ := hKK
  clear hKK
  go_wp2_with fail
  go_loopw [11] (fun iv Wr => ∃ k : Nat, iv = .int .i64 (k : Int) ∧ k ≤ n ∧ Wr.ownsRow w1.heap.size 38 11 (.slice ap n cp) n (icl (chg k l)) ∧ Keeps (fun i => Value.ownBlock (.slice ap n cp) = some i) w7 Wr) (fun iv _ => n - (intOf iv).toNat)
  case atStart => exact ⟨0, rfl, Nat.zero_le _, hP7, Keeps.refl _ _⟩
  case round =>
    clear hP7
    obtain ⟨k, rfl, hk, hown, kr⟩ := hrel
    by_cases hlt : k < n
    · have hltI : decide ((k : Int) < (n : Int)) = true := by simp; omega
      have hltJ : (k : Int) < (n : Int) := by omega
      have hk0 : (0 : Int) ≤ (k : Int) := by omega
      have hwk : IntKind.i64.wrap ((k : Int) + 1) = (k : Int) + 1 := by have := HB2.out; rw [IntKind.wrap_i64]; omega
      obtain ⟨g, rfl⟩ : ∃ g, ap = some ⟨g, 0, none⟩ := by
        rcases hown.2 with ⟨h1, h2⟩ | ⟨g, cap, cur, h1, _⟩
        · injection h1 with h1 h3 _; omega
        · injection h1 with h1 _ _; exact ⟨g, h1⟩
      have hkl : k < (chg k l).length := by rw [chg_len]; omega
      have hQ : ∀ j v, ((chg k l).getD k ins0).cells[j]? = some v → wr.cell? ⟨g, k * 11 + j, none⟩ = some v := fun j v hv => row_cell hown (icl_get (chg k l) k j v hkl hv)
      obtain ⟨q, hq⟩ : ∃ q, (chg k l).getD k ins0 = q := ⟨_, rfl⟩
      rw [hq] at hQ
      have e1 := icl_set1 (chg k l) k (IntKind.i64.wrap (IntKind.i64.wrap (((chg k l).getD k ins0).dst + 1) + (k : Int))) hkl
      have o1 := (hown.stored (k * 11 + 1) (.int .i64 (IntKind.i64.wrap (IntKind.i64.wrap (((chg k l).getD k ins0).dst + 1) + (k : Int))))).1
      rw [← e1] at o1
      have hkl1 : k < ((chg k l).set k { (chg k l).getD k ins0 with dst := IntKind.i64.wrap (IntKind.i64.wrap (((chg k l).getD k ins0).dst + 1) + (k : Int)) }).length := by rw [List.length_set]; exact hkl
      have e2 := icl_set ((chg k l).set k { (chg k l).getD k ins0 with dst := IntKind.i64.wrap (IntKind.i64.wrap (((chg k l).getD k ins0).dst + 1) + (k : Int)) }) k (-7) hkl1
      have o2 := (o1.stored (k * 11 + 10) (.int .i64 (-7))).1
      rw [← e2] at o2
      have o2' : ((wr.setCell ⟨g, k * 11 + 1, none⟩ (.int .i64 (IntKind.i64.wrap (IntKind.i64.wrap (((chg k l).getD k ins0).dst + 1) + (k : Int))))).setCell ⟨g, k * 11 + 10, none⟩ (.int .i64 (-7))).ownsRow w1.heap.size 38 11 (.slice (some ⟨g, 0, none⟩) n cp) n (icl (chg (k + 1) l)) := o2
      have d10 : (wr.setCell ⟨g, k * 11 + 1, none⟩ (.int .i64 (IntKind.i64.wrap (IntKind.i64.wrap (((chg k l).getD k ins0).dst + 1) + (k : Int))))).cell? ⟨g, k * 11 + 10, none⟩ = some (.int .i64 q.to) := row_cell o1 (icl_get _ k 10 _ hkl1 (by rw [getD_set_same hkl, hq]; rfl))
      have y10 : (wr.setCell ⟨g, k * 11 + 1, none⟩ (.int .i64 (IntKind.i64.wrap (IntKind.i64.wrap (((chg k l).getD k ins0).dst + 1) + (k : Int))))).frozen? ⟨g, k * 11 + 10, none⟩ = false := row_z o1
      have y1 : wr.frozen? ⟨g, k * 11 + 1, none⟩ = false := row_z hown
      have y10' : wr.frozen? ⟨g, k * 11 + 10, none⟩ = false := row_z hown
      have c1 := hQ 1 _ rfl
      have c10 := hQ 10 _ rfl
      have K8 : Keeps (fun i => Value.ownBlock (.slice (some ⟨g, 0, none⟩) n cp) = some i) w7 ((wr.setCell ⟨g, k * 11 + 1, none⟩ (.int .i64 (IntKind.i64.wrap (IntKind.i64.wrap (((chg k l).getD k ins0).dst + 1) + (k : Int))))).setCell ⟨g, k * 11 + 10, none⟩ (.int .i64 (-7))) := (kr.setCell (p := ⟨g, k * 11 + 1, none⟩) (fun _ => rfl) _).setCell (p := ⟨g, k * 11 + 10, none⟩) (fun _ => rfl) _
      rw [hq] at o2' K8
      obtain ⟨cd, dst, oR, oN, xR, xN, yR, yN, op, rel, to⟩ := q
      simp only at o2' K8 c1 c10
      clear d10 y10
      have hwr : ∀ z : Int, IntKind.i64.wrap z = wrap64 z := fun z => by rw [IntKind.wrap_i64]; unfold wrap64; omega
      simp only [hwr] at o2' K8
      clear hwr
      clear o1 o2 e1 e2 hkl1 hQ hq hkl hown hf7 hw7 hx7 hI7
      go_wp2_with fail
      go_roundw
      case rel => exact ⟨k + 1, by go_num, by omega, o2', K8⟩
      case measure => simp [intOf]; omega
    · have hltI : decide ((k : Int) < (n : Int)) = false := by simp; omega
      obtain rfl : k = n := by omega
      go_wp2_with fail
      refine hKH.out _ _ ?_
      have Kr : Keeps (fun _ => False) w wr := K7.trans' kr (fun _ _ e => e) (fun i hi e => by have := hpb i e; omega)
      have krs := kr.size
      have hf8 := hf7.keep (by show 0 < 3; decide) kr (fun h => (HA1.out _ h).1 rfl)
      have hw8 := hw7.keepS kr (fun b off e h => (HA1.out b h).2.2.1 off e)
      have hx8 := kr.owns hx7 (fun g hg h => (HA1.out g h).2.1 hg)
      have hwx8 := hI7.keepS kr (fun b off e h => (HA1.out b h).2.2.2 off e)
      exact fresh_t1 (w00 := w) hT hNT Kr hs hl hown hn HB2.out z1 hBX (by rw [hF]; exact hf8) hw8 hx8 hnx HB5.out hwx8 HA1.out HA2.out (fun b off e => by have := HWL.out b off e; omega) (fun w' kw => ⟨rfl, kw.below (Nat.le_refl _) (fun _ _ e => e)⟩)
end Go.Proofs.YtclednbclgkdaaaDoor
