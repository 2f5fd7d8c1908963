import Derived.Test.YtclednbclgkdaaaDoorLfA
namespace Go.Proofs.YtclednbclgkdaaaDoor
open Go.RowKit Go.Deep Go.ChangeShapes Go.WideShapes Go.ChangeAt
attribute [local go_sem] Oper.semAt_some run_store_nf run_store_f
theorem ISL.keepS {w w' : World} {a : Option Addr} {l : List Ins} {S : Nat → Prop} (h : ISL w a l) (k : Keeps S w w') (hS : ∀ b off, a = some ⟨b, off, none⟩ → ¬ S b) : ISL w' a l := fun i hi => by
  obtain ⟨b, off, e, hc⟩ := h i hi
  exact ⟨b, off, e, fun j v hv => k.cell (hc j v hv) (hS b off e)⟩
theorem isl_of_owns_r' {W : World} {base n : Nat} {v : Value} {l : List Ins} (h : W.ownsRow base 42 11 v n (icl l)) (hn : l.length = n) : ∃ a cap, v = .slice a n cap ∧ ISL W a l := by
  rcases h.2 with ⟨rfl, h0⟩ | ⟨g, cap, cur, rfl, _⟩
  · have hz : n = 0 := by first | exact h0.1 | omega
    subst hz
    exact ⟨none, 0, rfl, fun i hi => by omega⟩
  · refine ⟨_, cap, rfl, fun i hi => ⟨g, 0, rfl, fun j v hv => ?_⟩⟩
    have e := icl_get l i j v hi hv
    have hc := h.cells (g := g) rfl (i * 11 + j) v e
    rw [add_at] at hc
    rw [Nat.zero_add] at hc ⊢
    exact hc
def qC (c : Int) : Ins := { ins0 with code := c }
/-- The last of a list that has grown by one. -/
theorem last_code {W : World} {base n cap : Nat} {a : Option Addr} {l : List Ins} {c : Int} (h : W.ownsRow base 38 11 (.slice a (n + 1) cap) (n + 1) (icl (l ++ [qC c]))) (hn : l.length = n) : ∃ g, a = some ⟨g, 0, none⟩ ∧ W.cell? ⟨g, n * 11, none⟩ = some (.int .i64 c) := by
  rcases h.2 with ⟨h1, h0⟩ | ⟨g, cp, cur, h1, _⟩
  · injection h1 with _ h2 _; omega
  · injection h1 with h1 _ h2
    subst h1 h2
    refine ⟨g, rfl, ?_⟩
    have e := icl_get (l ++ [qC c]) n 0 (.int .i64 c) (by simp; omega) (by
      rw [List.getD_eq_getElem?_getD, List.getElem?_append_right (by omega), hn, Nat.sub_self]; rfl)
    have hc := h.cells (g := g) rfl (n * 11 + 0) _ e
    rw [add_at, Nat.zero_add] at hc
    exact hc
set_option maxHeartbeats 2000000 in
set_option maxRecDepth 1000000 in
theorem fresh_t1 {w00 w : World} {P : Ending → World → Prop} {ap aw ax awx : Option Addr} {n nx cp cw cx cwx fb BP BX : Nat} {l lx : List Ins} {s : ByteArray} {x1 x2 x3 x4 x9 x11 x12 x13 x14 x15 x16 x17 x18 x19 x20 x21 x22 x23 x24 x25 x26 x27 x28 x29 x30 x31 x32 x33 x34 x35 x36 x37 x38 x39 x40 x41 x42 x43 x44 x45 x46 x47 x48 x49 x50 x51 x52 x53 x54 x55 x56 x57 x58 x59 x60 x61 x62 x63 x64 x65 x66 x67 x68 x69 x70 x71 x72 x73 x74 x75 x76 x77 x78 x79 x80 x81 x82 x83 x84 x85 x86 x87 x88 x89 x90 x91 x92 x93 x94 x95 x96 x97 x98 x99 x100 x101 x102 x103 x104 x105 x106 x107 x108 x109 x110 x111 x112 x113 x114 x115 x116 x117 x118 x119 x120 x121 x122 x123 x124 x125 x126 x127 x128 x129 x130 x131 x132 x133 x134 x135 x136 x137 x138 x139 x140 x141 x142 x143 x144 x145 x146 x147 x148 x149 x150 x151 x152 x153 x154 x155 x156 x157 x158 x159 x160 x161 : Value} (hT : PT w00) (hNT : NT w00) (k0 : Keeps (fun _ => False) w00 w) (hs : s.size ≤ 9223372036854775807) (hl : prL (prsR s) = l)
    (hp : w.ownsRow BP 38 11 (.slice ap n cp) n (icl (chg n l))) (hn : l.length = n) (hb : n ≤ 64) (hBP : w00.heap.size ≤ BP) (hBX : w00.heap.size ≤ BX) (hf : CL w fb [.int .i64 (prF (prsR s)).1, .int .i64 (prF (prsR s)).2.1, .int .i64 (prF (prsR s)).2.2]) (hw : ISL w aw l) (hx : w.ownsRow BX 38 11 (.slice ax nx cx) nx (icl lx)) (hnx : lx.length = nx) (hbx : nx ≤ 64) (hwx : ISL w awx lx)
    (hA1 : ∀ g, Value.ownBlock (.slice ap n cp) = some g → fb ≠ g ∧ Value.ownBlock (.slice ax nx cx) ≠ some g ∧ (∀ off, aw ≠ some ⟨g, off, none⟩) ∧ (∀ off, awx ≠ some ⟨g, off, none⟩))
    (hA2 : ∀ g, Value.ownBlock (.slice ax nx cx) = some g → ∀ off, aw ≠ some ⟨g, off, none⟩) (hwl : ∀ b off, aw = some ⟨b, off, none⟩ → b < w.heap.size)
    (hP : ∀ w', Keeps (fun _ => False) w00 w' → P (.returned (.bool true)) w') :
    (frT1 Tryd.f4).wp Tryd.prog (bodyPost Tryd.prog Tryd.f4 P) { tmps := #[.string s, x1, x2, x3, x4, .slice ap n cp, .pointer (some ⟨fb, 0, none⟩), .slice aw n cw, .slice ax nx cx, x9, .slice awx nx cwx, x11, x12, x13, x14, x15, x16, x17, x18, x19, x20, x21, x22, x23, x24, x25, x26, x27, x28, x29, x30, x31, x32, x33, x34, x35, x36, x37, x38, x39, x40, x41, x42, x43, x44, x45, x46, x47, x48, x49, x50, x51, x52, x53, x54, x55, x56, x57, x58, x59, x60, x61, x62, x63, x64, x65, x66, x67, x68, x69, x70, x71, x72, x73, x74, x75, x76, x77, x78, x79, x80, x81, x82, x83, x84, x85, x86, x87, x88, x89, x90, x91, x92, x93, x94, x95, x96, x97, x98, x99, x100, x101, x102, x103, x104, x105, x106, x107, x108, x109, x110, x111, x112, x113, x114, x115, x116, x117, x118, x119, x120, x121, x122, x123, x124, x125, x126, x127, x128, x129, x130, x131, x132, x133, x134, x135, x136, x137, x138, x139, x140, x141, x142, x143, x144, x145, x146, x147, x148, x149, x150, x151, x152, x153, x154, x155, x156, x157, x158, x159, x160, x161], defers := [] } w := by
  have HP : Hid (∀ w', Keeps (fun _ => False) w00 w' → P (.returned (.bool true)) w') := hP
  have HB : Hid (n ≤ 64 ∧ nx ≤ 64) := ⟨hb, hbx⟩
  have HA1 : Hid (∀ g, Value.ownBlock (.slice ap n cp) = some g → fb ≠ g ∧ Value.ownBlock (.slice ax nx cx) ≠ some g ∧ (∀ off, aw ≠ some ⟨g, off, none⟩) ∧ (∀ off, awx ≠ some ⟨g, off, none⟩)) := hA1
  have HA2 : Hid (∀ g, Value.ownBlock (.slice ax nx cx) = some g → ∀ off, aw ≠ some ⟨g, off, none⟩) := hA2
  have HWL : Hid (∀ b off, aw = some ⟨b, off, none⟩ → b < w.heap.size) := hwl
  clear hP hb hbx hA1 hA2 hwl
  have kS0 := k0.size
  have hBPl : BP ≤ w.heap.size ∨ ∀ g, Value.ownBlock (.slice ap n cp) ≠ some g := by
    rcases hp.2 with ⟨h1, _⟩ | ⟨g, _, _, h1, h2, _⟩
    · exact .inr (fun g e => by rw [h1] at e; cases e)
    · have := owns_lt' hp g (by rw [h1]; rfl)
      exact .inl (by omega)
  have hp0 : w.ownsRow w00.heap.size 38 11 (.slice ap n cp) n (icl (chg n l)) := by
    refine ⟨hp.1, ?_⟩
    rcases hp.2 with h | ⟨g, cpp, cur, h1, h2, h3⟩
    · exact .inl h
    · exact .inr ⟨g, cpp, cur, h1, by omega, h3⟩
  have hx0 : w.ownsRow w00.heap.size 38 11 (.slice ax nx cx) nx (icl lx) := by
    refine ⟨hx.1, ?_⟩
    rcases hx.2 with h | ⟨g, cpp, cur, h1, h2, h3⟩
    · exact .inl h
    · exact .inr ⟨g, cpp, cur, h1, by omega, h3⟩
  clear hp hx hBPl hBP hBX
  obtain ⟨v6, w6, hr6, ho6, k6, hb6⟩ := append_i2 hp0 kS0 (by have := HB.out.1; omega) (qC 77)
  dsimp only [qC, ins0] at hr6
  obtain ⟨am, cm, rfl⟩ := slice_of_owns ho6
  have K6 : Keeps (fun _ => False) w00 w6 := k0.trans' k6 (fun _ _ e => e) (fun i hi e => by have := owns_base hp0 i e; omega)
  have hw6 := hw.keepS k6 (fun b off e h => (HA1.out b h).2.2.1 off e)
  have hwx6 := hwx.keepS k6 (fun b off e h => (HA1.out b h).2.2.2 off e)
  have hx6 := k6.owns hx0 (fun g hg h => (HA1.out g h).2.1 hg)
  have hf6 := hf.keep (by show 0 < 3; decide) k6 (fun h => (HA1.out fb h).1 rfl)
  have hmx : ∀ g, Value.ownBlock (.slice am (n + 1) cm) = some g → Value.ownBlock (.slice ax nx cx) ≠ some g := fun g hg e => by
    rcases hb6 with h | h
    · exact (HA1.out g (h.symm.trans hg)).2.1 e
    · have h2 : some (w.heap.size + 1) = some g := h.symm.trans hg
      injection h2 with h2
      have := owns_lt' hx0 g e
      omega
  have HMX : Hid _ := hmx
  clear hmx hb6 hw hwx hx0 hf hp0
  have hPa := parse_all (w := w6) s hs (hT.keep K6) (hNT.keep K6)
  rw [hl, hn] at hPa
  obtain ⟨⟨F1, F2, F3⟩, hF⟩ : ∃ F, prF (prsR s) = F := ⟨_, rfl⟩
  rw [hF] at hPa hf6
  simp only at hPa hf6
  have e1 : (F1 != F1) = false := by simp
  have e2 : (F2 != F2) = false := by simp
  have e3 : (F3 != F3) = false := by simp
  clear hF
  dsimp only [frT1, Tryd.f4]
  refine wp_seq_k (fun KK hKK => ?_)
  have hKH : Hid _ := hKK
  clear hKK
  go_wp2_with (at_builtin; refine wpList_append_run' rfl _ _ _ rfl _ _ _ w6 rfl rfl hr6 ?_; clear hr6)
  refine hKH.out _ _ ?_
  clear hKH KK
  refine wp_seq_k (fun KK hKK => ?_)
  have hKH : Hid _ := hKK
  clear hKK
  go_wp2_with fail
  refine hPa.mono ?_
  clear hPa
  rintro e w7 ⟨v7, rfl, ho7, k7, _⟩
  obtain ⟨aq, cq, rfl⟩ := slice_of_owns ho7
  obtain ⟨W8, hW8⟩ : ∃ W8, W8 = w7.alloc (.cells #[.int .i64 F1, .int .i64 F2, .int .i64 F3] 26) := ⟨_, rfl⟩
  have k8 : Keeps (fun _ => False) w7 W8 := by rw [hW8]; exact (Keeps.refl _ w7).alloc _
  have g8 : CL W8 w7.heap.size [.int .i64 F1, .int .i64 F2, .int .i64 F3] := by rw [hW8]; exact CL.made w7 _ _
  have HW8 : Hid (_ = _) := hW8
  clear hW8
  go_wp2_with fail
  refine hKH.out _ _ ?_
  clear hKH KK
  rw [← HW8.out]
  clear HW8
  have K68 := k7.trans k8
  have K8 := K6.trans K68
  have hf8 := hf6.keep (by show 0 < 3; decide) K68 (fun e => e)
  have f0 := hf8.c 0 _ rfl
  have f1 := hf8.c 1 _ rfl
  have f2 := hf8.c 2 _ rfl
  have g0 := g8.c 0 _ rfl
  have g1 := g8.c 1 _ rfl
  have g2 := g8.c 2 _ rfl
  have ho8 := k8.owns ho7 (fun _ _ e => e)
  obtain ⟨aq', cq', eq', hIq⟩ := isl_of_owns ho8 hn
  injection eq' with eq1 _ eq3
  subst eq1 eq3
  have hBq := backs_any (cap := cq) hIq (by rw [hn]; have := HB.out.1; omega)
  rw [hn] at hBq
  clear ho7 hf8 hf6 g8
  refine wp_seq_k (fun KK hKK => ?_)
  have hKH : Hid _ := hKK
  clear hKK
  go_wp2_with fail
  refine hBq.mono ?_
  clear hBq
  rintro e w9 ⟨v9, rfl, ho9, k9⟩
  obtain ⟨a9, c9, rfl, hI9⟩ := isl_of_owns_r' ho9 hn
  have K69 := K68.trans k9
  have hSm := same_any (c1 := c9) (c2 := cw) hI9 (hw6.keep K69) (by rw [hn]; have := HB.out.1; omega)
  rw [hn] at hSm
  clear ho9 hI9 f0 f1 f2 g0 g1 g2
  go_wp2_with fail
  refine hSm.mono ?_
  clear hSm
  rintro e w10 ⟨rfl, k10⟩
  have K610 := K69.trans k10
  have hx10 := K610.owns hx6 (fun _ _ e => e)
  obtain ⟨ax', cx', ex', hIx⟩ := isl_of_owns hx10 hnx
  injection ex' with ex1 _ ex3
  subst ex1 ex3
  have hBx := backs_any (cap := cx) hIx (by rw [hnx]; have := HB.out.2; omega)
  rw [hnx] at hBx
  clear hIx hx10
  go_wp2_with fail
  refine hBx.mono ?_
  clear hBx
  rintro e w11 ⟨v11, rfl, ho11, k11⟩
  obtain ⟨a11, c11, rfl, hI11⟩ := isl_of_owns_r' ho11 hnx
  have K611 := K610.trans k11
  have hSx := same_any (c1 := c11) (c2 := cwx) hI11 (hwx6.keep K611) (by rw [hnx]; have := HB.out.2; omega)
  rw [hnx] at hSx
  clear ho11 hI11
  go_wp2_with fail
  refine hSx.mono ?_
  clear hSx
  rintro e w12 ⟨rfl, k12⟩
  have K612 := K611.trans k12
  have K812 : Keeps (fun _ => False) W8 w12 := ((k9.trans k10).trans k11).trans k12
  go_wp2_with fail
  refine hKH.out _ _ ?_
  clear hKH KK
  have K12 := K6.trans K612
  have hq12 := K812.owns ho8 (fun _ _ e => e)
  have hx12 := K612.owns hx6 (fun _ _ e => e)
  have hM12 := K612.owns ho6 (fun _ _ e => e)
  have hw12 := hw6.keep K612
  have hqb : ∀ g, Value.ownBlock (.slice aq n cq) = some g → w6.heap.size ≤ g := fun g e => owns_base ho8 g e
  have hs612 := K612.size
  have hs06 := K6.size
  have hml : ∀ g, Value.ownBlock (.slice am (n + 1) cm) = some g → g < w6.heap.size := fun g e => owns_lt' ho6 g e
  have hxl : ∀ g, Value.ownBlock (.slice ax nx cx) = some g → g < w6.heap.size := fun g e => owns_lt' hx6 g e
  have hwl6 : ∀ b off, aw = some ⟨b, off, none⟩ → b < w6.heap.size := fun b off e => by have := HWL.out b off e; have := k6.size; omega
  clear ho8 hx6 ho6 hw6 hwx6 K68 K69 K610 K611 k7 k8 k9 k10 k11 k12 k6 K8
  obtain ⟨v13, w13, hr13, ho13, k13, hb13⟩ := append_i2 hq12 hs612 (by have := HB.out.1; omega) (qC 78)
  dsimp only [qC, ins0] at hr13
  obtain ⟨aa, ca, rfl⟩ := slice_of_owns ho13
  have hx13 := k13.owns hx12 (fun g hg h => by have := hxl g hg; have := hqb g h; omega)
  have hM13 := k13.owns hM12 (fun g hg h => by have := hml g hg; have := hqb g h; omega)
  have hw13 := hw12.keepS k13 (fun b off e h => by have := hwl6 b off e; have := hqb b h; omega)
  have hs13 := k13.size
  obtain ⟨v14, w14, hr14, ho14, k14, _⟩ := append_i2 hx13 (by omega) (by have := HB.out.2; omega) (qC 79)
  dsimp only [qC, ins0] at hr14
  obtain ⟨al, cl, rfl⟩ := slice_of_owns ho14
  have hM14 := k14.owns hM13 (fun g hg h => HMX.out g hg h)
  have ha14 := k14.owns ho13 (fun g hg h => by
    have h1 := hxl g h
    rcases hb13 with h2 | h2
    · have := hqb g (h2.symm.trans hg); omega
    · have h3 : some (w12.heap.size + 1) = some g := h2.symm.trans hg
      injection h3 with h3
      omega)
  have hw14 := hw13.keepS k14 (fun b off e h => HA2.out b h off e)
  have K14 : Keeps (fun _ => False) w00 w14 := (K12.trans' k13 (fun _ _ e => e) (fun i hi e => by have := hqb i e; omega)).trans' k14 (fun _ _ e => e) (fun i hi e => by have := owns_base hx13 i e; omega)
  obtain ⟨gm, rfl, cm0⟩ := last_code hM14 (by rw [chg_len]; exact hn)
  obtain ⟨ga, rfl, ca0⟩ := last_code ha14 hn
  obtain ⟨gl, rfl, cl0⟩ := last_code ho14 hnx
  obtain ⟨am', cm', em', hIm⟩ := isl_of_owns hM14 (by rw [List.length_append, chg_len, hn]; rfl)
  injection em' with em1 _ em3
  subst em1 em3
  refine wp_seq_k (fun KK hKK => ?_)
  have hKH : Hid _ := hKK
  clear hKK
  go_wp2_with (at_builtin; refine wpList_append_run' rfl _ _ _ rfl _ _ _ w13 rfl rfl hr13 ?_; clear hr13)
  refine hKH.out _ _ ?_
  clear hKH KK
  refine wp_seq_k (fun KK hKK => ?_)
  have hKH : Hid _ := hKK
  clear hKK
  go_wp2_with (at_builtin; refine wpList_append_run' rfl _ _ _ rfl _ _ _ w14 rfl rfl hr14 ?_; clear hr14)
  refine hKH.out _ _ ?_
  clear hKH KK
  clear hM13 hM14 ha14 ho13 ho14 hx13 hx12 hM12 hq12 k13 k14 hb13 hw13 hw12 hT hNT k0 hs hl K6 K612 K812 K12 hqb hml hxl hwl6 hs612 hs06 hs13 e1 e2 e3 HMX HA1 HA2 HWL kS0
  have s1 : IntKind.i64.wrap (((n + 1 : Nat) : Int) - 1) = (n : Int) := by have := HB.out.1; rw [IntKind.wrap_i64]; omega
  have s2 : IntKind.i64.wrap (((nx + 1 : Nat) : Int) - 1) = (nx : Int) := by have := HB.out.2; rw [IntKind.wrap_i64]; omega
  have s1' : IntKind.i64.wrap ((n : Int) + 1 - 1) = (n : Int) := by have := HB.out.1; rw [IntKind.wrap_i64]; omega
  have s2' : IntKind.i64.wrap ((nx : Int) + 1 - 1) = (nx : Int) := by have := HB.out.2; rw [IntKind.wrap_i64]; omega
  have w1' : wrap64 (n : Int) = (n : Int) := by have := HB.out.1; unfold wrap64; omega
  have w2' : wrap64 (nx : Int) = (nx : Int) := by have := HB.out.2; unfold wrap64; omega
  have t1 : (0 : Int) ≤ (n : Int) := by omega
  have t2 : (n : Int) < ((n + 1 : Nat) : Int) := by omega
  have t3 : (0 : Int) ≤ (nx : Int) := by omega
  have t4 : (nx : Int) < ((nx + 1 : Nat) : Int) := by omega
  have t5 : (n : Int) < (n : Int) + 1 := by omega
  have t6 : (nx : Int) < (nx : Int) + 1 := by omega
  refine wp_seq_k (fun KK hKK => ?_)
  have hKH : Hid _ := hKK
  clear hKK
  go_wp2_with fail
  refine hKH.out _ _ ?_
  clear hKH KK
  exact fresh_t2 hw14 hn hIm rfl HB.out.1 (fun w' kw => HP.out _ (K14.trans kw))
end Go.Proofs.YtclednbclgkdaaaDoor
