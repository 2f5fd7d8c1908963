import Derived.Test.YtgjndhbfjofkeaaGreatDoorCb
namespace Go.Proofs.YtgjndhbfjofkeaaGreatDoor
open Go.RowKit Go.Maps Go.ChangeMaps Go.MapKept Go.WideShapes
attribute [local go_sem] Oper.semAt_some run_store_nf run_store_f
/-- Between two moves of RetryClean. -/
def ClI (w : World) (fb lB : Nat) (B : Bk) (nd : Nat) (xs : Nat → Int) (kd : Nat) (p : Int) (n : Nat) (t : Nat) (hg : Int) (W : World) : Prop :=
  ∃ ρ lb P s m, PI w fb B nd xs kd p n t ρ lb P s m W ∧ Ow w fb ρ lb lB ∧ CL W lB (ow4 P) ∧ (1 ≤ t → 0 < hg) ∧ (t = 0 → ∀ k, k < 4 → (P k).T.a = none) ∧ 0 ≤ hg ∧ hg < (s.atts.length : Int)
theorem MO.someC {kd t i : Nat} {st : Int} {p p' : Pt} {s s' : Ws} {m m' : Mm} {r : Ro} {b : Bool} (h : MO kd t i st p p' s m r b s' m') (hq : PQ kd t i p s m) : p'.T.a ≠ none := by
  cases h with
  | over h hb hr hp hs hm => intro e; rw [hp] at e; exact h (hq.no e).2.1
  | ask h ab ha hal hb hr hm sa => rw [sa.T, ha]; exact fun e => (by cases e)
  | step h hb si =>
    cases si with
    | begin ab c a e hc hp hs hm => subst hp; exact fun e => (by cases e)
    | again ab0 ab q c a d hq e hc hp hs hm => subst hp; exact fun e => (by cases e)
    | go ab r0 a al e hT sp po =>
      rw [hT]
      have oT : (p.T.out r0.fin).a = p.T.a := by unfold Tr.out; split <;> rfl
      rw [oT, a]; exact fun e => (by cases e)
section
variable {w w' : World}
set_option maxHeartbeats 600000 in
set_option maxRecDepth 1000000 in
theorem clean_any {k pa f s : Int} {da va ma : Option Addr} {dl dc vl vc mc : Nat} {z xs : Nat → Int} {ms : List Mv} (hT : TR w) (hv : IsRaw w va vl z) (hvc : vl ≤ vc) (hb : vl ≤ 9223372036854775807) (hd : IsRaw w da dl xs) (hdl : dl ≤ 17592186044416) (hx : ∀ i, In64 (xs i)) (hf : In64 f) (hs : In64 s) (hm : MVL w ma ms) (hml : ms.length ≤ 9223372036854775807) :
    Calls Tryz.prog 6 #[.agg #[.int .i64 k, .int .i64 pa, .slice da dl dc, .slice va vl vc, .int .i64 f, .int .i64 s], .slice ma ms.length mc] w fun e w' => e = .returned (.bool true) ∧ Below w.heap.size w w' := by
  obtain ⟨w0, hw0⟩ : ∃ w0, w0 = w.alloc (.cells #[.int .i64 k, .int .i64 pa, .slice da dl dc, .slice va vl vc, .int .i64 f, .int .i64 s] 24) := ⟨_, rfl⟩
  have k0 : Keeps (fun _ => False) w w0 := by rw [hw0]; exact (Keeps.refl _ w).alloc _
  have hO := open_any (k := k) (pa := pa) (dc := dc) (hT.keep k0) (hv.keep k0) hvc hb (hd.keep k0) hdl hx hf hs
  go_enter Tryz.func6, Tryz.ntmps6
  go_wp2_with fail
  rw [← hw0]
  clear hw0
  refine hO.mono ?_
  clear hO hv hd
  rintro e W1 ⟨fb, ρ, lb, B, xs', kd, p, ws, mm, n, rfl, F, D, Q, Bd, hn, hno, _, hat, hold, hfb, k1⟩
  have l0 := k0.size
  have hP : PI w fb B dl xs' kd p n 0 ρ lb pt0 ws mm W1 := ⟨⟨_, F⟩, ⟨_, D, Bd⟩, Q, ⟨hn.1, hn.2, hno⟩, fun q hq => hold q (by omega), by omega, k0.trans k1⟩
  have hI2 : ClI w fb W1.heap.size B dl xs' kd p n 0 0 (W1.alloc (.cells #[.bool false, .bool false, .bool false, .bool false, .bool false, .bool false, .bool false, .bool false, .bool false, .bool false, .bool false, .bool false, .bool false, .bool false, .bool false, .bool false, .bool false, .bool false, .bool false, .bool false, .bool false, .bool false, .bool false, .bool false, .bool false, .bool false, .bool false, .bool false, .bool false, .bool false, .bool false, .bool false] 67)) :=
    ⟨ρ, lb, pt0, ws, mm, hP.new ((Keeps.refl _ W1).alloc _), hP.ow (Nat.le_refl _), CL.made W1 (ow4 pt0) 67, fun e => by omega, fun _ k _ => rfl, Int.le_refl _, by rw [hat]; decide⟩
  clear hP F D Q Bd
  obtain ⟨W2, hW2⟩ : ∃ W2, W2 = W1.alloc (.cells #[.bool false, .bool false, .bool false, .bool false, .bool false, .bool false, .bool false, .bool false, .bool false, .bool false, .bool false, .bool false, .bool false, .bool false, .bool false, .bool false, .bool false, .bool false, .bool false, .bool false, .bool false, .bool false, .bool false, .bool false, .bool false, .bool false, .bool false, .bool false, .bool false, .bool false, .bool false, .bool false] 67) := ⟨_, rfl⟩
  rw [← hW2] at hI2
  go_wp2_with fail
  try rw [← hW2]
  clear hW2
  generalize W1.heap.size = lB at *
  clear hold hfb k1
  go_loopw [7, 9] (fun hv iv Wr => ∃ (t : Nat) (hg : Int), hv = .int .i64 hg ∧ iv = .int .i64 ((t : Int) - 1) ∧ t ≤ ms.length + 1 ∧ t ≤ 4001 ∧ ClI w fb lB B dl xs' kd p n t hg Wr) (fun _ iv _ => (ms.length + 1) - (intOf iv + 1).toNat)
  case atStart => exact ⟨0, 0, rfl, rfl, by omega, by omega, hI2⟩
  case round =>
    obtain ⟨t, hg, rfl, rfl, ht1, ht2, hI⟩ := hrel
    by_cases hend : (ms.length : Int) ≤ (t : Int) - 1 ∨ 4000 ≤ (t : Int) - 1
    · obtain ⟨q, rfl⟩ : ∃ q, t = q + 1 := ⟨t - 1, by omega⟩
      obtain ⟨ρ, lb, P, s1, m1, hP, hOw, hL, hht, hz, hl1, hl2⟩ := hI
      have h1 := hht (by omega)
      have hBel : Hid (Below w.heap.size w wr) := hP.k.below (Nat.le_refl _) (fun _ _ e => e)
      have eq1 : ((q + 1 : Nat) : Int) - 1 = (q : Int) := by omega
      rw [eq1] at hend ⊢
      have hb0 : decide (0 < hg) = true := by simp; omega
      clear hP hOw hL hz hht
      by_cases hq1 : (q : Int) < (ms.length : Int)
      · have hq2 : ¬ (q : Int) < 4000 := by omega
        go_wp2_with fail
        go_ret
        first | exact ⟨rfl, hBel.out⟩ | exact ⟨by simp [h1], hBel.out⟩
      · go_wp2_with fail
        go_ret
        first | exact ⟨rfl, hBel.out⟩ | exact ⟨by simp [h1], hBel.out⟩
    · obtain ⟨mp, ma', mx, hmv⟩ : ∃ mp ma' mx : Int, (t = 0 ∧ mp = 0 ∧ ma' = 0 ∧ mx = 0) ∨ ∃ k : Nat, t = k + 1 ∧ ms.getD k mv0 = ⟨mp, ma', mx⟩ := by
        rcases Nat.eq_zero_or_pos t with h | h
        · exact ⟨0, 0, 0, .inl ⟨h, rfl, rfl, rfl⟩⟩
        · exact ⟨_, _, _, .inr ⟨t - 1, by omega, rfl⟩⟩
      obtain ⟨i, hi⟩ : ∃ i : Nat, mp % 4 = (i : Int) := ⟨(mp % 4).toNat, by omega⟩
      have hi4 : i < 4 := by omega
      have hi4I : (i : Int) < 4 := by omega
      obtain ⟨ρ, lb, P, s1, m1, hP, hOw, hL, hht, hz, hl1, hl2⟩ := hI
      have hlow : Hid (0 ≤ hg ∧ hg < (s1.atts.length : Int)) := ⟨hl1, hl2⟩
      clear hl1 hl2
      obtain ⟨Wm, hWm⟩ : ∃ Wm, Wm = wr.alloc (.cells #[.int .i64 mp, .int .i64 ma', .int .i64 mx] 32) := ⟨_, rfl⟩
      have km : Keeps (fun _ => False) wr Wm := by rw [hWm]; exact (Keeps.refl _ wr).alloc _
      have hM : CL Wm wr.heap.size [.int .i64 mp, .int .i64 ma', .int .i64 mx] := by rw [hWm]; exact CL.made wr [.int .i64 mp, .int .i64 ma', .int .i64 mx] _
      have oM := hP.ow (Nat.le_refl _)
      have hPm := hP.new km
      have hLm := hL.keep (by show 0 < 32; decide) km (fun e => e)
      have hMv := hPm.mv (by omega) hi4 mp ma' mx hi
      have lM := hM.lt (by show 0 < 3; decide)
      have lL := hLm.lt (by show 0 < 32; decide)
      have hmr := hm.keep hP.k
      rcases hmv with ⟨rfl, h0⟩ | ⟨q, rfl, hq⟩
      · have h0 : Hid (mp = 0 ∧ ma' = 0 ∧ mx = 0) := h0
        have e0 : Hid (wr.alloc (.cells #[.int .i64 0, .int .i64 0, .int .i64 0] 32) = Wm) := by show _ = _; rw [hWm, h0.out.1, h0.out.2.1, h0.out.2.2]
        have hMv0 := hMv
        rw [h0.out.1, h0.out.2.1, h0.out.2.2] at hMv0
        clear hMv
        have hMv := hMv0
        clear hMv0 hWm
        obtain rfl : i = 0 := by have z := h0.out.1; omega
        go_wp2_with fail
        rw [e0.out]
        clear e0
        rename_i KR hKR Ko hKo
        refine hMv.mono ?_
        clear hMv
        rintro e Wv ⟨r, b, p', s2, m2, ρ2, lb2, st, rfl, P2, X2, mo⟩
        have hM2 := hM.keep (by show 0 < 3; decide) X2.keeps oM.no
        have hL2 := hLm.keep (by show 0 < 32; decide) X2.keeps hOw.no
        have hOw2 := hOw.fx lL X2
        have oM2 := oM.fx lM X2
        have sX := X2.keeps.size
        have nM : ¬ wr.heap.size = Wv.heap.size := by omega
        have nL : ¬ lB = Wv.heap.size := by omega
        have cm := clean_mo mo
        have hai : p'.T.a ≠ none := mo.someC (hP.fq.pt 0 hi4)
        obtain ⟨hbt, hkd⟩ : b = true ∧ r.kind = 1 := by
          have hz1 := hz (by simp) 0 hi4
          cases mo with
          | over h hb => exact absurd ((hP.fq.pt 0 hi4).no hz1).2.1 h
          | ask h ab ha => rw [hz1] at ha; cases ha
          | step h hb si =>
            refine ⟨hb, ?_⟩
            cases si with
            | begin ab c a e => rw [e]; rfl
            | again ab0 ab q c a => rw [hz1] at a; cases a
            | go ab r0 a => rw [hz1] at a; cases a
        subst hbt
        obtain ⟨W4, hW4⟩ : ∃ W4, W4 = Wv.alloc (.cells #[.int .i64 0, .int .i64 0, .int .i64 0, .int .i64 0, .int .i64 0, .int .i64 0, .int .i64 0, .int .i64 0, .int .i64 0, .int .i64 0, .int .i64 0, .int .i64 0, .int .i64 0, .bool false, .bool false, .bool false, .int .i64 0, .bool false, .int .i64 0, .int .i64 0, .bool false, .bool false, .int .i64 0, .int .i64 0, .bool false, .int .i64 0] 36) := ⟨_, rfl⟩
        have k4 : Keeps (fun _ => False) Wv W4 := by rw [hW4]; exact (Keeps.refl _ Wv).alloc _
        have hc4 : CL W4 Wv.heap.size Ro.zero.cells := by rw [hW4]; exact CL.made _ Ro.zero.cells _
        have hKRH : Hid _ := hKR
        clear hKR
        go_wp2_with (first | (rw [← hW4]; clear hW4; refine wpList_store_cl rfl 36 _ _ rfl Wv.heap.size 0 26 _ rfl rfl rfl hc4 (by show 26 ≤ 26; decide) i46 (all_oneCell_toArray (by simp [Ro.cells, Value.oneCell'])) ?_; intro w5 hc5 k5 hsz5; clear hsz5))
        refine hKRH.out _ _ ?_
        clear hKRH KR
        have hr5 : CL w5 Wv.heap.size r.cells := hc5
        have K5 : Keeps (fun k => k = Wv.heap.size) Wv w5 := (k4.mono (fun _ _ e => e.elim)).trans k5
        have c0 := (hM2.keep (by show 0 < 3; decide) K5 nM).c 0 _ rfl
        have hP5 := P2.own K5 (fun j hj e => by exfalso; have e : j = Wv.heap.size := e; omega)
        obtain ⟨st5, D5, _⟩ := hP5.fd
        have f5 := D5.tb hi4
        simp only [Nat.add_zero] at f5
        clear hc4 k4 k5 hc5 D5
        refine wp_seq_k (fun K hK => ?_)
        have hKH : Hid _ := hK
        clear hK
        go_wp2_with fail
        refine hKH.out _ _ ?_
        clear hKH K
        refine wp_seq_k (fun K hK => ?_)
        have hKH : Hid _ := hK
        clear hK
        go_wp2_with (go_at_call 10; refine (rest_any _ _ 4 ⟨by omega, by omega⟩).mono ?_; rintro e Wq ⟨rfl, hq⟩; subst hq)
        refine hKH.out _ _ ?_
        clear hKH K
        refine wp_seq_k (fun K hK => ?_)
        have hKH : Hid _ := hK
        clear hK
        go_wp2_with fail
        refine hKH.out _ _ ?_
        clear hKH K
        have hS5 := hL2.keep (by show 0 < 32; decide) K5 nL
        have nL' : ¬ Wv.heap.size = lB := fun e => nL e.symm
        refine wp_q (fun QQ hQQ => ?_) (fun _ _ _ h => h)
        have rest : ∀ {x4 x10 x11 x12 x13 x16 x24 x25 x26 x27 x28 x29 x30 x31 x32 x33 x34 x35 x36 x37 x38 x39 x40 x41 x42 x43 x44 x45 x46 x47 x48 x49 x50 x51 x52 x53 x54 x55 x56 x57 x58 x59 x60 x61 x62 x63 x64 x65 x66 x67 x68 x69 x70 x71 x72 x73 x74 x75 x76 x77 x78 x79 x80 x81 x82 x83 x84 x85 x86 x87 x88 x89 x90 x91 x92 x93 x94 x95 x96 x97 x98 x99 x100 x101 x102 x103 x104 x105 x106 x107 x108 x109 x110 x111 x112 x113 x114 x115 x116 x117 x118 x119 x120 x121 x122 x123 x124 x125 x126 x127 x128 x129 x130 x131 x132 x133 x134 x135 x136 x137 : Value} {hgv : Int} {W6 : World}, PI w fb B dl xs' kd p n (0 + 1) ρ2 lb2 (fun k => if k = 0 then p' else P k) s2 m2 W6 → CL W6 lB (ow4 (fun k => if k = 0 then p' else P k)) → (0 < hgv ∧ hgv < (s2.atts.length : Int)) → (cleanTail Tryz.f6).wp Tryz.prog QQ { tmps := #[.agg #[.int .i64 k, .int .i64 pa, .slice da dl dc, .slice va vl vc, .int .i64 f, .int .i64 s], .slice ma ms.length mc, .pointer (some ⟨w.heap.size, 0, none⟩), undef, x4, .pointer (some ⟨fb, 0, none⟩), .bool true, .int .i64 hgv, .pointer (some ⟨lB, 0, none⟩), .int .i64 (-1), x10, x11, x12, x13, .int .i64 0, .pointer (some ⟨B.tb 0, 0, none⟩), x16, .tuple #[.pointer (some ⟨fb, 0, none⟩), .bool true], .agg #[.int .i64 k, .int .i64 pa, .slice da dl dc, .slice va vl vc, .int .i64 f, .int .i64 s], .tuple #[.pointer (some ⟨fb, 0, none⟩), .bool true], .pointer (some ⟨fb, 0, none⟩), .bool true, .bool true, .bool false, x24, x25, x26, x27, x28, x29, x30, x31, x32, x33, x34, x35, x36, x37, x38, x39, x40, x41, x42, x43, x44, x45, x46, x47, x48, x49, x50, x51, x52, x53, x54, x55, x56, x57, x58, x59, x60, x61, x62, x63, x64, x65, x66, x67, x68, x69, x70, x71, x72, x73, x74, x75, x76, x77, x78, x79, x80, x81, x82, x83, x84, x85, x86, x87, x88, x89, x90, x91, x92, x93, x94, x95, x96, x97, x98, x99, x100, x101, x102, x103, x104, x105, x106, x107, x108, x109, x110, x111, x112, x113, x114, x115, x116, x117, x118, x119, x120, x121, x122, x123, x124, x125, x126, x127, x128, x129, x130, x131, x132, x133, x134, x135, x136, x137, undef, undef], defers := [] } W6 := by
          intro x4 x10 x11 x12 x13 x16 x24 x25 x26 x27 x28 x29 x30 x31 x32 x33 x34 x35 x36 x37 x38 x39 x40 x41 x42 x43 x44 x45 x46 x47 x48 x49 x50 x51 x52 x53 x54 x55 x56 x57 x58 x59 x60 x61 x62 x63 x64 x65 x66 x67 x68 x69 x70 x71 x72 x73 x74 x75 x76 x77 x78 x79 x80 x81 x82 x83 x84 x85 x86 x87 x88 x89 x90 x91 x92 x93 x94 x95 x96 x97 x98 x99 x100 x101 x102 x103 x104 x105 x106 x107 x108 x109 x110 x111 x112 x113 x114 x115 x116 x117 x118 x119 x120 x121 x122 x123 x124 x125 x126 x127 x128 x129 x130 x131 x132 x133 x134 x135 x136 x137 hgv W6 hP6 hO6 hh6
          have hh6H : Hid (_ ∧ _) := hh6
          clear hh6
          refine clean_tail hi4 hP6 hO6 (by show (if 0 = 0 then p' else P 0).T.a ≠ none; rw [if_pos rfl]; exact hai) ?_
          intro y4 y16 y121 y122 y123 y124 y125 y126 y127 y128 y129 y130 y131 y132 y133 y134 y135 y136 y137 W7 hP7 hO7
          refine hQQ _ _ _ ?_
          go_wp2_with fail
          go_roundw
          case rel => exact ⟨0 + 1, hgv, rfl, by first | go_num | rfl | decide, by omega, by omega, ρ2, lb2, _, s2, m2, hP7, hOw2, hO7, fun _ => hh6H.out.1, fun e => by omega, by have := hh6H.out.1; omega, hh6H.out.2⟩
          case measure => first | (simp [intOf]; done) | (simp [intOf]; omega)
        have restH : Hid _ := @rest
        clear rest
        clear hQQ
        have hsm := cm.resolve_right (by
          rintro (⟨_, h, _⟩ | ⟨h | h, _⟩)
          · exact h.1 hkd
          · cases h
          · exact h.1 hkd)
        have c5 := hr5.c 5 _ rfl
        rw [hkd] at c5
        refine wp_seq_k (fun K2 hK2 => ?_)
        have hK2H : Hid _ := hK2
        clear hK2
        refine wp_seq_k (fun K0 hK0 => ?_)
        have hK0H : Hid _ := hK0
        clear hK0
        go_wp2_with fail
        refine hK0H.out _ _ ?_
        clear hK0H K0
        refine wp_cond_true rfl ?_
        refine clean_beg (P0 := P) hi4 hP5 hOw2 hS5 hr5 nL' (ow4_reset hi4 hsm.2.2.2.2.1) (by show (if 0 = 0 then p' else P 0).T.a ≠ none; rw [if_pos rfl]; exact hai) (by show r.no = ((if 0 = 0 then p' else P 0).x.no : Int); rw [if_pos rfl, hsm.2.2.2.1]; exact hsm.2.2.1) (by show hg < ((if 0 = 0 then p' else P 0).x.no : Int); rw [if_pos rfl, hsm.2.2.2.1]; exact hlow.out.2) (by show (if 0 = 0 then p' else P 0).c.rs = []; rw [if_pos rfl]; exact hsm.2.2.2.2.2.1) (by show (if 0 = 0 then p' else P 0).T.state (if 0 = 0 then p' else P 0).x = 1; rw [if_pos rfl]; exact hsm.2.2.2.2.2.2.1) ?_
        intro y70 y71 y72 y73 y74 y75 y76 y77 y78 y79 y80 y81 y82 y83 y84 y85 y86 y87 y88 y89 y90 y91 y92 y93 y94 y95 W7 hP7 hO7 hR7
        show K2 _ _
        refine hK2H.out _ _ ?_
        clear hK2H
        have d5 := hR7.c 5 _ rfl
        rw [hkd] at d5
        refine wp_seq_k (fun K1 hK1 => ?_)
        have hK1H : Hid _ := hK1
        clear hK1
        go_wp2_with fail
        refine hK1H.out _ _ ?_
        exact restH.out hP7 hO7 (by have a_ := hlow.out; have b_ := hsm.2.2.2.2.2.2.2; omega)
      · obtain ⟨mb_, off, rfl, hcm⟩ := hmr.some (by omega)
        have hcq := hcm q (by omega)
        rw [hq] at hcq
        obtain ⟨mc0, mc1, mc2⟩ := hcq
        clear hcm
        have kz : Keeps (fun _ => False) wr (wr.alloc (.cells #[.int .i64 0, .int .i64 0, .int .i64 0] 32)) := (Keeps.refl _ wr).alloc _
        have md0 := kz.cell mc0 (fun e => e)
        have md1 := kz.cell mc1 (fun e => e)
        have md2 := kz.cell mc2 (fun e => e)
        have eq1 : ((q + 1 : Nat) : Int) - 1 = (q : Int) := by omega
        rw [eq1] at hend ⊢
        have hq1 : (q : Int) < (ms.length : Int) := by omega
        have hq2 : (q : Int) < 4000 := by omega
        have hq3 : ¬ (q : Int) < 0 := by omega
        have hq4 : q < ms.length := by omega
        go_wp2_with fail
        rw [← hWm]
        clear hWm md0 md1 md2 kz mc0 mc1 mc2 eq1 hq hq1 hq2 hq3
        rename_i KR hKR Ko hKo
        refine hMv.mono ?_
        clear hMv
        rintro e Wv ⟨r, b, p', s2, m2, ρ2, lb2, st, rfl, P2, X2, mo⟩
        have hM2 := hM.keep (by show 0 < 3; decide) X2.keeps oM.no
        have hL2 := hLm.keep (by show 0 < 32; decide) X2.keeps hOw.no
        have hOw2 := hOw.fx lL X2
        have oM2 := oM.fx lM X2
        have sX := X2.keeps.size
        have nM : ¬ wr.heap.size = Wv.heap.size := by omega
        have nL : ¬ lB = Wv.heap.size := by omega
        have cm := clean_mo mo
        have hai : p'.T.a ≠ none := mo.someC (hP.fq.pt i hi4)
        obtain ⟨W4, hW4⟩ : ∃ W4, W4 = Wv.alloc (.cells #[.int .i64 0, .int .i64 0, .int .i64 0, .int .i64 0, .int .i64 0, .int .i64 0, .int .i64 0, .int .i64 0, .int .i64 0, .int .i64 0, .int .i64 0, .int .i64 0, .int .i64 0, .bool false, .bool false, .bool false, .int .i64 0, .bool false, .int .i64 0, .int .i64 0, .bool false, .bool false, .int .i64 0, .int .i64 0, .bool false, .int .i64 0] 36) := ⟨_, rfl⟩
        have k4 : Keeps (fun _ => False) Wv W4 := by rw [hW4]; exact (Keeps.refl _ Wv).alloc _
        have hc4 : CL W4 Wv.heap.size Ro.zero.cells := by rw [hW4]; exact CL.made _ Ro.zero.cells _
        have hKRH : Hid _ := hKR
        clear hKR
        go_wp2_with (first | (rw [← hW4]; clear hW4; refine wpList_store_cl rfl 36 _ _ rfl Wv.heap.size 0 26 _ rfl rfl rfl hc4 (by show 26 ≤ 26; decide) i46 (all_oneCell_toArray (by simp [Ro.cells, Value.oneCell'])) ?_; intro w5 hc5 k5 hsz5; clear hsz5))
        refine hKRH.out _ _ ?_
        clear hKRH KR
        have hr5 : CL w5 Wv.heap.size r.cells := hc5
        have K5 : Keeps (fun k => k = Wv.heap.size) Wv w5 := (k4.mono (fun _ _ e => e.elim)).trans k5
        have c0 := (hM2.keep (by show 0 < 3; decide) K5 nM).c 0 _ rfl
        have hP5 := P2.own K5 (fun j hj e => by exfalso; have e : j = Wv.heap.size := e; omega)
        obtain ⟨st5, D5, _⟩ := hP5.fd
        have f5 := D5.tb hi4
        skip
        clear hc4 k4 k5 hc5 D5
        refine wp_seq_k (fun K hK => ?_)
        have hKH : Hid _ := hK
        clear hK
        go_wp2_with fail
        refine hKH.out _ _ ?_
        clear hKH K
        refine wp_seq_k (fun K hK => ?_)
        have hKH : Hid _ := hK
        clear hK
        go_wp2_with (go_at_call 10; refine (rest_any _ _ 4 ⟨by omega, by omega⟩).mono ?_; rintro e Wq ⟨rfl, hq⟩; subst hq)
        refine hKH.out _ _ ?_
        clear hKH K
        refine wp_seq_k (fun K hK => ?_)
        have hKH : Hid _ := hK
        clear hK
        go_wp2_with fail
        refine hKH.out _ _ ?_
        clear hKH K
        have hS5 := hL2.keep (by show 0 < 32; decide) K5 nL
        have nL' : ¬ Wv.heap.size = lB := fun e => nL e.symm
        refine wp_q (fun QQ hQQ => ?_) (fun _ _ _ h => h)
        have rest : ∀ {x4 x10 x11 x12 x13 x16 x24 x25 x26 x27 x28 x29 x30 x31 x32 x33 x34 x35 x36 x37 x38 x39 x40 x41 x42 x43 x44 x45 x46 x47 x48 x49 x50 x51 x52 x53 x54 x55 x56 x57 x58 x59 x60 x61 x62 x63 x64 x65 x66 x67 x68 x69 x70 x71 x72 x73 x74 x75 x76 x77 x78 x79 x80 x81 x82 x83 x84 x85 x86 x87 x88 x89 x90 x91 x92 x93 x94 x95 x96 x97 x98 x99 x100 x101 x102 x103 x104 x105 x106 x107 x108 x109 x110 x111 x112 x113 x114 x115 x116 x117 x118 x119 x120 x121 x122 x123 x124 x125 x126 x127 x128 x129 x130 x131 x132 x133 x134 x135 x136 x137 : Value} {hgv : Int} {W6 : World}, PI w fb B dl xs' kd p n ((q + 1) + 1) ρ2 lb2 (fun k => if k = i then p' else P k) s2 m2 W6 → CL W6 lB (ow4 (fun k => if k = i then p' else P k)) → (0 < hgv ∧ hgv < (s2.atts.length : Int)) → (cleanTail Tryz.f6).wp Tryz.prog QQ { tmps := #[.agg #[.int .i64 k, .int .i64 pa, .slice da dl dc, .slice va vl vc, .int .i64 f, .int .i64 s], .slice (some ⟨mb_, off, none⟩) ms.length mc, .pointer (some ⟨w.heap.size, 0, none⟩), undef, x4, .pointer (some ⟨fb, 0, none⟩), .bool true, .int .i64 hgv, .pointer (some ⟨lB, 0, none⟩), .int .i64 (q : Int), x10, x11, x12, x13, .int .i64 (i : Int), .pointer (some ⟨B.tb i, 0, none⟩), x16, .tuple #[.pointer (some ⟨fb, 0, none⟩), .bool true], .agg #[.int .i64 k, .int .i64 pa, .slice da dl dc, .slice va vl vc, .int .i64 f, .int .i64 s], .tuple #[.pointer (some ⟨fb, 0, none⟩), .bool true], .pointer (some ⟨fb, 0, none⟩), .bool true, .bool true, .bool false, x24, x25, x26, x27, x28, x29, x30, x31, x32, x33, x34, x35, x36, x37, x38, x39, x40, x41, x42, x43, x44, x45, x46, x47, x48, x49, x50, x51, x52, x53, x54, x55, x56, x57, x58, x59, x60, x61, x62, x63, x64, x65, x66, x67, x68, x69, x70, x71, x72, x73, x74, x75, x76, x77, x78, x79, x80, x81, x82, x83, x84, x85, x86, x87, x88, x89, x90, x91, x92, x93, x94, x95, x96, x97, x98, x99, x100, x101, x102, x103, x104, x105, x106, x107, x108, x109, x110, x111, x112, x113, x114, x115, x116, x117, x118, x119, x120, x121, x122, x123, x124, x125, x126, x127, x128, x129, x130, x131, x132, x133, x134, x135, x136, x137, undef, undef], defers := [] } W6 := by
          intro x4 x10 x11 x12 x13 x16 x24 x25 x26 x27 x28 x29 x30 x31 x32 x33 x34 x35 x36 x37 x38 x39 x40 x41 x42 x43 x44 x45 x46 x47 x48 x49 x50 x51 x52 x53 x54 x55 x56 x57 x58 x59 x60 x61 x62 x63 x64 x65 x66 x67 x68 x69 x70 x71 x72 x73 x74 x75 x76 x77 x78 x79 x80 x81 x82 x83 x84 x85 x86 x87 x88 x89 x90 x91 x92 x93 x94 x95 x96 x97 x98 x99 x100 x101 x102 x103 x104 x105 x106 x107 x108 x109 x110 x111 x112 x113 x114 x115 x116 x117 x118 x119 x120 x121 x122 x123 x124 x125 x126 x127 x128 x129 x130 x131 x132 x133 x134 x135 x136 x137 hgv W6 hP6 hO6 hh6
          have hh6H : Hid (_ ∧ _) := hh6
          clear hh6
          refine clean_tail hi4 hP6 hO6 (by show (if i = i then p' else P i).T.a ≠ none; rw [if_pos rfl]; exact hai) ?_
          intro y4 y16 y121 y122 y123 y124 y125 y126 y127 y128 y129 y130 y131 y132 y133 y134 y135 y136 y137 W7 hP7 hO7
          refine hQQ _ _ _ ?_
          go_wp2_with fail
          go_roundw
          case rel => exact ⟨(q + 1) + 1, hgv, rfl, by go_num, by omega, by omega, ρ2, lb2, _, s2, m2, hP7, hOw2, hO7, fun _ => hh6H.out.1, fun e => by omega, by have := hh6H.out.1; omega, hh6H.out.2⟩
          case measure => simp [intOf]; omega
        have restH : Hid _ := @rest
        clear rest
        clear hQQ
        have hhp : Hid (0 < hg) := hht (by omega)
        rcases cm with hsm | ⟨rfl, hk12, hk13, hdn, hal, o, l, hob, hol, hfu⟩ | ⟨hb, hfs, hal⟩
        · obtain rfl : b = true := hsm.1
          rcases hsm.2.1 with hkd | hkd
          · have c5 := hr5.c 5 _ rfl
            rw [hkd] at c5
            refine wp_seq_k (fun K2 hK2 => ?_)
            have hK2H : Hid _ := hK2
            clear hK2
            refine wp_seq_k (fun K0 hK0 => ?_)
            have hK0H : Hid _ := hK0
            clear hK0
            go_wp2_with fail
            refine hK0H.out _ _ ?_
            clear hK0H K0
            refine wp_cond_true rfl ?_
            refine clean_beg (P0 := P) hi4 hP5 hOw2 hS5 hr5 nL' (ow4_reset hi4 hsm.2.2.2.2.1) (by show (if i = i then p' else P i).T.a ≠ none; rw [if_pos rfl]; exact hai) (by show r.no = ((if i = i then p' else P i).x.no : Int); rw [if_pos rfl, hsm.2.2.2.1]; exact hsm.2.2.1) (by show hg < ((if i = i then p' else P i).x.no : Int); rw [if_pos rfl, hsm.2.2.2.1]; exact hlow.out.2) (by show (if i = i then p' else P i).c.rs = []; rw [if_pos rfl]; exact hsm.2.2.2.2.2.1) (by show (if i = i then p' else P i).T.state (if i = i then p' else P i).x = 1; rw [if_pos rfl]; exact hsm.2.2.2.2.2.2.1) ?_
            intro y70 y71 y72 y73 y74 y75 y76 y77 y78 y79 y80 y81 y82 y83 y84 y85 y86 y87 y88 y89 y90 y91 y92 y93 y94 y95 W7 hP7 hO7 hR7
            show K2 _ _
            refine hK2H.out _ _ ?_
            clear hK2H
            have d5 := hR7.c 5 _ rfl
            rw [hkd] at d5
            refine wp_seq_k (fun K1 hK1 => ?_)
            have hK1H : Hid _ := hK1
            clear hK1
            go_wp2_with fail
            refine hK1H.out _ _ ?_
            exact restH.out hP7 hO7 (by have a_ := hlow.out; have b_ := hsm.2.2.2.2.2.2.2; omega)
          · have c5 := hr5.c 5 _ rfl
            rw [hkd] at c5
            refine wp_seq_k (fun K2 hK2 => ?_)
            have hK2H : Hid _ := hK2
            clear hK2
            refine wp_seq_k (fun K0 hK0 => ?_)
            have hK0H : Hid _ := hK0
            clear hK0
            go_wp2_with fail
            refine hK0H.out _ _ ?_
            clear hK0H K0
            refine wp_cond_true rfl ?_
            refine clean_beg (P0 := P) hi4 hP5 hOw2 hS5 hr5 nL' (ow4_reset hi4 hsm.2.2.2.2.1) (by show (if i = i then p' else P i).T.a ≠ none; rw [if_pos rfl]; exact hai) (by show r.no = ((if i = i then p' else P i).x.no : Int); rw [if_pos rfl, hsm.2.2.2.1]; exact hsm.2.2.1) (by show hg < ((if i = i then p' else P i).x.no : Int); rw [if_pos rfl, hsm.2.2.2.1]; exact hlow.out.2) (by show (if i = i then p' else P i).c.rs = []; rw [if_pos rfl]; exact hsm.2.2.2.2.2.1) (by show (if i = i then p' else P i).T.state (if i = i then p' else P i).x = 1; rw [if_pos rfl]; exact hsm.2.2.2.2.2.2.1) ?_
            intro y70 y71 y72 y73 y74 y75 y76 y77 y78 y79 y80 y81 y82 y83 y84 y85 y86 y87 y88 y89 y90 y91 y92 y93 y94 y95 W7 hP7 hO7 hR7
            show K2 _ _
            refine hK2H.out _ _ ?_
            clear hK2H
            have d5 := hR7.c 5 _ rfl
            rw [hkd] at d5
            refine wp_seq_k (fun K1 hK1 => ?_)
            have hK1H : Hid _ := hK1
            clear hK1
            go_wp2_with fail
            refine hK1H.out _ _ ?_
            exact restH.out hP7 hO7 (by have a_ := hlow.out; have b_ := hsm.2.2.2.2.2.2.2; omega)
        · have c5 := hr5.c 5 _ rfl
          rw [hk13] at c5
          have c7 := hr5.c 7 _ rfl
          rw [hob] at c7
          have c13 := hr5.c 13 _ rfl
          rw [hdn] at c13
          have ho8 : o < 8 := by have := hP.nn; omega
          have ho8I : decide ((o : Int) < 8) = true := by simp; omega
          refine wp_seq_k (fun K2 hK2 => ?_)
          have hK2H : Hid _ := hK2
          clear hK2
          go_wp2_with fail
          refine hK2H.out _ _ ?_
          clear hK2H K2
          refine wp_seq_k (fun K1 hK1 => ?_)
          have hK1H : Hid _ := hK1
          clear hK1
          refine wp_seq_k (fun K0 hK0 => ?_)
          have hK0H : Hid _ := hK0
          clear hK0
          go_wp2_with fail
          refine hK0H.out _ _ ?_
          clear hK0H K0
          refine wp_cond_true rfl ?_
          refine clean_acq (P0 := P) hi4 ho8 hP5 hOw2 hS5 hr5 nL' (ow4_set hi4 ho8 hfu) hob ?_
          intro y116 y117 y118 y119 y120 W7 hP7 hO7
          show K1 _ _
          refine hK1H.out _ _ ?_
          exact restH.out hP7 hO7 (by rw [hal]; exact ⟨hhp.out, hlow.out.2⟩)
        · rw [ow4_same hfs] at hS5
          cases b with
          | false =>
            refine wp_seq_k (fun K2 hK2 => ?_)
            have hK2H : Hid _ := hK2
            clear hK2
            go_wp2_with fail
            refine hK2H.out _ _ ?_
            clear hK2H K2
            refine wp_seq_k (fun K1 hK1 => ?_)
            have hK1H : Hid _ := hK1
            clear hK1
            go_wp2_with fail
            refine hK1H.out _ _ ?_
            exact restH.out hP5 hS5 (by rw [hal]; exact ⟨hhp.out, hlow.out.2⟩)
          | true =>
            have hb := hb.resolve_left (by intro e; cases e)
            have hk1 : (r.kind == 1) = false := by simpa using hb.1
            have hk2 : (r.kind == 2) = false := by simpa using hb.2.1
            have c5 := hr5.c 5 _ rfl
            have c13 := hr5.c 13 _ rfl
            refine wp_seq_k (fun K2 hK2 => ?_)
            have hK2H : Hid _ := hK2
            clear hK2
            go_wp2_with fail
            refine hK2H.out _ _ ?_
            clear hK2H K2
            by_cases hk13 : r.kind = 13
            · have hdn : r.done = false := by
                cases e : r.done with
                | false => rfl
                | true => exact absurd ⟨hk13, e⟩ hb.2.2
              rw [hdn] at c13
              rw [hk13] at c5
              refine wp_seq_k (fun K1 hK1 => ?_)
              have hK1H : Hid _ := hK1
              clear hK1
              go_wp2_with fail
              refine hK1H.out _ _ ?_
              exact restH.out hP5 hS5 (by rw [hal]; exact ⟨hhp.out, hlow.out.2⟩)
            · have hk13' : (r.kind == 13) = false := by simpa using hk13
              refine wp_seq_k (fun K1 hK1 => ?_)
              have hK1H : Hid _ := hK1
              clear hK1
              go_wp2_with fail
              refine hK1H.out _ _ ?_
              exact restH.out hP5 hS5 (by rw [hal]; exact ⟨hhp.out, hlow.out.2⟩)
end
end Go.Proofs.YtgjndhbfjofkeaaGreatDoor
