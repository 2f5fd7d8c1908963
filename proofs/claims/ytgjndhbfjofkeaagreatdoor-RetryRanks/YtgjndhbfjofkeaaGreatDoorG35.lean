import Derived.Test.YtgjndhbfjofkeaaGreatDoorG34
namespace Go.Proofs.YtgjndhbfjofkeaaGreatDoor
open Go.RowKit Go.Maps Go.ChangeMaps Go.MapKept Go.WideShapes
attribute [local go_sem] Oper.semAt_some run_store_nf run_store_f
def RnI (w : World) (fb lB : Nat) (B : Bk) (nd : Nat) (xs : Nat → Int) (kd : Nat) (p : Int) (n : Nat) (t : Nat) (W : World) : Prop :=
  ∃ ρ lb P s m, PI w fb B nd xs kd p n t ρ lb P s m W ∧ Ow w fb ρ lb lB ∧ CL W lB (rk4 P) ∧ (1 ≤ t → (P 0).T.a ≠ none) ∧ (t = 0 → ∀ k, k < 4 → (P k).T.a = none)
theorem MO.some {kd t i : Nat} {st : Int} {p p' : Pt} {s s' : Ws} {m m' : Mm} {r : Ro} {b : Bool} (h : MO kd t i st p p' s m r b s' m') (hq : PQ kd t i p s m) : p'.T.a ≠ none := by
  cases h with
  | over h hb hr hp hs hm => intro e; rw [hp] at e; exact h (hq.no e).2.1
  | ask h ab ha hal hb hr hm sa => rw [sa.T, ha]; exact fun e => (by cases e)
  | step h hb si =>
    cases si with
    | begin ab c a e hc hp hs hm => subst hp; exact fun e => (by cases e)
    | again ab0 ab q c a d hq e hc hp hs hm => subst hp; exact fun e => (by cases e)
    | go ab r0 a al e hT sp po =>
      rw [hT]
      have oT : (p.T.out r0.fin).a = p.T.a := by unfold Tr.out; split <;> rfl
      rw [oT, a]; exact fun e => (by cases e)
section
variable {w w' : World}
set_option maxHeartbeats 600000 in
set_option maxRecDepth 1000000 in
theorem ranks_any {k pa f s : Int} {da va ma : Option Addr} {dl dc vl vc mc : Nat} {z xs : Nat → Int} {ms : List Mv} (hT : TR w) (hv : IsRaw w va vl z) (hvc : vl ≤ vc) (hb : vl ≤ 9223372036854775807) (hd : IsRaw w da dl xs) (hdl : dl ≤ 17592186044416) (hx : ∀ i, In64 (xs i)) (hf : In64 f) (hs : In64 s) (hm : MVL w ma ms) (hml : ms.length ≤ 9223372036854775807) :
    Calls Tryz.prog 4 #[.agg #[.int .i64 k, .int .i64 pa, .slice da dl dc, .slice va vl vc, .int .i64 f, .int .i64 s], .slice ma ms.length mc] w fun e w' => e = .returned (.bool true) ∧ Below w.heap.size w w' := by
  obtain ⟨w0, hw0⟩ : ∃ w0, w0 = w.alloc (.cells #[.int .i64 k, .int .i64 pa, .slice da dl dc, .slice va vl vc, .int .i64 f, .int .i64 s] 24) := ⟨_, rfl⟩
  have k0 : Keeps (fun _ => False) w w0 := by rw [hw0]; exact (Keeps.refl _ w).alloc _
  have hO := open_any (k := k) (pa := pa) (dc := dc) (hT.keep k0) (hv.keep k0) hvc hb (hd.keep k0) hdl hx hf hs
  go_enter Tryz.func4, Tryz.ntmps4
  go_wp2_with fail
  rw [← hw0]
  clear hw0
  refine hO.mono ?_
  clear hO hv hd
  rintro e W1 ⟨fb, ρ, lb, B, xs', kd, p, ws, mm, n, rfl, F, D, Q, Bd, hn, hno, _, _, hold, hfb, k1⟩
  have l0 := k0.size
  have hP : PI w fb B dl xs' kd p n 0 ρ lb pt0 ws mm W1 := ⟨⟨_, F⟩, ⟨_, D, Bd⟩, Q, ⟨hn.1, hn.2, hno⟩, fun q hq => hold q (by omega), by omega, k0.trans k1⟩
  have hL := CL.made W1 (rk4 pt0) 29
  have hP2 := hP.new ((Keeps.refl _ W1).alloc (.cells (rk4 pt0).toArray 29))
  have hI : RnI w fb W1.heap.size B dl xs' kd p n 0 (W1.alloc (.cells (rk4 pt0).toArray 29)) := ⟨ρ, lb, pt0, ws, mm, hP2, hP.ow (Nat.le_refl _), hL, fun e => by omega, fun _ k _ => rfl⟩
  have hI2 : RnI w fb W1.heap.size B dl xs' kd p n 0 (W1.alloc (.cells #[.int .i64 0, .int .i64 0, .int .i64 0, .int .i64 0] 29)) := hI
  clear hI hL hP hP2 F D Q Bd
  go_wp2_with fail
  generalize W1.alloc (.cells #[.int .i64 0, .int .i64 0, .int .i64 0, .int .i64 0] 29) = W2 at *
  generalize W1.heap.size = lB at *
  clear hold hfb k1
  go_loopw [8] (fun iv Wr => ∃ t : Nat, iv = .int .i64 ((t : Int) - 1) ∧ t ≤ ms.length + 1 ∧ t ≤ 4001 ∧ RnI w fb lB B dl xs' kd p n t Wr) (fun iv _ => (ms.length + 1) - (intOf iv + 1).toNat)
  case atStart => exact ⟨0, rfl, by omega, by omega, hI2⟩
  case round =>
    obtain ⟨t, rfl, ht1, ht2, hI⟩ := hrel
    by_cases hend : (ms.length : Int) ≤ (t : Int) - 1 ∨ 4000 ≤ (t : Int) - 1
    · obtain ⟨q, rfl⟩ : ∃ q, t = q + 1 := ⟨t - 1, by omega⟩
      obtain ⟨ρ, lb, P, s1, m1, hP, hOw, hL, htr, hz⟩ := hI
      have h1 : 1 ≤ (P 0).T.tr := by
        have a := htr (by omega)
        cases ha : (P 0).T.a with
        | none => exact absurd ha a
        | some ab => have := ((hP.fq.pt 0 (by omega)).so ab ha).tr; omega
      have hBel : Hid (Below w.heap.size w wr) := hP.k.below (Nat.le_refl _) (fun _ _ e => e)
      obtain ⟨kr, F⟩ := hP.fm
      obtain ⟨st, D, _⟩ := hP.fd
      have f5 := D.cl.c 5 _ rfl
      have hTr := t_tries (F.tc 0 (by omega)).1
      have eq1 : ((q + 1 : Nat) : Int) - 1 = (q : Int) := by omega
      rw [eq1] at hend ⊢
      clear hP hOw htr hL F D hz
      by_cases hq1 : (q : Int) < (ms.length : Int)
      · have hq2 : ¬ (q : Int) < 4000 := by omega
        go_wp2_with (go_at_call 15; refine hTr.mono ?_; rintro e Wx ⟨rfl, hx_⟩; subst Wx)
        go_ret
        first | exact ⟨rfl, hBel.out⟩ | exact ⟨by simp [h1], hBel.out⟩
      · go_wp2_with (go_at_call 15; refine hTr.mono ?_; rintro e Wx ⟨rfl, hx_⟩; subst Wx)
        go_ret
        first | exact ⟨rfl, hBel.out⟩ | exact ⟨by simp [h1], hBel.out⟩
    · obtain ⟨mp, ma', mx, hmv⟩ : ∃ mp ma' mx : Int, (t = 0 ∧ mp = 0 ∧ ma' = 0 ∧ mx = 0) ∨ ∃ k : Nat, t = k + 1 ∧ ms.getD k mv0 = ⟨mp, ma', mx⟩ := by
        rcases Nat.eq_zero_or_pos t with h | h
        · exact ⟨0, 0, 0, .inl ⟨h, rfl, rfl, rfl⟩⟩
        · exact ⟨_, _, _, .inr ⟨t - 1, by omega, rfl⟩⟩
      obtain ⟨i, hi⟩ : ∃ i : Nat, mp % 4 = (i : Int) := ⟨(mp % 4).toNat, by omega⟩
      have hi4 : i < 4 := by omega
      have hi4I : (i : Int) < 4 := by omega
      obtain ⟨ρ, lb, P, s1, m1, hP, hOw, hL, htr, hz⟩ := hI
      obtain ⟨Wm, hWm⟩ : ∃ Wm, Wm = wr.alloc (.cells #[.int .i64 mp, .int .i64 ma', .int .i64 mx] 32) := ⟨_, rfl⟩
      have km : Keeps (fun _ => False) wr Wm := by rw [hWm]; exact (Keeps.refl _ wr).alloc _
      have hM : CL Wm wr.heap.size [.int .i64 mp, .int .i64 ma', .int .i64 mx] := by rw [hWm]; exact CL.made wr [.int .i64 mp, .int .i64 ma', .int .i64 mx] _
      have oM := hP.ow (Nat.le_refl _)
      have hPm := hP.new km
      have hLm := hL.keep (by show 0 < 4; decide) km (fun e => e)
      have hMv := hPm.mv (by omega) hi4 mp ma' mx hi
      have lM := hM.lt (by show 0 < 3; decide)
      have lL := hLm.lt (by show 0 < 4; decide)
      have hmr := hm.keep hP.k
      rcases hmv with ⟨rfl, h0⟩ | ⟨q, rfl, hq⟩
      · have h0 : Hid (mp = 0 ∧ ma' = 0 ∧ mx = 0) := h0
        have e0 : Hid (wr.alloc (.cells #[.int .i64 0, .int .i64 0, .int .i64 0] 32) = Wm) := by show _ = _; rw [hWm, h0.out.1, h0.out.2.1, h0.out.2.2]
        have hMv0 := hMv
        rw [h0.out.1, h0.out.2.1, h0.out.2.2] at hMv0
        clear hMv
        have hMv := hMv0
        clear hMv0 hWm
        obtain rfl : i = 0 := by have z := h0.out.1; omega
        go_wp2_with fail
        rw [e0.out]
        clear e0
        rename_i KR hKR Ko hKo
        refine hMv.mono ?_
        clear hMv
        rintro e Wv ⟨r, b, p', s2, m2, ρ2, lb2, st, rfl, P2, X2, mo⟩
        have hM2 := hM.keep (by show 0 < 3; decide) X2.keeps oM.no
        have hL2 := hLm.keep (by show 0 < 4; decide) X2.keeps hOw.no
        have hOw2 := hOw.fx lL X2
        have oM2 := oM.fx lM X2
        have sX := X2.keeps.size
        have nM : ¬ wr.heap.size = Wv.heap.size := by omega
        have nL : ¬ lB = Wv.heap.size := by omega
        have rm := rank_mo mo (hP.fq.pt 0 hi4)
        have hai : p'.T.a ≠ none := mo.some (hP.fq.pt 0 hi4)
        obtain ⟨rfl, hk1⟩ : b = true ∧ r.kind ≠ 14 := by
          have hz1 := hz (by simp) 0 hi4
          cases mo with
          | over h hb => exact absurd ((hP.fq.pt 0 hi4).no hz1).2.1 h
          | ask h ab ha => rw [hz1] at ha; cases ha
          | step h hb si =>
            refine ⟨hb, ?_⟩
            cases si with
            | begin ab c a e => rw [e]; show (1 : Int) ≠ 14; decide
            | again ab0 ab q c a => rw [hz1] at a; cases a
            | go ab r0 a => rw [hz1] at a; cases a
        have hrk : p'.rank = (P 0).rank := by
          rcases rm with ⟨_, h, _⟩ | ⟨_, h⟩
          · exact absurd h hk1
          · exact h
        obtain ⟨W4, hW4⟩ : ∃ W4, W4 = Wv.alloc (.cells #[.int .i64 0, .int .i64 0, .int .i64 0, .int .i64 0, .int .i64 0, .int .i64 0, .int .i64 0, .int .i64 0, .int .i64 0, .int .i64 0, .int .i64 0, .int .i64 0, .int .i64 0, .bool false, .bool false, .bool false, .int .i64 0, .bool false, .int .i64 0, .int .i64 0, .bool false, .bool false, .int .i64 0, .int .i64 0, .bool false, .int .i64 0] 36) := ⟨_, rfl⟩
        have k4 : Keeps (fun _ => False) Wv W4 := by rw [hW4]; exact (Keeps.refl _ Wv).alloc _
        have hc4 : CL W4 Wv.heap.size Ro.zero.cells := by rw [hW4]; exact CL.made _ Ro.zero.cells _
        have hKRH : Hid _ := hKR
        clear hKR
        go_wp2_with (first | (rw [← hW4]; clear hW4; refine wpList_store_cl rfl 36 _ _ rfl Wv.heap.size 0 26 _ rfl rfl rfl hc4 (by show 26 ≤ 26; decide) i46 (all_oneCell_toArray (by simp [Ro.cells, Value.oneCell'])) ?_; intro w5 hc5 k5 hsz5; clear hsz5))
        refine hKRH.out _ _ ?_
        clear hKRH KR
        have hr5 : CL w5 Wv.heap.size r.cells := hc5
        have K5 : Keeps (fun k => k = Wv.heap.size) Wv w5 := (k4.mono (fun _ _ e => e.elim)).trans k5
        have c0 := (hM2.keep (by show 0 < 3; decide) K5 nM).c 0 _ rfl
        have hP5 := P2.own K5 (fun j hj e => by exfalso; have e : j = Wv.heap.size := e; omega)
        obtain ⟨st5, D5, _⟩ := hP5.fd
        have f5 := D5.tb hi4
        simp only [Nat.add_zero] at f5
        clear hc4 k4 k5 hc5 D5
        refine wp_seq_k (fun K hK => ?_)
        have hKH : Hid _ := hK
        clear hK
        go_wp2_with fail
        refine hKH.out _ _ ?_
        clear hKH K
        refine wp_seq_k (fun K hK => ?_)
        have hKH : Hid _ := hK
        clear hK
        go_wp2_with (go_at_call 10; refine (rest_any _ _ 4 ⟨by omega, by omega⟩).mono ?_; rintro e Wq ⟨rfl, hq⟩; subst hq)
        refine hKH.out _ _ ?_
        clear hKH K
        refine wp_seq_k (fun K hK => ?_)
        have hKH : Hid _ := hK
        clear hK
        go_wp2_with fail
        refine hKH.out _ _ ?_
        clear hKH K
        refine wp_seq_k (fun K1 hK1 => ?_)
        have rest : ∀ {x4 x9 x10 x11 x12 x15 x16 x17 x18 x26 x27 x28 x29 x30 x31 x32 x33 x34 x35 x36 x37 x38 x39 x40 x41 x42 x43 x44 x45 x46 x47 x48 x49 x50 x51 x52 x53 x54 x55 x56 x57 x58 x59 x60 x61 x62 x63 x64 x65 x66 x67 x68 x69 x70 x71 x72 x73 x74 x75 x76 x77 x78 x79 x80 x81 x82 x83 x84 x85 x86 x87 x88 x89 x90 x91 x92 x93 x94 x95 x96 x97 x98 x99 x100 x101 x102 x103 x104 x105 x106 x107 x108 x109 x110 x111 x112 x113 x114 x115 x116 x117 x118 x119 x120 x121 x122 x123 x124 x125 x126 x127 x128 x129 x130 x131 x132 x133 x134 x135 x136 x137 x138 x139 : Value} {W6 : World}, PI w fb B dl xs' kd p n (0 + 1) ρ2 lb2 (fun k => if k = 0 then p' else P k) s2 m2 W6 → CL W6 lB (rk4 (fun k => if k = 0 then p' else P k)) → K1 { tmps := #[.agg #[.int .i64 k, .int .i64 pa, .slice da dl dc, .slice va vl vc, .int .i64 f, .int .i64 s], .slice ma ms.length mc, .pointer (some ⟨w.heap.size, 0, none⟩), undef, x4, .pointer (some ⟨fb, 0, none⟩), .bool true, .pointer (some ⟨lB, 0, none⟩), .int .i64 (-1), x9, x10, x11, x12, .int .i64 0, .pointer (some ⟨B.tb 0, 0, none⟩), x15, x16, x17, x18, .tuple #[.pointer (some ⟨fb, 0, none⟩), .bool true], .agg #[.int .i64 k, .int .i64 pa, .slice da dl dc, .slice va vl vc, .int .i64 f, .int .i64 s], .tuple #[.pointer (some ⟨fb, 0, none⟩), .bool true], .pointer (some ⟨fb, 0, none⟩), .bool true, .bool true, .bool false, x26, x27, x28, x29, x30, x31, x32, x33, x34, x35, x36, x37, x38, x39, x40, x41, x42, x43, x44, x45, x46, x47, x48, x49, x50, x51, x52, x53, x54, x55, x56, x57, x58, x59, x60, x61, x62, x63, x64, x65, x66, x67, x68, x69, x70, x71, x72, x73, x74, x75, x76, x77, x78, x79, x80, x81, x82, x83, x84, x85, x86, x87, x88, x89, x90, x91, x92, x93, x94, x95, x96, x97, x98, x99, x100, x101, x102, x103, x104, x105, x106, x107, x108, x109, x110, x111, x112, x113, x114, x115, x116, x117, x118, x119, x120, x121, x122, x123, x124, x125, x126, x127, x128, x129, x130, x131, x132, x133, x134, x135, x136, x137, x138, x139, undef, undef, undef, undef, undef, undef, undef], defers := [] } W6 := by
          intro x4 x9 x10 x11 x12 x15 x16 x17 x18 x26 x27 x28 x29 x30 x31 x32 x33 x34 x35 x36 x37 x38 x39 x40 x41 x42 x43 x44 x45 x46 x47 x48 x49 x50 x51 x52 x53 x54 x55 x56 x57 x58 x59 x60 x61 x62 x63 x64 x65 x66 x67 x68 x69 x70 x71 x72 x73 x74 x75 x76 x77 x78 x79 x80 x81 x82 x83 x84 x85 x86 x87 x88 x89 x90 x91 x92 x93 x94 x95 x96 x97 x98 x99 x100 x101 x102 x103 x104 x105 x106 x107 x108 x109 x110 x111 x112 x113 x114 x115 x116 x117 x118 x119 x120 x121 x122 x123 x124 x125 x126 x127 x128 x129 x130 x131 x132 x133 x134 x135 x136 x137 x138 x139 W6 hP6 hL6
          refine hK1 _ _ ?_
          clear hK1
          refine ranks_tail hi4 hP6 hL6 (by show (if 0 = 0 then p' else P 0).T.a ≠ none; rw [if_pos rfl]; exact hai) ?_
          intro y15 y16 y17 y18 y88 y89 y90 y91 y92 y93 y94 y95 y96 y97 y98 y99 y100 y101 y102 y103 y104 y105 y106 y107 y108 y109 y110 y111 y112 y113 y114 y115 y116 y117 y118 y119 y120 y121 y122 y123 y124 y125 y126 y127 y128 y129 y130 y131 y132 y133 y134 y135 y136 y137 y138 y139 W7 hP7 hL7
          go_wp2_with fail
          go_roundw
          case rel => exact ⟨0 + 1, by first | go_num | rfl | decide, by omega, by omega, ρ2, lb2, _, s2, m2, hP7, hOw2, hL7, fun _ => by show (if 0 = 0 then p' else P 0).T.a ≠ none; split; (exact hai); (exact absurd rfl (by assumption)), fun e => by omega⟩
          case measure => first | (simp [intOf]; done) | (simp [intOf]; omega)
        have restH : Hid _ := @rest
        clear rest
        clear hK1
        have hL6 := hL2.keep (by show 0 < 4; decide) K5 nL
        rw [rk4_same hi4 hrk] at hL6
        have hk14 : (r.kind == 14) = false := by simpa using hk1
        have c5 := hr5.c 5 _ rfl
        go_wp2_with fail
        exact restH.out hP5 hL6
      · obtain ⟨mb_, off, rfl, hcm⟩ := hmr.some (by omega)
        have hcq := hcm q (by omega)
        rw [hq] at hcq
        obtain ⟨mc0, mc1, mc2⟩ := hcq
        clear hcm
        have kz : Keeps (fun _ => False) wr (wr.alloc (.cells #[.int .i64 0, .int .i64 0, .int .i64 0] 32)) := (Keeps.refl _ wr).alloc _
        have md0 := kz.cell mc0 (fun e => e)
        have md1 := kz.cell mc1 (fun e => e)
        have md2 := kz.cell mc2 (fun e => e)
        have eq1 : ((q + 1 : Nat) : Int) - 1 = (q : Int) := by omega
        rw [eq1] at hend ⊢
        have hq1 : (q : Int) < (ms.length : Int) := by omega
        have hq2 : (q : Int) < 4000 := by omega
        have hq3 : ¬ (q : Int) < 0 := by omega
        have hq4 : q < ms.length := by omega
        go_wp2_with fail
        rw [← hWm]
        clear hWm md0 md1 md2 kz mc0 mc1 mc2 eq1 hq hq1 hq2 hq3
        rename_i KR hKR Ko hKo
        refine hMv.mono ?_
        clear hMv
        rintro e Wv ⟨r, b, p', s2, m2, ρ2, lb2, st, rfl, P2, X2, mo⟩
        have hM2 := hM.keep (by show 0 < 3; decide) X2.keeps oM.no
        have hL2 := hLm.keep (by show 0 < 4; decide) X2.keeps hOw.no
        have hOw2 := hOw.fx lL X2
        have oM2 := oM.fx lM X2
        have sX := X2.keeps.size
        have nM : ¬ wr.heap.size = Wv.heap.size := by omega
        have nL : ¬ lB = Wv.heap.size := by omega
        have rm := rank_mo mo (hP.fq.pt i hi4)
        have hai : p'.T.a ≠ none := mo.some (hP.fq.pt i hi4)
        obtain ⟨W4, hW4⟩ : ∃ W4, W4 = Wv.alloc (.cells #[.int .i64 0, .int .i64 0, .int .i64 0, .int .i64 0, .int .i64 0, .int .i64 0, .int .i64 0, .int .i64 0, .int .i64 0, .int .i64 0, .int .i64 0, .int .i64 0, .int .i64 0, .bool false, .bool false, .bool false, .int .i64 0, .bool false, .int .i64 0, .int .i64 0, .bool false, .bool false, .int .i64 0, .int .i64 0, .bool false, .int .i64 0] 36) := ⟨_, rfl⟩
        have k4 : Keeps (fun _ => False) Wv W4 := by rw [hW4]; exact (Keeps.refl _ Wv).alloc _
        have hc4 : CL W4 Wv.heap.size Ro.zero.cells := by rw [hW4]; exact CL.made _ Ro.zero.cells _
        have hKRH : Hid _ := hKR
        clear hKR
        go_wp2_with (first | (rw [← hW4]; clear hW4; refine wpList_store_cl rfl 36 _ _ rfl Wv.heap.size 0 26 _ rfl rfl rfl hc4 (by show 26 ≤ 26; decide) i46 (all_oneCell_toArray (by simp [Ro.cells, Value.oneCell'])) ?_; intro w5 hc5 k5 hsz5; clear hsz5))
        refine hKRH.out _ _ ?_
        clear hKRH KR
        have hr5 : CL w5 Wv.heap.size r.cells := hc5
        have K5 : Keeps (fun k => k = Wv.heap.size) Wv w5 := (k4.mono (fun _ _ e => e.elim)).trans k5
        have c0 := (hM2.keep (by show 0 < 3; decide) K5 nM).c 0 _ rfl
        have hP5 := P2.own K5 (fun j hj e => by exfalso; have e : j = Wv.heap.size := e; omega)
        obtain ⟨st5, D5, _⟩ := hP5.fd
        have f5 := D5.tb hi4
        skip
        clear hc4 k4 k5 hc5 D5
        refine wp_seq_k (fun K hK => ?_)
        have hKH : Hid _ := hK
        clear hK
        go_wp2_with fail
        refine hKH.out _ _ ?_
        clear hKH K
        refine wp_seq_k (fun K hK => ?_)
        have hKH : Hid _ := hK
        clear hK
        go_wp2_with (go_at_call 10; refine (rest_any _ _ 4 ⟨by omega, by omega⟩).mono ?_; rintro e Wq ⟨rfl, hq⟩; subst hq)
        refine hKH.out _ _ ?_
        clear hKH K
        refine wp_seq_k (fun K hK => ?_)
        have hKH : Hid _ := hK
        clear hK
        go_wp2_with fail
        refine hKH.out _ _ ?_
        clear hKH K
        refine wp_seq_k (fun K1 hK1 => ?_)
        have rest : ∀ {x4 x9 x10 x11 x12 x15 x16 x17 x18 x26 x27 x28 x29 x30 x31 x32 x33 x34 x35 x36 x37 x38 x39 x40 x41 x42 x43 x44 x45 x46 x47 x48 x49 x50 x51 x52 x53 x54 x55 x56 x57 x58 x59 x60 x61 x62 x63 x64 x65 x66 x67 x68 x69 x70 x71 x72 x73 x74 x75 x76 x77 x78 x79 x80 x81 x82 x83 x84 x85 x86 x87 x88 x89 x90 x91 x92 x93 x94 x95 x96 x97 x98 x99 x100 x101 x102 x103 x104 x105 x106 x107 x108 x109 x110 x111 x112 x113 x114 x115 x116 x117 x118 x119 x120 x121 x122 x123 x124 x125 x126 x127 x128 x129 x130 x131 x132 x133 x134 x135 x136 x137 x138 x139 : Value} {W6 : World}, PI w fb B dl xs' kd p n ((q + 1) + 1) ρ2 lb2 (fun k => if k = i then p' else P k) s2 m2 W6 → CL W6 lB (rk4 (fun k => if k = i then p' else P k)) → K1 { tmps := #[.agg #[.int .i64 k, .int .i64 pa, .slice da dl dc, .slice va vl vc, .int .i64 f, .int .i64 s], .slice (some ⟨mb_, off, none⟩) ms.length mc, .pointer (some ⟨w.heap.size, 0, none⟩), undef, x4, .pointer (some ⟨fb, 0, none⟩), .bool true, .pointer (some ⟨lB, 0, none⟩), .int .i64 (q : Int), x9, x10, x11, x12, .int .i64 (i : Int), .pointer (some ⟨B.tb i, 0, none⟩), x15, x16, x17, x18, .tuple #[.pointer (some ⟨fb, 0, none⟩), .bool true], .agg #[.int .i64 k, .int .i64 pa, .slice da dl dc, .slice va vl vc, .int .i64 f, .int .i64 s], .tuple #[.pointer (some ⟨fb, 0, none⟩), .bool true], .pointer (some ⟨fb, 0, none⟩), .bool true, .bool true, .bool false, x26, x27, x28, x29, x30, x31, x32, x33, x34, x35, x36, x37, x38, x39, x40, x41, x42, x43, x44, x45, x46, x47, x48, x49, x50, x51, x52, x53, x54, x55, x56, x57, x58, x59, x60, x61, x62, x63, x64, x65, x66, x67, x68, x69, x70, x71, x72, x73, x74, x75, x76, x77, x78, x79, x80, x81, x82, x83, x84, x85, x86, x87, x88, x89, x90, x91, x92, x93, x94, x95, x96, x97, x98, x99, x100, x101, x102, x103, x104, x105, x106, x107, x108, x109, x110, x111, x112, x113, x114, x115, x116, x117, x118, x119, x120, x121, x122, x123, x124, x125, x126, x127, x128, x129, x130, x131, x132, x133, x134, x135, x136, x137, x138, x139, undef, undef, undef, undef, undef, undef, undef], defers := [] } W6 := by
          intro x4 x9 x10 x11 x12 x15 x16 x17 x18 x26 x27 x28 x29 x30 x31 x32 x33 x34 x35 x36 x37 x38 x39 x40 x41 x42 x43 x44 x45 x46 x47 x48 x49 x50 x51 x52 x53 x54 x55 x56 x57 x58 x59 x60 x61 x62 x63 x64 x65 x66 x67 x68 x69 x70 x71 x72 x73 x74 x75 x76 x77 x78 x79 x80 x81 x82 x83 x84 x85 x86 x87 x88 x89 x90 x91 x92 x93 x94 x95 x96 x97 x98 x99 x100 x101 x102 x103 x104 x105 x106 x107 x108 x109 x110 x111 x112 x113 x114 x115 x116 x117 x118 x119 x120 x121 x122 x123 x124 x125 x126 x127 x128 x129 x130 x131 x132 x133 x134 x135 x136 x137 x138 x139 W6 hP6 hL6
          refine hK1 _ _ ?_
          clear hK1
          refine ranks_tail hi4 hP6 hL6 (by show (if i = i then p' else P i).T.a ≠ none; rw [if_pos rfl]; exact hai) ?_
          intro y15 y16 y17 y18 y88 y89 y90 y91 y92 y93 y94 y95 y96 y97 y98 y99 y100 y101 y102 y103 y104 y105 y106 y107 y108 y109 y110 y111 y112 y113 y114 y115 y116 y117 y118 y119 y120 y121 y122 y123 y124 y125 y126 y127 y128 y129 y130 y131 y132 y133 y134 y135 y136 y137 y138 y139 W7 hP7 hL7
          go_wp2_with fail
          go_roundw
          case rel => exact ⟨(q + 1) + 1, by go_num, by omega, by omega, ρ2, lb2, _, s2, m2, hP7, hOw2, hL7, fun _ => by show (if 0 = i then p' else P 0).T.a ≠ none; split; (exact hai); (exact htr (by omega)), fun e => by omega⟩
          case measure => simp [intOf]; omega
        have restH : Hid _ := @rest
        clear rest
        clear hK1
        rcases rm with ⟨rfl, hk14, hkp, hseen, hrk, hlt⟩ | ⟨hb, hrk⟩
        · 
          have hle := rank_le (hP.fq.pt i hi4)
          have wr1 : wrap64 ((P i).rank + 1) = p'.rank := by
            rw [hrk]; exact wrap_id (by unfold In64; omega)
          have wr2 : IntKind.i64.wrap (p'.rank - 1) = (P i).rank := by
            rw [hrk, show (P i).rank + 1 - 1 = (P i).rank by omega, IntKind.wrap_i64]; omega
          have hL5 := hL2.keep (by show 0 < 4; decide) K5 nL
          have l := hL5.c _ _ (rk4_get hi4)
          have lz := hL5.z i (by show i < 4; exact hi4)
          have c5 := hr5.c 5 _ rfl
          rw [hk14] at c5
          have hL6 := hL5.set (o := i) (by show i < 4; exact hi4) (.int .i64 p'.rank)
          rw [rk4_set hi4] at hL6
          have kS := (Keeps.refl (fun k => k = lB) Wq).setA i (.int .i64 p'.rank)
          have hP6 := hP5.own kS (fun j _ e => by have e : j = lB := e; rw [e]; exact hOw2)
          have hr6 := hr5.keep (by show 0 < 26; decide) kS (fun e => nL e.symm)
          have hP7 := hP6.new (Keeps.refl _ _).drew
          have hL7 := hL6.drew
          have s11 := hr6.drew.c 11 _ rfl
          rw [hseen] at s11
          have sl := hL7.c _ _ (rk4_get hi4)
          simp only [if_true] at sl
          obtain ⟨kr7, F7⟩ := hP7.fm
          obtain ⟨st7, D7, _⟩ := hP7.fd
          have sf := D7.cl.c 2 _ rfl
          have hKp := mKeeps F7.mg F7.tr
          rw [hkp] at hKp
          clear hP6 hL6 hr6 F7 D7 hle hk14 hseen hlt hrk
          generalize p'.rank = rk1 at *
          generalize (P i).rank = rk0 at *
          generalize hW7 : Wq.setCell ⟨lB, i, none⟩ (.int .i64 rk1) = W7 at *
          go_wp2_with fail
          try rw [hW7]
          clear hW7 kS
          refine wp_region_held_drew (S := fun w' => w'.cell? ⟨Wv.heap.size, 11, none⟩ = some (.int .i64 rk0) ∧ w'.cell? ⟨lB, i, none⟩ = some (.int .i64 rk1) ∧ w'.cell? ⟨fb, 2, none⟩ = some (.pointer (some ⟨B.gb, 0, none⟩))) (by kernel_rfl) ⟨s11, sl, sf⟩ (fun hHeld => ?_)
          refine wpAnyH_take (i := 0) (v := ?_) rfl (by kernel_rfl) (by kernel_rfl) (by kernel_rfl) (fun _ _ _ h => h) (Or.inl ⟨by rfl, ?_⟩) (by assumption) ?_
          rotate_left
          · intro wx hSw; (try dsimp only at hSw); go_simp <;> with_reducible rfl
          (try simp only [List.getElem_toArray]); (try simp only [List.getElem_cons_succ]); (try simp only [List.getElem_cons_zero]); (try simp only [Act.put]); (try simp only [List.setIfInBounds_toArray]); (repeat first | simp only [List.set_cons_succ] | simp only [List.set_cons_zero])
          refine wpAnyH_take (i := 1) (v := ?_) rfl (by kernel_rfl) (by kernel_rfl) (by kernel_rfl) (fun _ _ _ h => h) (Or.inl ⟨by rfl, ?_⟩) (by assumption) ?_
          rotate_left
          · intro wx hSw; (try dsimp only at hSw); go_simp <;> with_reducible rfl
          (try simp only [List.getElem_toArray]); (try simp only [List.getElem_cons_succ]); (try simp only [List.getElem_cons_zero]); (try simp only [Act.put]); (try simp only [List.setIfInBounds_toArray]); (repeat first | simp only [List.set_cons_succ] | simp only [List.set_cons_zero])
          refine wpAnyH_take (i := 2) (v := ?_) rfl (by kernel_rfl) (by kernel_rfl) (by kernel_rfl) (fun _ _ _ h => h) (Or.inl ⟨by rfl, ?_⟩) (by assumption) ?_
          rotate_left
          · intro wx hSw; (try dsimp only at hSw); go_simp <;> with_reducible rfl
          (try simp only [List.getElem_toArray]); (try simp only [List.getElem_cons_succ]); (try simp only [List.getElem_cons_zero]); (try simp only [Act.put]); (try simp only [List.setIfInBounds_toArray]); (repeat first | simp only [List.set_cons_succ] | simp only [List.set_cons_zero])
          refine wpAnyH_take (i := 3) (v := ?_) rfl (by kernel_rfl) (by kernel_rfl) (by kernel_rfl) (fun _ _ _ h => h) (Or.inl ⟨by rfl, ?_⟩) (by assumption) ?_
          rotate_left
          · intro wx hSw; (try dsimp only at hSw); go_simp <;> with_reducible rfl
          (try simp only [List.getElem_toArray]); (try simp only [List.getElem_cons_succ]); (try simp only [List.getElem_cons_zero]); (try simp only [Act.put]); (try simp only [List.setIfInBounds_toArray]); (repeat first | simp only [List.set_cons_succ] | simp only [List.set_cons_zero])
          refine wpAnyH_take (i := 4) (v := ?_) rfl (by kernel_rfl) (by kernel_rfl) (by kernel_rfl) (fun _ _ _ h => h) (Or.inl ⟨by rfl, ?_⟩) (by assumption) ?_
          rotate_left
          · intro wx hSw; (try dsimp only at hSw); go_simp <;> with_reducible rfl
          (try simp only [List.getElem_toArray]); (try simp only [List.getElem_cons_succ]); (try simp only [List.getElem_cons_zero]); (try simp only [Act.put]); (try simp only [List.setIfInBounds_toArray]); (repeat first | simp only [List.set_cons_succ] | simp only [List.set_cons_zero])
          refine wpAnyH_take (i := 5) (v := .int .i64 rk0) rfl (by kernel_rfl) (by kernel_rfl) (by kernel_rfl) (fun _ _ _ h => h) (Or.inl ⟨by rfl, ?_⟩) (by assumption) ?_
          · intro wx hSw; first | (go_simp; done) | (go_simp; exact wr2)
          (try simp only [List.getElem_toArray]); (try simp only [List.getElem_cons_succ]); (try simp only [List.getElem_cons_zero]); (try simp only [Act.put]); (try simp only [List.setIfInBounds_toArray]); (repeat first | simp only [List.set_cons_succ] | simp only [List.set_cons_zero])
          refine wpAnyH_take (i := 6) (v := .bool false) rfl (by kernel_rfl) (by kernel_rfl) (by kernel_rfl) (fun _ _ _ h => h) (Or.inl ⟨by rfl, ?_⟩) (by assumption) ?_
          · intro wx hSw; first | (go_simp; done) | (go_simp; simp; done)
          (try simp only [List.getElem_toArray]); (try simp only [List.getElem_cons_succ]); (try simp only [List.getElem_cons_zero]); (try simp only [Act.put]); (try simp only [List.setIfInBounds_toArray]); (repeat first | simp only [List.set_cons_succ] | simp only [List.set_cons_zero])
          refine wpAnyH_take (i := 7) (v := ?_) rfl (by kernel_rfl) (by kernel_rfl) (by kernel_rfl) (fun _ _ _ h => h) (Or.inl ⟨by rfl, ?_⟩) (by assumption) ?_
          rotate_left
          · intro wx hSw; (try dsimp only at hSw); go_simp <;> with_reducible rfl
          (try simp only [List.getElem_toArray]); (try simp only [List.getElem_cons_succ]); (try simp only [List.getElem_cons_zero]); (try simp only [Act.put]); (try simp only [List.setIfInBounds_toArray]); (repeat first | simp only [List.set_cons_succ] | simp only [List.set_cons_zero])
          refine wpAnyH_take (i := 8) (v := ?_) rfl (by kernel_rfl) (by kernel_rfl) (by kernel_rfl) (fun _ _ _ h => h) (Or.inl ⟨by rfl, ?_⟩) (by assumption) ?_
          rotate_left
          · intro wx hSw; (try dsimp only at hSw); go_simp <;> with_reducible rfl
          (try simp only [List.getElem_toArray]); (try simp only [List.getElem_cons_succ]); (try simp only [List.getElem_cons_zero]); (try simp only [Act.put]); (try simp only [List.setIfInBounds_toArray]); (repeat first | simp only [List.set_cons_succ] | simp only [List.set_cons_zero])
          refine wpAnyH_take (i := 9) (v := ?_) rfl (by kernel_rfl) (by kernel_rfl) (by kernel_rfl) (fun _ _ _ h => h) (Or.inl ⟨by rfl, ?_⟩) (by assumption) ?_
          rotate_left
          · intro wx hSw; (try dsimp only at hSw); go_simp <;> with_reducible rfl
          (try simp only [List.getElem_toArray]); (try simp only [List.getElem_cons_succ]); (try simp only [List.getElem_cons_zero]); (try simp only [Act.put]); (try simp only [List.setIfInBounds_toArray]); (repeat first | simp only [List.set_cons_succ] | simp only [List.set_cons_zero])
          refine wpAnyH_take (i := 10) (v := ?_) rfl (by kernel_rfl) (by kernel_rfl) (by kernel_rfl) (fun _ _ _ h => h) (Or.inl ⟨by rfl, ?_⟩) (by assumption) ?_
          rotate_left
          · intro wx hSw; (try dsimp only at hSw); go_simp <;> with_reducible rfl
          (try simp only [List.getElem_toArray]); (try simp only [List.getElem_cons_succ]); (try simp only [List.getElem_cons_zero]); (try simp only [Act.put]); (try simp only [List.setIfInBounds_toArray]); (repeat first | simp only [List.set_cons_succ] | simp only [List.set_cons_zero])
          refine wpAnyH_take (i := 11) (v := ?_) rfl (by kernel_rfl) (by kernel_rfl) (by kernel_rfl) (fun _ _ _ h => h) (Or.inl ⟨by rfl, ?_⟩) (by assumption) ?_
          rotate_left
          · intro wx hSw; (try dsimp only at hSw); go_simp <;> with_reducible rfl
          (try simp only [List.getElem_toArray]); (try simp only [List.getElem_cons_succ]); (try simp only [List.getElem_cons_zero]); (try simp only [Act.put]); (try simp only [List.setIfInBounds_toArray]); (repeat first | simp only [List.set_cons_succ] | simp only [List.set_cons_zero])
          refine wpAnyH_take (i := 12) (v := ?_) rfl (by kernel_rfl) (by kernel_rfl) (by kernel_rfl) (fun _ _ _ h => h) (Or.inl ⟨by rfl, ?_⟩) (by assumption) ?_
          rotate_left
          · intro wx hSw; (try dsimp only at hSw); go_simp <;> with_reducible rfl
          (try simp only [List.getElem_toArray]); (try simp only [List.getElem_cons_succ]); (try simp only [List.getElem_cons_zero]); (try simp only [Act.put]); (try simp only [List.setIfInBounds_toArray]); (repeat first | simp only [List.set_cons_succ] | simp only [List.set_cons_zero])
          refine wpAnyH_oneW 13 (by kernel_rfl) rfl (by rfl) ?_
          go_simp
          refine hKp.mono ?_
          rintro e W8 ⟨rfl, k8⟩
          have h8 : W8.cell? ⟨Wv.heap.size, 11, none⟩ = some (.int .i64 rk0) ∧ W8.cell? ⟨lB, i, none⟩ = some (.int .i64 rk1) ∧ W8.cell? ⟨fb, 2, none⟩ = some (.pointer (some ⟨B.gb, 0, none⟩)) := ⟨k8.cell s11 (fun e => e), k8.cell sl (fun e => e), k8.cell sf (fun e => e)⟩
          refine ⟨h8, fun _ _ _ => ?_⟩
          (try simp only [List.getElem_toArray]); (try simp only [List.getElem_cons_succ]); (try simp only [List.getElem_cons_zero]); (try simp only [Act.put]); (try simp only [List.setIfInBounds_toArray]); (repeat first | simp only [List.set_cons_succ] | simp only [List.set_cons_zero])
          refine wpAnyH_take (i := 14) (v := ?_) rfl (by kernel_rfl) (by kernel_rfl) (by kernel_rfl) (fun _ _ _ h => h) (Or.inl ⟨by rfl, ?_⟩) (by assumption) ?_
          rotate_left
          · intro wx hSw; (try dsimp only at hSw); go_simp <;> with_reducible rfl
          (try simp only [List.getElem_toArray]); (try simp only [List.getElem_cons_succ]); (try simp only [List.getElem_cons_zero]); (try simp only [Act.put]); (try simp only [List.setIfInBounds_toArray]); (repeat first | simp only [List.set_cons_succ] | simp only [List.set_cons_zero])
          refine wpAnyH_take (i := 15) (v := ?_) rfl (by kernel_rfl) (by kernel_rfl) (by kernel_rfl) (fun _ _ _ h => h) (Or.inl ⟨by rfl, ?_⟩) (by assumption) ?_
          rotate_left
          · intro wx hSw; (try dsimp only at hSw); go_simp <;> with_reducible rfl
          (try simp only [List.getElem_toArray]); (try simp only [List.getElem_cons_succ]); (try simp only [List.getElem_cons_zero]); (try simp only [Act.put]); (try simp only [List.setIfInBounds_toArray]); (repeat first | simp only [List.set_cons_succ] | simp only [List.set_cons_zero])
          refine wpAnyH_done (by kernel_rfl) ?_ _
          go_wp2_with fail
          exact restH.out (hP7.new k8) (hL7.keep (by show 0 < 4; decide) k8 (fun e => e))
        · have hL6 := hL2.keep (by show 0 < 4; decide) K5 nL
          rw [rk4_same hi4 hrk] at hL6
          cases b with
          | true =>
            have hk14 : (r.kind == 14) = false := by simpa using hb
            have c5 := hr5.c 5 _ rfl
            go_wp2_with fail
            exact restH.out hP5 hL6
          | false =>
            go_wp2_with fail
            exact restH.out hP5 hL6
end
end Go.Proofs.YtgjndhbfjofkeaaGreatDoor

