import Derived.Test.YtgjndhbfjofkeaaGreatDoorSb
namespace Go.Proofs.YtgjndhbfjofkeaaGreatDoor
open Go.RowKit Go.Maps Go.ChangeMaps Go.MapKept Go.WideShapes
attribute [local go_sem] Oper.semAt_some run_store_nf run_store_f
/-- Between two moves of RetryStamps. -/
def SnI (w : World) (fb lB pB : Nat) (B : Bk) (nd : Nat) (xs : Nat → Int) (kd : Nat) (p : Int) (n : Nat) (f : Int) (t : Nat) (bg : Int) (W : World) : Prop :=
  ∃ ρ lb P s m, PI w fb B nd xs kd p n t ρ lb P s m W ∧ Ow w fb ρ lb lB ∧ CL W lB (st4 P) ∧ (1 ≤ t → (P 0).T.a ≠ none) ∧ (t = 0 → ∀ k, k < 4 → (P k).T.a = none) ∧ Ow w fb ρ lb pB ∧ CL W pB (pr4 P) ∧ bg = bg4 P ∧ m.val 0 = IntKind.i64.wrap (f + bg)
theorem MO.someS {kd t i : Nat} {st : Int} {p p' : Pt} {s s' : Ws} {m m' : Mm} {r : Ro} {b : Bool} (h : MO kd t i st p p' s m r b s' m') (hq : PQ kd t i p s m) : p'.T.a ≠ none := by
  cases h with
  | over h hb hr hp hs hm => intro e; rw [hp] at e; exact h (hq.no e).2.1
  | ask h ab ha hal hb hr hm sa => rw [sa.T, ha]; exact fun e => (by cases e)
  | step h hb si =>
    cases si with
    | begin ab c a e hc hp hs hm => subst hp; exact fun e => (by cases e)
    | again ab0 ab q c a d hq e hc hp hs hm => subst hp; exact fun e => (by cases e)
    | go ab r0 a al e hT sp po =>
      rw [hT]
      have oT : (p.T.out r0.fin).a = p.T.a := by unfold Tr.out; split <;> rfl
      rw [oT, a]; exact fun e => (by cases e)
theorem wrap_up (f bg : Int) : wrap64 (IntKind.i64.wrap (f + bg) + 1) = IntKind.i64.wrap (f + (bg + 1)) := by
  unfold wrap64
  rw [IntKind.wrap_i64, IntKind.wrap_i64]; omega
section
variable {w w' : World}
set_option maxHeartbeats 600000 in
set_option maxRecDepth 1000000 in
theorem stamps_any {k pa f s : Int} {da va ma : Option Addr} {dl dc vl vc mc : Nat} {z xs : Nat → Int} {ms : List Mv} (hT : TR w) (hv : IsRaw w va vl z) (hvc : vl ≤ vc) (hb : vl ≤ 9223372036854775807) (hd : IsRaw w da dl xs) (hdl : dl ≤ 17592186044416) (hx : ∀ i, In64 (xs i)) (hf : In64 f) (hs : In64 s) (hm : MVL w ma ms) (hml : ms.length ≤ 9223372036854775807) :
    Calls Tryz.prog 3 #[.agg #[.int .i64 k, .int .i64 pa, .slice da dl dc, .slice va vl vc, .int .i64 f, .int .i64 s], .slice ma ms.length mc] w fun e w' => e = .returned (.bool true) ∧ Below w.heap.size w w' := by
  obtain ⟨w0, hw0⟩ : ∃ w0, w0 = w.alloc (.cells #[.int .i64 k, .int .i64 pa, .slice da dl dc, .slice va vl vc, .int .i64 f, .int .i64 s] 24) := ⟨_, rfl⟩
  have k0 : Keeps (fun _ => False) w w0 := by rw [hw0]; exact (Keeps.refl _ w).alloc _
  have cF : w0.cell? ⟨w.heap.size, 4, none⟩ = some (.int .i64 f) := by rw [hw0]; simp
  have hO := open_any (k := k) (pa := pa) (dc := dc) (hT.keep k0) (hv.keep k0) hvc hb (hd.keep k0) hdl hx hf hs
  go_enter Tryz.func3, Tryz.ntmps3
  go_wp2_with fail
  rw [← hw0]
  clear hw0
  refine hO.mono ?_
  clear hO hv hd
  rintro e W1 ⟨fb, ρ, lb, B, xs', kd, p, ws, mm, n, rfl, F, D, Q, Bd, hn, hno, hv0, _, hold, hfb, k1⟩
  have l0 := k0.size
  have cF1 := k1.cell cF (fun e => e)
  have hP : PI w fb B dl xs' kd p n 0 ρ lb pt0 ws mm W1 := ⟨⟨_, F⟩, ⟨_, D, Bd⟩, Q, ⟨hn.1, hn.2, hno⟩, fun q hq => hold q (by omega), by omega, k0.trans k1⟩
  have hI2 : SnI w fb W1.heap.size (W1.heap.size + 1) B dl xs' kd p n f 0 0 ((W1.alloc (.cells #[.int .i64 0, .int .i64 0, .int .i64 0, .int .i64 0] 29)).alloc (.cells #[.int .i64 0, .int .i64 0, .int .i64 0, .int .i64 0] 30)) := by
    refine ⟨ρ, lb, pt0, ws, mm, hP.new (((Keeps.refl _ W1).alloc _).alloc _), hP.ow (Nat.le_refl _), (CL.made W1 (st4 pt0) 29).alloc (by show 0 < 4; decide) _, fun e => by omega, fun _ k _ => rfl, hP.ow (by omega), ?_, rfl, ?_⟩
    · have := CL.made (W1.alloc (.cells #[.int .i64 0, .int .i64 0, .int .i64 0, .int .i64 0] 29)) (pr4 pt0) 30
      have e : (W1.alloc (.cells #[.int .i64 0, .int .i64 0, .int .i64 0, .int .i64 0] 29)).heap.size = W1.heap.size + 1 := by simp
      rw [e] at this
      exact this
    · rw [hv0, IntKind.wrap_i64]; unfold In64 at hf; omega
  have hsp : ¬ W1.heap.size = W1.heap.size + 1 := by omega
  clear hP F D Q Bd hv0
  go_wp2_with fail
  generalize (W1.alloc (.cells #[.int .i64 0, .int .i64 0, .int .i64 0, .int .i64 0] 29)).alloc (.cells #[.int .i64 0, .int .i64 0, .int .i64 0, .int .i64 0] 30) = W2 at *
  generalize W1.heap.size + 1 = pB at *
  generalize W1.heap.size = lB at *
  clear hold hfb k1 cF cF1
  go_loopw [8, 11] (fun bv iv Wr => ∃ (t : Nat) (bg : Int), bv = .int .i64 bg ∧ iv = .int .i64 ((t : Int) - 1) ∧ t ≤ ms.length + 1 ∧ t ≤ 4001 ∧ SnI w fb lB pB B dl xs' kd p n f t bg Wr) (fun _ iv _ => (ms.length + 1) - (intOf iv + 1).toNat)
  case atStart => exact ⟨0, 0, rfl, rfl, by omega, by omega, hI2⟩
  case round =>
    obtain ⟨t, bg, rfl, rfl, ht1, ht2, hI⟩ := hrel
    by_cases hend : (ms.length : Int) ≤ (t : Int) - 1 ∨ 4000 ≤ (t : Int) - 1
    · obtain ⟨q, rfl⟩ : ∃ q, t = q + 1 := ⟨t - 1, by omega⟩
      obtain ⟨ρ, lb, P, s1, m1, hP, hOw, hL, htr, hz, hOp, hV, hbg, hmw⟩ := hI
      have h1 : 1 ≤ bg := by rw [hbg]; exact bg4_pos (htr (by omega))
      have hBel : Hid (Below w.heap.size w wr) := hP.k.below (Nat.le_refl _) (fun _ _ e => e)
      obtain ⟨kr, F⟩ := hP.fm
      obtain ⟨st, D, _⟩ := hP.fd
      have f5 := D.cl.c 0 _ rfl
      have hPk := speek F.st hP.fq.c0
      have ev : (ca m1.cells 0).2 = IntKind.i64.wrap (f + bg) := hmw
      rw [ev] at hPk
      have eq1 : ((q + 1 : Nat) : Int) - 1 = (q : Int) := by omega
      rw [eq1] at hend ⊢
      have hb0 : decide (0 < bg) = true := by simp; omega
      have hPk2 : Calls Tryz.prog 17 #[.pointer (some ⟨B.mb, 0, none⟩), .int .i64 0] wr fun e w' => e = .returned (.tuple #[.int .i64 (IntKind.i64.wrap (f + bg)), .int .i64 0]) ∧ wr = w' := hPk
      clear hP hOw htr hL F D hz hPk hmw ev hV hOp hbg
      by_cases hq1 : (q : Int) < (ms.length : Int)
      · have hq2 : ¬ (q : Int) < 4000 := by omega
        go_wp2_with (first | (go_at_call 17; refine hPk2.mono ?_; rintro e Wx ⟨rfl, hx_⟩; subst hx_) | (go_at_call 12; refine (num_r _ _).mono ?_; rintro e Wx ⟨rfl, hx_⟩; subst Wx))
        go_ret
        first | exact ⟨rfl, hBel.out⟩ | exact ⟨by simp [h1], hBel.out⟩
      · go_wp2_with (first | (go_at_call 17; refine hPk2.mono ?_; rintro e Wx ⟨rfl, hx_⟩; subst hx_) | (go_at_call 12; refine (num_r _ _).mono ?_; rintro e Wx ⟨rfl, hx_⟩; subst Wx))
        go_ret
        first | exact ⟨rfl, hBel.out⟩ | exact ⟨by simp [h1], hBel.out⟩
    · obtain ⟨mp, ma', mx, hmv⟩ : ∃ mp ma' mx : Int, (t = 0 ∧ mp = 0 ∧ ma' = 0 ∧ mx = 0) ∨ ∃ k : Nat, t = k + 1 ∧ ms.getD k mv0 = ⟨mp, ma', mx⟩ := by
        rcases Nat.eq_zero_or_pos t with h | h
        · exact ⟨0, 0, 0, .inl ⟨h, rfl, rfl, rfl⟩⟩
        · exact ⟨_, _, _, .inr ⟨t - 1, by omega, rfl⟩⟩
      obtain ⟨i, hi⟩ : ∃ i : Nat, mp % 4 = (i : Int) := ⟨(mp % 4).toNat, by omega⟩
      have hi4 : i < 4 := by omega
      have hi4I : (i : Int) < 4 := by omega
      obtain ⟨ρ, lb, P, s1, m1, hP, hOw, hL, htr, hz, hOp, hV, hbg0, hmw0⟩ := hI
      have hbg : Hid (bg = bg4 P) := hbg0
      have hmw : Hid (m1.val 0 = IntKind.i64.wrap (f + bg)) := hmw0
      clear hbg0 hmw0
      obtain ⟨Wm, hWm⟩ : ∃ Wm, Wm = wr.alloc (.cells #[.int .i64 mp, .int .i64 ma', .int .i64 mx] 32) := ⟨_, rfl⟩
      have km : Keeps (fun _ => False) wr Wm := by rw [hWm]; exact (Keeps.refl _ wr).alloc _
      have hM : CL Wm wr.heap.size [.int .i64 mp, .int .i64 ma', .int .i64 mx] := by rw [hWm]; exact CL.made wr [.int .i64 mp, .int .i64 ma', .int .i64 mx] _
      have oM := hP.ow (Nat.le_refl _)
      have hPm := hP.new km
      have hLm := hL.keep (by show 0 < 4; decide) km (fun e => e)
      have hMv := hPm.mv (by omega) hi4 mp ma' mx hi
      have lM := hM.lt (by show 0 < 3; decide)
      have lL := hLm.lt (by show 0 < 4; decide)
      have hmr := hm.keep hP.k
      rcases hmv with ⟨rfl, h0⟩ | ⟨q, rfl, hq⟩
      · have h0 : Hid (mp = 0 ∧ ma' = 0 ∧ mx = 0) := h0
        have e0 : Hid (wr.alloc (.cells #[.int .i64 0, .int .i64 0, .int .i64 0] 32) = Wm) := by show _ = _; rw [hWm, h0.out.1, h0.out.2.1, h0.out.2.2]
        have hMv0 := hMv
        rw [h0.out.1, h0.out.2.1, h0.out.2.2] at hMv0
        clear hMv
        have hMv := hMv0
        clear hMv0 hWm
        obtain rfl : i = 0 := by have z := h0.out.1; omega
        go_wp2_with fail
        rw [e0.out]
        clear e0
        rename_i KR hKR Ko hKo
        refine hMv.mono ?_
        clear hMv
        rintro e Wv ⟨r, b, p', s2, m2, ρ2, lb2, st, rfl, P2, X2, mo⟩
        have hM2 := hM.keep (by show 0 < 3; decide) X2.keeps oM.no
        have hL2 := hLm.keep (by show 0 < 4; decide) X2.keeps hOw.no
        have hOw2 := hOw.fx lL X2
        have oM2 := oM.fx lM X2
        have sX := X2.keeps.size
        have nM : ¬ wr.heap.size = Wv.heap.size := by omega
        have nL : ¬ lB = Wv.heap.size := by omega
        have sm := stamp_mo mo hP.fq hi4
        have hai : p'.T.a ≠ none := mo.someS (hP.fq.pt 0 hi4)
        have hsm : b = true ∧ r.kind = 1 ∧ r.seen = m1.val 0 ∧ r.cell = 0 ∧ r.no = (p'.x.no : Int) ∧ p'.stv = m1.val 0 ∧ p'.bgn = (P 0).bgn + 1 ∧ m2.val 0 = wrap64 (m1.val 0 + 1) := by
          rcases sm with h | ⟨_, _, _, h, _⟩
          · exact h
          · exfalso
            have e1 : (P 0).bgn = 0 := by unfold Pt.bgn; rw [if_pos (hz (by simp) 0 hi4)]
            have e2 : p'.bgn = 1 := by unfold Pt.bgn; rw [if_neg hai]
            omega
        obtain rfl : b = true := hsm.1
        have hVm := hV.keep (by show 0 < 4; decide) km (fun e => e)
        have lP := hVm.lt (by show 0 < 4; decide)
        have hV2 := hVm.keep (by show 0 < 4; decide) X2.keeps hOp.no
        have hOp2 := hOp.fx lP X2
        have nP : ¬ pB = Wv.heap.size := by omega
        obtain ⟨W4, hW4⟩ : ∃ W4, W4 = Wv.alloc (.cells #[.int .i64 0, .int .i64 0, .int .i64 0, .int .i64 0, .int .i64 0, .int .i64 0, .int .i64 0, .int .i64 0, .int .i64 0, .int .i64 0, .int .i64 0, .int .i64 0, .int .i64 0, .bool false, .bool false, .bool false, .int .i64 0, .bool false, .int .i64 0, .int .i64 0, .bool false, .bool false, .int .i64 0, .int .i64 0, .bool false, .int .i64 0] 36) := ⟨_, rfl⟩
        have k4 : Keeps (fun _ => False) Wv W4 := by rw [hW4]; exact (Keeps.refl _ Wv).alloc _
        have hc4 : CL W4 Wv.heap.size Ro.zero.cells := by rw [hW4]; exact CL.made _ Ro.zero.cells _
        have hKRH : Hid _ := hKR
        clear hKR
        go_wp2_with (first | (rw [← hW4]; clear hW4; refine wpList_store_cl rfl 36 _ _ rfl Wv.heap.size 0 26 _ rfl rfl rfl hc4 (by show 26 ≤ 26; decide) i46 (all_oneCell_toArray (by simp [Ro.cells, Value.oneCell'])) ?_; intro w5 hc5 k5 hsz5; clear hsz5))
        refine hKRH.out _ _ ?_
        clear hKRH KR
        have hr5 : CL w5 Wv.heap.size r.cells := hc5
        have K5 : Keeps (fun k => k = Wv.heap.size) Wv w5 := (k4.mono (fun _ _ e => e.elim)).trans k5
        have c0 := (hM2.keep (by show 0 < 3; decide) K5 nM).c 0 _ rfl
        have hP5 := P2.own K5 (fun j hj e => by exfalso; have e : j = Wv.heap.size := e; omega)
        obtain ⟨st5, D5, _⟩ := hP5.fd
        have f5 := D5.tb hi4
        simp only [Nat.add_zero] at f5
        clear hc4 k4 k5 hc5 D5
        refine wp_seq_k (fun K hK => ?_)
        have hKH : Hid _ := hK
        clear hK
        go_wp2_with fail
        refine hKH.out _ _ ?_
        clear hKH K
        refine wp_seq_k (fun K hK => ?_)
        have hKH : Hid _ := hK
        clear hK
        go_wp2_with (go_at_call 10; refine (rest_any _ _ 4 ⟨by omega, by omega⟩).mono ?_; rintro e Wq ⟨rfl, hq⟩; subst hq)
        refine hKH.out _ _ ?_
        clear hKH K
        refine wp_seq_k (fun K hK => ?_)
        have hKH : Hid _ := hK
        clear hK
        go_wp2_with fail
        refine hKH.out _ _ ?_
        clear hKH K
        have hS5 := hL2.keep (by show 0 < 4; decide) K5 nL
        have hV5 := hV2.keep (by show 0 < 4; decide) K5 nP
        refine wp_seq_k (fun K1 hK1 => ?_)
        have rest : ∀ {x4 x12 x13 x14 x15 x18 x19 x20 x21 x33 x34 x35 x36 x37 x38 x39 x40 x41 x42 x43 x44 x45 x46 x47 x48 x49 x50 x51 x52 x53 x54 x55 x56 x57 x58 x59 x60 x61 x62 x63 x64 x65 x66 x67 x68 x69 x70 x71 x72 x73 x74 x75 x76 x77 x78 x79 x80 x81 x82 x83 x84 x85 x86 x87 x88 x89 x90 x91 x92 x93 x94 x95 x96 x97 x98 x99 x100 x101 x102 x103 x104 x105 x106 x107 x108 x109 x110 x111 x112 x113 x114 x115 x116 x117 x118 x119 x120 x121 x122 x123 x124 x125 x126 x127 x128 x129 x130 x131 x132 x133 x134 x135 x136 x137 x138 x139 x140 x141 x142 x143 x144 x145 x146 x147 x148 x149 x150 x151 x152 x153 x154 x155 x156 x157 x158 x159 x160 : Value} {bgv : Int} {W6 : World}, PI w fb B dl xs' kd p n (0 + 1) ρ2 lb2 (fun k => if k = 0 then p' else P k) s2 m2 W6 → CL W6 lB (st4 (fun k => if k = 0 then p' else P k)) → CL W6 pB (pr4 (fun k => if k = 0 then p' else P k)) → bgv = bg4 (fun k => if k = 0 then p' else P k) → m2.val 0 = IntKind.i64.wrap (f + bgv) → K1 { tmps := #[.agg #[.int .i64 k, .int .i64 pa, .slice da dl dc, .slice va vl vc, .int .i64 f, .int .i64 s], .slice ma ms.length mc, .pointer (some ⟨w.heap.size, 0, none⟩), undef, x4, .pointer (some ⟨fb, 0, none⟩), .bool true, .int .i64 f, .int .i64 bgv, .pointer (some ⟨lB, 0, none⟩), .pointer (some ⟨pB, 0, none⟩), .int .i64 (-1), x12, x13, x14, x15, .int .i64 0, .pointer (some ⟨B.tb 0, 0, none⟩), x18, x19, x20, x21, undef, undef, .tuple #[.pointer (some ⟨fb, 0, none⟩), .bool true], .agg #[.int .i64 k, .int .i64 pa, .slice da dl dc, .slice va vl vc, .int .i64 f, .int .i64 s], .tuple #[.pointer (some ⟨fb, 0, none⟩), .bool true], .pointer (some ⟨fb, 0, none⟩), .bool true, .bool true, .bool false, .pointer (some ⟨w.heap.size, 4, none⟩), .int .i64 f, x33, x34, x35, x36, x37, x38, x39, x40, x41, x42, x43, x44, x45, x46, x47, x48, x49, x50, x51, x52, x53, x54, x55, x56, x57, x58, x59, x60, x61, x62, x63, x64, x65, x66, x67, x68, x69, x70, x71, x72, x73, x74, x75, x76, x77, x78, x79, x80, x81, x82, x83, x84, x85, x86, x87, x88, x89, x90, x91, x92, x93, x94, x95, x96, x97, x98, x99, x100, x101, x102, x103, x104, x105, x106, x107, x108, x109, x110, x111, x112, x113, x114, x115, x116, x117, x118, x119, x120, x121, x122, x123, x124, x125, x126, x127, x128, x129, x130, x131, x132, x133, x134, x135, x136, x137, x138, x139, x140, x141, x142, x143, x144, x145, x146, x147, x148, x149, x150, x151, x152, x153, x154, x155, x156, x157, x158, x159, x160, undef, undef, undef, undef, undef, undef, undef, undef, undef, undef, undef, undef, undef, undef, undef, undef, undef, undef, undef, undef, undef, undef, undef], defers := [] } W6 := by
          intro x4 x12 x13 x14 x15 x18 x19 x20 x21 x33 x34 x35 x36 x37 x38 x39 x40 x41 x42 x43 x44 x45 x46 x47 x48 x49 x50 x51 x52 x53 x54 x55 x56 x57 x58 x59 x60 x61 x62 x63 x64 x65 x66 x67 x68 x69 x70 x71 x72 x73 x74 x75 x76 x77 x78 x79 x80 x81 x82 x83 x84 x85 x86 x87 x88 x89 x90 x91 x92 x93 x94 x95 x96 x97 x98 x99 x100 x101 x102 x103 x104 x105 x106 x107 x108 x109 x110 x111 x112 x113 x114 x115 x116 x117 x118 x119 x120 x121 x122 x123 x124 x125 x126 x127 x128 x129 x130 x131 x132 x133 x134 x135 x136 x137 x138 x139 x140 x141 x142 x143 x144 x145 x146 x147 x148 x149 x150 x151 x152 x153 x154 x155 x156 x157 x158 x159 x160 bgv W6 hP6 hS6 hQ6 hb6 hm6
          refine hK1 _ _ ?_
          clear hK1
          have hb6H : Hid (_ = _) := hb6
          have hm6H : Hid (_ = _) := hm6
          clear hb6 hm6
          refine stamps_tail hi4 hP6 hS6 hQ6 (by show (if 0 = 0 then p' else P 0).T.a ≠ none; rw [if_pos rfl]; exact hai) ?_
          intro y20 y21 y111 y112 y113 y114 y115 y116 y117 y118 y119 y120 y121 y122 y123 y124 y125 y126 y127 y128 y129 y130 y131 y132 y133 y134 y135 y136 y137 y138 y139 y140 y141 y142 y143 y144 y145 y146 y147 y148 y149 y150 y151 y152 y153 y154 y155 y156 y157 y158 y159 y160 W7 hP7 hS7 hQ7
          go_wp2_with fail
          go_roundw
          case rel => exact ⟨0 + 1, bgv, rfl, by first | go_num | rfl | decide, by omega, by omega, ρ2, lb2, _, s2, m2, hP7, hOw2, hS7, fun _ => by show (if 0 = 0 then p' else P 0).T.a ≠ none; split; (exact hai); (exact absurd rfl (by assumption)), fun e => by omega, hOp2, hQ7, hb6H.out, hm6H.out⟩
          case measure => first | (simp [intOf]; done) | (simp [intOf]; omega)
        have restH : Hid _ := @rest
        clear rest
        clear hK1
        have hc := hsm.2.1
        have c5 := hr5.c 5 _ rfl
        rw [hc] at c5
        refine wp_seq_k (fun K0 hK0 => ?_)
        have hK0H : Hid _ := hK0
        clear hK0
        go_wp2_with fail
        refine hK0H.out _ _ ?_
        clear hK0H K0
        refine wp_cond_true rfl ?_
        have hvs := hsm.2.2.2.2.2.1
        have hst : ((fun k => if k = 0 then p' else P k) 0).T.st = m1.val 0 := by
          show (if 0 = 0 then p' else P 0).T.st = _
          rw [if_pos rfl, ← hvs]; exact ((stv_some hai).1).symm
        have hno : r.no = (((fun k => if k = 0 then p' else P k) 0).x.no : Int) := by
          show r.no = ((if 0 = 0 then p' else P 0).x.no : Int)
          rw [if_pos rfl]; exact hsm.2.2.2.2.1
        refine stamps_beg (P0 := P) hi4 hP5 hOw2 hOp2 hsp hS5 hV5 hr5 (fun k e => if_neg e) (by show (if 0 = 0 then p' else P 0).T.a ≠ none; rw [if_pos rfl]; exact hai) (hsm.2.2.1.trans hst.symm) hsm.2.2.2.1 hno (hmw.out.symm.trans hst.symm) (by have := bg4_le P; have := hbg.out; omega) ?_
        intro y18 y19 y74 y75 y76 y77 y78 y79 y80 y81 y82 y83 y84 y85 y86 y87 y88 y89 y90 y91 y92 y93 y94 y95 y96 y97 y98 y99 y100 y101 y102 y103 y104 y105 y106 y107 y108 y109 y110 W7 hP7 hS7 hQ7
        show K1 _ _
        exact restH.out hP7 hS7 hQ7 (by rw [bg4_more hi4 hsm.2.2.2.2.2.2.1, hbg.out]) (by rw [hsm.2.2.2.2.2.2.2, hmw.out]; exact wrap_up f bg)
      · obtain ⟨mb_, off, rfl, hcm⟩ := hmr.some (by omega)
        have hcq := hcm q (by omega)
        rw [hq] at hcq
        obtain ⟨mc0, mc1, mc2⟩ := hcq
        clear hcm
        have kz : Keeps (fun _ => False) wr (wr.alloc (.cells #[.int .i64 0, .int .i64 0, .int .i64 0] 32)) := (Keeps.refl _ wr).alloc _
        have md0 := kz.cell mc0 (fun e => e)
        have md1 := kz.cell mc1 (fun e => e)
        have md2 := kz.cell mc2 (fun e => e)
        have eq1 : ((q + 1 : Nat) : Int) - 1 = (q : Int) := by omega
        rw [eq1] at hend ⊢
        have hq1 : (q : Int) < (ms.length : Int) := by omega
        have hq2 : (q : Int) < 4000 := by omega
        have hq3 : ¬ (q : Int) < 0 := by omega
        have hq4 : q < ms.length := by omega
        go_wp2_with fail
        rw [← hWm]
        clear hWm md0 md1 md2 kz mc0 mc1 mc2 eq1 hq hq1 hq2 hq3
        rename_i KR hKR Ko hKo
        refine hMv.mono ?_
        clear hMv
        rintro e Wv ⟨r, b, p', s2, m2, ρ2, lb2, st, rfl, P2, X2, mo⟩
        have hM2 := hM.keep (by show 0 < 3; decide) X2.keeps oM.no
        have hL2 := hLm.keep (by show 0 < 4; decide) X2.keeps hOw.no
        have hOw2 := hOw.fx lL X2
        have oM2 := oM.fx lM X2
        have sX := X2.keeps.size
        have nM : ¬ wr.heap.size = Wv.heap.size := by omega
        have nL : ¬ lB = Wv.heap.size := by omega
        have sm := stamp_mo mo hP.fq hi4
        have hai : p'.T.a ≠ none := mo.someS (hP.fq.pt i hi4)
        have hVm := hV.keep (by show 0 < 4; decide) km (fun e => e)
        have lP := hVm.lt (by show 0 < 4; decide)
        have hV2 := hVm.keep (by show 0 < 4; decide) X2.keeps hOp.no
        have hOp2 := hOp.fx lP X2
        have nP : ¬ pB = Wv.heap.size := by omega
        obtain ⟨W4, hW4⟩ : ∃ W4, W4 = Wv.alloc (.cells #[.int .i64 0, .int .i64 0, .int .i64 0, .int .i64 0, .int .i64 0, .int .i64 0, .int .i64 0, .int .i64 0, .int .i64 0, .int .i64 0, .int .i64 0, .int .i64 0, .int .i64 0, .bool false, .bool false, .bool false, .int .i64 0, .bool false, .int .i64 0, .int .i64 0, .bool false, .bool false, .int .i64 0, .int .i64 0, .bool false, .int .i64 0] 36) := ⟨_, rfl⟩
        have k4 : Keeps (fun _ => False) Wv W4 := by rw [hW4]; exact (Keeps.refl _ Wv).alloc _
        have hc4 : CL W4 Wv.heap.size Ro.zero.cells := by rw [hW4]; exact CL.made _ Ro.zero.cells _
        have hKRH : Hid _ := hKR
        clear hKR
        go_wp2_with (first | (rw [← hW4]; clear hW4; refine wpList_store_cl rfl 36 _ _ rfl Wv.heap.size 0 26 _ rfl rfl rfl hc4 (by show 26 ≤ 26; decide) i46 (all_oneCell_toArray (by simp [Ro.cells, Value.oneCell'])) ?_; intro w5 hc5 k5 hsz5; clear hsz5))
        refine hKRH.out _ _ ?_
        clear hKRH KR
        have hr5 : CL w5 Wv.heap.size r.cells := hc5
        have K5 : Keeps (fun k => k = Wv.heap.size) Wv w5 := (k4.mono (fun _ _ e => e.elim)).trans k5
        have c0 := (hM2.keep (by show 0 < 3; decide) K5 nM).c 0 _ rfl
        have hP5 := P2.own K5 (fun j hj e => by exfalso; have e : j = Wv.heap.size := e; omega)
        obtain ⟨st5, D5, _⟩ := hP5.fd
        have f5 := D5.tb hi4
        skip
        clear hc4 k4 k5 hc5 D5
        refine wp_seq_k (fun K hK => ?_)
        have hKH : Hid _ := hK
        clear hK
        go_wp2_with fail
        refine hKH.out _ _ ?_
        clear hKH K
        refine wp_seq_k (fun K hK => ?_)
        have hKH : Hid _ := hK
        clear hK
        go_wp2_with (go_at_call 10; refine (rest_any _ _ 4 ⟨by omega, by omega⟩).mono ?_; rintro e Wq ⟨rfl, hq⟩; subst hq)
        refine hKH.out _ _ ?_
        clear hKH K
        refine wp_seq_k (fun K hK => ?_)
        have hKH : Hid _ := hK
        clear hK
        go_wp2_with fail
        refine hKH.out _ _ ?_
        clear hKH K
        have hS5 := hL2.keep (by show 0 < 4; decide) K5 nL
        have hV5 := hV2.keep (by show 0 < 4; decide) K5 nP
        refine wp_seq_k (fun K1 hK1 => ?_)
        have rest : ∀ {x4 x12 x13 x14 x15 x18 x19 x20 x21 x33 x34 x35 x36 x37 x38 x39 x40 x41 x42 x43 x44 x45 x46 x47 x48 x49 x50 x51 x52 x53 x54 x55 x56 x57 x58 x59 x60 x61 x62 x63 x64 x65 x66 x67 x68 x69 x70 x71 x72 x73 x74 x75 x76 x77 x78 x79 x80 x81 x82 x83 x84 x85 x86 x87 x88 x89 x90 x91 x92 x93 x94 x95 x96 x97 x98 x99 x100 x101 x102 x103 x104 x105 x106 x107 x108 x109 x110 x111 x112 x113 x114 x115 x116 x117 x118 x119 x120 x121 x122 x123 x124 x125 x126 x127 x128 x129 x130 x131 x132 x133 x134 x135 x136 x137 x138 x139 x140 x141 x142 x143 x144 x145 x146 x147 x148 x149 x150 x151 x152 x153 x154 x155 x156 x157 x158 x159 x160 : Value} {bgv : Int} {W6 : World}, PI w fb B dl xs' kd p n ((q + 1) + 1) ρ2 lb2 (fun k => if k = i then p' else P k) s2 m2 W6 → CL W6 lB (st4 (fun k => if k = i then p' else P k)) → CL W6 pB (pr4 (fun k => if k = i then p' else P k)) → bgv = bg4 (fun k => if k = i then p' else P k) → m2.val 0 = IntKind.i64.wrap (f + bgv) → K1 { tmps := #[.agg #[.int .i64 k, .int .i64 pa, .slice da dl dc, .slice va vl vc, .int .i64 f, .int .i64 s], .slice (some ⟨mb_, off, none⟩) ms.length mc, .pointer (some ⟨w.heap.size, 0, none⟩), undef, x4, .pointer (some ⟨fb, 0, none⟩), .bool true, .int .i64 f, .int .i64 bgv, .pointer (some ⟨lB, 0, none⟩), .pointer (some ⟨pB, 0, none⟩), .int .i64 (q : Int), x12, x13, x14, x15, .int .i64 (i : Int), .pointer (some ⟨B.tb i, 0, none⟩), x18, x19, x20, x21, undef, undef, .tuple #[.pointer (some ⟨fb, 0, none⟩), .bool true], .agg #[.int .i64 k, .int .i64 pa, .slice da dl dc, .slice va vl vc, .int .i64 f, .int .i64 s], .tuple #[.pointer (some ⟨fb, 0, none⟩), .bool true], .pointer (some ⟨fb, 0, none⟩), .bool true, .bool true, .bool false, .pointer (some ⟨w.heap.size, 4, none⟩), .int .i64 f, x33, x34, x35, x36, x37, x38, x39, x40, x41, x42, x43, x44, x45, x46, x47, x48, x49, x50, x51, x52, x53, x54, x55, x56, x57, x58, x59, x60, x61, x62, x63, x64, x65, x66, x67, x68, x69, x70, x71, x72, x73, x74, x75, x76, x77, x78, x79, x80, x81, x82, x83, x84, x85, x86, x87, x88, x89, x90, x91, x92, x93, x94, x95, x96, x97, x98, x99, x100, x101, x102, x103, x104, x105, x106, x107, x108, x109, x110, x111, x112, x113, x114, x115, x116, x117, x118, x119, x120, x121, x122, x123, x124, x125, x126, x127, x128, x129, x130, x131, x132, x133, x134, x135, x136, x137, x138, x139, x140, x141, x142, x143, x144, x145, x146, x147, x148, x149, x150, x151, x152, x153, x154, x155, x156, x157, x158, x159, x160, undef, undef, undef, undef, undef, undef, undef, undef, undef, undef, undef, undef, undef, undef, undef, undef, undef, undef, undef, undef, undef, undef, undef], defers := [] } W6 := by
          intro x4 x12 x13 x14 x15 x18 x19 x20 x21 x33 x34 x35 x36 x37 x38 x39 x40 x41 x42 x43 x44 x45 x46 x47 x48 x49 x50 x51 x52 x53 x54 x55 x56 x57 x58 x59 x60 x61 x62 x63 x64 x65 x66 x67 x68 x69 x70 x71 x72 x73 x74 x75 x76 x77 x78 x79 x80 x81 x82 x83 x84 x85 x86 x87 x88 x89 x90 x91 x92 x93 x94 x95 x96 x97 x98 x99 x100 x101 x102 x103 x104 x105 x106 x107 x108 x109 x110 x111 x112 x113 x114 x115 x116 x117 x118 x119 x120 x121 x122 x123 x124 x125 x126 x127 x128 x129 x130 x131 x132 x133 x134 x135 x136 x137 x138 x139 x140 x141 x142 x143 x144 x145 x146 x147 x148 x149 x150 x151 x152 x153 x154 x155 x156 x157 x158 x159 x160 bgv W6 hP6 hS6 hQ6 hb6 hm6
          refine hK1 _ _ ?_
          clear hK1
          have hb6H : Hid (_ = _) := hb6
          have hm6H : Hid (_ = _) := hm6
          clear hb6 hm6
          refine stamps_tail hi4 hP6 hS6 hQ6 (by show (if i = i then p' else P i).T.a ≠ none; rw [if_pos rfl]; exact hai) ?_
          intro y20 y21 y111 y112 y113 y114 y115 y116 y117 y118 y119 y120 y121 y122 y123 y124 y125 y126 y127 y128 y129 y130 y131 y132 y133 y134 y135 y136 y137 y138 y139 y140 y141 y142 y143 y144 y145 y146 y147 y148 y149 y150 y151 y152 y153 y154 y155 y156 y157 y158 y159 y160 W7 hP7 hS7 hQ7
          go_wp2_with fail
          go_roundw
          case rel => exact ⟨(q + 1) + 1, bgv, rfl, by go_num, by omega, by omega, ρ2, lb2, _, s2, m2, hP7, hOw2, hS7, fun _ => by show (if 0 = i then p' else P 0).T.a ≠ none; split; (exact hai); (exact htr (by omega)), fun e => by omega, hOp2, hQ7, hb6H.out, hm6H.out⟩
          case measure => simp [intOf]; omega
        have restH : Hid _ := @rest
        clear rest
        clear hK1
        rcases sm with hsm | ⟨hb1, hs1, hp1, hg1, hv1⟩
        · obtain rfl : b = true := hsm.1
          have hc := hsm.2.1
          have c5 := hr5.c 5 _ rfl
          rw [hc] at c5
          refine wp_seq_k (fun K0 hK0 => ?_)
          have hK0H : Hid _ := hK0
          clear hK0
          go_wp2_with fail
          refine hK0H.out _ _ ?_
          clear hK0H K0
          refine wp_cond_true rfl ?_
          have hvs := hsm.2.2.2.2.2.1
          have hst : ((fun k => if k = i then p' else P k) i).T.st = m1.val 0 := by
            show (if i = i then p' else P i).T.st = _
            rw [if_pos rfl, ← hvs]; exact ((stv_some hai).1).symm
          have hno : r.no = (((fun k => if k = i then p' else P k) i).x.no : Int) := by
            show r.no = ((if i = i then p' else P i).x.no : Int)
            rw [if_pos rfl]; exact hsm.2.2.2.2.1
          refine stamps_beg (P0 := P) hi4 hP5 hOw2 hOp2 hsp hS5 hV5 hr5 (fun k e => if_neg e) (by show (if i = i then p' else P i).T.a ≠ none; rw [if_pos rfl]; exact hai) (hsm.2.2.1.trans hst.symm) hsm.2.2.2.1 hno (hmw.out.symm.trans hst.symm) (by have := bg4_le P; have := hbg.out; omega) ?_
          intro y18 y19 y74 y75 y76 y77 y78 y79 y80 y81 y82 y83 y84 y85 y86 y87 y88 y89 y90 y91 y92 y93 y94 y95 y96 y97 y98 y99 y100 y101 y102 y103 y104 y105 y106 y107 y108 y109 y110 W7 hP7 hS7 hQ7
          show K1 _ _
          exact restH.out hP7 hS7 hQ7 (by rw [bg4_more hi4 hsm.2.2.2.2.2.2.1, hbg.out]) (by rw [hsm.2.2.2.2.2.2.2, hmw.out]; exact wrap_up f bg)
        · rw [st4_same hi4 hs1] at hS5
          rw [pr4_same hi4 hp1] at hV5
          have hbb : Hid (bg = bg4 (fun k => if k = i then p' else P k)) := by show _ = _; rw [bg4_same hi4 hg1]; exact hbg.out
          have hmm : Hid (m2.val 0 = IntKind.i64.wrap (f + bg)) := by show _ = _; rw [hv1]; exact hmw.out
          cases b with
          | true =>
            have hk14 : (r.kind == 1) = false := by simpa using hb1
            have c5 := hr5.c 5 _ rfl
            go_wp2_with fail
            exact restH.out hP5 hS5 hV5 hbb.out hmm.out
          | false =>
            go_wp2_with fail
            exact restH.out hP5 hS5 hV5 hbb.out hmm.out
end
end Go.Proofs.YtgjndhbfjofkeaaGreatDoor
