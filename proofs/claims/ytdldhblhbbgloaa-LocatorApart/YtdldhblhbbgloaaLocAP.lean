import Derived.Test.YtdldhblhbbgloaaLocAT
import Derived.Test.YtdldhblhbbgloaaLocOpen
namespace Go.Proofs.Ytdldhblhbbgloaa
open Go.RowKit
theorem Do.len {s s' : Ws} {m m' ma : Mm} {o : Oq} {e n : Int} {d : Bool} {k k' : Nat} (hd : Do s ma o s' m' e d n) (ho : Opn m k o ma k') (iv : Inv s m) : m'.cells.length ≤ m.cells.length + 2 ∧ s'.atts.length ≤ s.atts.length + 1 ∧ s'.objs.length = s.objs.length ∧ k' ≤ k + 1 := by
  have ia : Inv s ma := by rcases ho with ⟨_, e, _⟩ | ⟨_, e, _⟩ <;> rw [e]; exact iv.mem _ _; exact iv
  obtain ⟨_, _, h3, _, _, h6, _⟩ := hd.frame ia
  have : ma.cells = m.cells := by rcases ho with ⟨_, e, _⟩ | ⟨_, e, _⟩ <;> rw [e] <;> rfl
  refine ⟨by rw [this] at h3; exact h3, h6, by rw [objs_do hd], ?_⟩
  rcases ho with ⟨_, _, rfl⟩ | ⟨_, _, rfl⟩ <;> omega
set_option maxHeartbeats 6400000 in
set_option maxRecDepth 1000000 in
theorem apartWalk {w : World} (n : Int) (_ : I64 n) {a : Option Addr} {l : List Oq} (hl : OL w a l) (_ : ∀ q ∈ l, q.ok) (hln : l.length ≤ 2199023255488) (cap : Nat) {a2 : Option Addr} {l2 : List Oq} (hl2 : OL w a2 l2) (_ : ∀ q ∈ l2, q.ok) (hln2 : l2.length ≤ 2199023255488) (cap2 : Nat) :
    Calls Try.prog 5 #[.int .i64 n, .slice a l.length cap, .slice a2 l2.length cap2] w fun e w' => e = .returned (.bool true) ∧ Below w.heap.size w w' := by
  have hc := cl_ok n
  have hh := head_any w
  go_enter Try.func5, Try.ntmps5
  go_wp2_with (go_at_call 9; refine hh.mono ?_; clear hh; rintro e w1 ⟨rfl, k1⟩)
  refine (fresh_at (w := w1) (ρ := fun _ => 0) (u := 1) (j := 2) (q := 7) (fun _ _ => rfl) (by decide) (by decide) (by decide) (by decide) (fun e => by rcases e with e | e <;> omega) n).mono ?_
  rintro e w2 ⟨rb, wb, mb, ρ2, rfl, R1, x1⟩
  go_wp2_with fail
  refine (fresh_at (w := w2) (ρ := ρ2) (u := 11) (j := 12) (q := 17) R1.st.bnd (by decide) (by decide) (by decide) (by decide) (fun e => by rcases e with e | e <;> omega) n).mono ?_
  rintro e w3 ⟨rc, wc, mc, ρ3, rfl, R2, x2⟩
  have hrq := reqn rb
  have hrq2 := reqn rc
  generalize cl n = c at *
  have R1' := R1.ext x2 R2.st.bnd (by rw [sq11]; omega) (fun r h1 h2 => by rw [sq11]; omega) (by rw [sq11]; omega)
  have kp3 : Keeps (fun _ => False) w w3 := (k1.trans' x1.keeps (fun _ _ e => e) (fun i hi e => by rw [sq1] at e; omega)).trans' x2.keeps (fun _ _ e => e) (fun i hi e => by rw [x1.old i (Nat.lt_of_lt_of_le hi k1.size), sq11] at e; omega)
  have lo3 : ∀ i, i < w.heap.size → ρ3 i = 0 := fun i hi => (x2.old i (Nat.lt_of_lt_of_le hi (Nat.le_trans k1.size x1.keeps.size))).trans (x1.old i (Nat.lt_of_lt_of_le hi k1.size))
  obtain ⟨w4, hw4⟩ : ∃ w4, w4 = w3.alloc (.cells #[.int .i64 500, .int .i64 0, .bool false, .int .i64 501, .int .i64 0, .bool false, .int .i64 502, .int .i64 0, .bool false] 28) := ⟨_, rfl⟩
  have K4 : Keeps (fun _ => False) w3 w4 := by rw [hw4]; exact (Keeps.refl _ w3).alloc _
  have R14 := (R1'.new K4).1
  have R24 := (R2.new K4).1
  have V4 : VL w4 ρ3 (some ⟨w3.heap.size, 0, none⟩) v3 := .inr ⟨w3.heap.size, 0, rfl, R2.st.bnd _ (Nat.le_refl _), fun i v hi => by
    have h2 : i < 3 := by
      rcases Nat.lt_or_ge i 3 with q | q
      · exact q
      · rw [List.getElem?_eq_none (by simp [v3]; omega)] at hi; cases hi
    have h3 : i = 0 ∨ i = 1 ∨ i = 2 := by omega
    rcases h3 with rfl | rfl | rfl <;> (simp [v3] at hi; subst hi; rw [hw4]; simp)⟩
  have hN := New_ok (j := 22) R24.st.mj (by decide) (by decide) (by decide) V4 3 (by decide) (by decide) (by rw [nm_len]; show 0 + 2 + c + 2 + 3 ≤ 65536; omega)
  have hN' : Calls Try.prog 12 #[.pointer (some ⟨mc, 0, none⟩), .slice (some ⟨w3.heap.size, 0, none⟩) 3 3] w4 fun e w' => e = .returned (.tuple #[.pointer (some ⟨w4.heap.size, 0, none⟩), .int .i64 0]) ∧ ∃ ρ', St w' ρ' 11 22 w4.heap.size mc (nw v3 (nm Mm.new c).cells.length 3) (nm (nm Mm.new c) 3) ∧ Ext (Sr 11 22) w4 w' ρ3 ρ' := hN
  have hq2 := weq w4.heap.size
  have kp4 := kp3.trans K4
  have l34 : w3.heap.size < w4.heap.size := by rw [hw4]; simp
  have q0 : w4.cell? ⟨w3.heap.size, 0, none⟩ = some (.int .i64 500) := by rw [hw4]; simp
  have qz : w4.frozen? ⟨w3.heap.size, 0, none⟩ = false := by rw [hw4]; simp
  have cc0 : ∀ ob, (w3.alloc ob).cell? ⟨rc, 0, none⟩ = some (.pointer (some ⟨mc, 0, none⟩)) := fun ob => ((Keeps.refl (fun _ => False) w3).alloc ob).cell R2.c0 (fun e => e)
  have b3 : ρ3 w3.heap.size = 0 := R2.st.bnd _ (Nat.le_refl _)
  have hw3 := kp3.size
  clear hN R1 R2 R1' x1 x2 k1 V4 K4 kp3
  go_wp2_with fail
  rw [← hw4]
  refine hN'.mono ?_
  clear hN' hw4 cc0
  rintro e w5 ⟨rfl, ρ5, S5, x5⟩
  have n3 : ¬ Sr 11 22 (ρ3 w3.heap.size) := by rw [b3]; unfold Sr; omega
  have q05 := x5.cell (p := ⟨w3.heap.size, 0, none⟩) q0 n3
  have qz5 := (x5.keeps.frozen (p := ⟨w3.heap.size, 0, none⟩) l34 n3).trans qz
  have b5 : ρ5 w3.heap.size = 0 := (x5.old _ l34).trans b3
  have K6 := keeps_set w5 w3.heap.size 0 (.int .i64 (-1))
  obtain ⟨w6, hw6⟩ : ∃ w6, w6 = w5.setCell ⟨w3.heap.size, 0, none⟩ (.int .i64 (-1)) := ⟨_, rfl⟩
  rw [← hw6] at K6
  have S6 := S5.wr K6 b5
  have i3 : Inv (nw v3 (nm Mm.new c).cells.length 3) (nm (nm Mm.new c) 3) := inv_nw v3 (nm Mm.new c) (by decide) (by decide)
  have hcm := com_any S6 i3.wf
  rw [show (nw v3 (nm Mm.new c).cells.length 3).com (nm (nm Mm.new c) 3) = v3 from fresh_com v3 (nm Mm.new c)] at hcm
  have hcm' : Calls Try.prog 14 #[.pointer (some ⟨w4.heap.size, 0, none⟩)] w6 fun e w' => e = .returned (.slice (some ⟨w6.heap.size, 0, none⟩) 3 3) ∧ w'.cell? ⟨w6.heap.size, 0, none⟩ = some (.int .i64 500) ∧ Keeps (fun _ => False) w6 w' := by
    refine hcm.mono ?_
    rintro e w' ⟨rfl, ho, k⟩
    exact ⟨rfl, owns_cell ho rfl (j := 0) rfl, k⟩
  have HX5 : Hid (Ext (Sr 11 22) w4 w5 ρ3 ρ5) := x5
  have HS5 : Hid (St w5 ρ5 11 22 w4.heap.size mc (nw v3 (nm Mm.new c).cells.length 3) (nm (nm Mm.new c) 3)) := S5
  have c0' := (x5.cell (p := ⟨rc, 0, none⟩) R24.c0 (by show ¬ Sr 11 22 (ρ3 rc); rw [R24.rr]; unfold Sr; omega))
  have nrc : ¬ rc = w3.heap.size := fun e => by have := R24.rr; rw [e, b3] at this; cases this
  have c06 := K6.cell (p := ⟨rc, 0, none⟩) c0' nrc
  clear hcm S6 x5 S5 c0'
  generalize hwd : w4.heap.size = wd at *
  go_wp2_with (first | (go_at_call 13; refine (num_of _ _).mono ?_; rintro e w' ⟨rfl, rfl⟩) | (rw [← hw6]; go_at_call 14; refine hcm'.mono ?_; clear hcm' hw6; rintro e w7 ⟨rfl, c70, k7⟩; have c07 := k7.cell c06 (fun e => e)))
  obtain ⟨w8, hw8⟩ : ∃ w8, w8 = w7.alloc (.cells #[.pointer (some ⟨mc, 0, none⟩), .pointer (some ⟨wd, 0, none⟩), .int .i64 0] 42) := ⟨_, rfl⟩
  rw [← hw8]
  obtain ⟨ρ8, A8⟩ := A3.start (W2 := w7) (W3 := w8) hc R14 R24 kp4 lo3 (by rw [hwd]; exact HS5.out) HX5.out (K6.trans' k7 (fun i _ e => by subst e; exact ⟨b5, hw3⟩) (fun _ _ e => e.elim)) (by rw [hwd]; exact hw8)
  rw [hwd] at A8
  have H8 : Hid (A3 w w8 ρ8 rb wb mb rc wc mc w7.heap.size wd (nw (fv c) 0 c) (nm Mm.new c) 0 (nw (fv c) 0 c) (nm (nm Mm.new c) 3) 0 (nw v3 (nm Mm.new c).cells.length 3)) := A8
  clear A8 hw8 HS5 HX5 R14 R24 kp4 lo3 c06 c07 c70 K6 k7 q0 qz q05 qz5 nrc hq2 i3
  generalize w7.heap.size = sb at *
  go_loopw [14] (fun iv W => ∃ (i : Nat) (ρ : Nat → Nat) (s : Ws) (m : Mm) (k : Nat) (t : Ws) (lm : Mm) (kk : Nat) (v : Ws), i ≤ l.length ∧ i ≤ 12000 ∧ iv = .int .i64 (i : Int) ∧ A3 w W ρ rb wb mb rc wc mc sb wd s m k t lm kk v ∧ k ≤ i ∧ kk ≤ 2 * i ∧ s.atts.length ≤ 1 + i ∧ m.cells.length ≤ 82 + 2 * i ∧ lm.cells.length ≤ 87 + 4 * i ∧ v.objs.length = 3) (fun iv _ => l.length - (intOf iv).toNat)
  case atStart => exact ⟨0, ρ8, _, _, 0, _, _, 0, _, Nat.zero_le _, Nat.zero_le _, rfl, H8.out, Nat.le_refl _, Nat.le_refl _, by simp [nw], by rw [nm_len]; show 0 + 2 + c ≤ _; omega, by rw [nm_len, nm_len]; show 0 + 2 + c + 2 + 3 ≤ _; omega, by simp [nw]⟩
  case round =>
    clear H8
    obtain ⟨i, ρ, s, m, k, t, lm, kk, v, hi, hi12, rfl, A, hki, hkk, hat, hmc, hlc, hob⟩ := hrel
    by_cases hlt : i < l.length
    · by_cases hlt12 : i < 12000
      · have hltI : (i : Int) < (l.length : Int) := by omega
        have hltJ : (i : Int) < 12000 := by omega
        obtain ⟨b, off, rfl, hb, hcs⟩ := hl.some (by omega)
        by_cases ho2 : i < l2.length
        · have hoI : (i : Int) < (l2.length : Int) := by omega
          obtain ⟨bo, off2, rfl, hb2, hcs2⟩ := hl2.some (by omega)
          obtain ⟨AS, RS⟩ := A.sync
          have e2c := A.two.c2
          obtain ⟨xx, hxx⟩ := A.d2
          have dzz := A.dz
          obtain ⟨c0, c1, c2, c3, c4, c5, c6, c7⟩ := (hcs2 i ho2).keep AS.kp (fun e => e)
          obtain ⟨qo, hqo⟩ : ∃ qo, Hid (oa l2 i = qo) := ⟨_, rfl⟩
          rw [show oa l2 i = qo from hqo] at c0 c1 c2 c3 c4 c5 c6 c7
          have hdo := does_any RS (by omega) qo
          simp only [opv] at hdo
          have HAS : Hid (A3 w (wr.setCell ⟨sb, 2, none⟩ (.int .i64 (kk : Int))) ρ rb wb mb rc wc mc sb wd s m k t lm kk v) := AS
          have HIV : Hid (Inv v lm) := A.iv
          clear A AS RS
          go_wp2_with fail
          refine hdo.mono ?_
          clear hdo c0 c1 c2 c3 c4 c5 c6 c7 e2c hxx dzz
          rintro e W2 ⟨er0, d0, nn0, rfl, ρ0, v0, la0, l0, k0, hop0, hd0, R0, x0⟩
          obtain ⟨c2', z2', A2⟩ := HAS.out.side hop0 hd0 R0 x0
          have f2 := R0.c2
          have L0 := hd0.len hop0 HIV.out
          obtain ⟨W3, hW3⟩ : ∃ W3, W3 = W2.setCell ⟨rc, 2, none⟩ (.int .i64 (k0 : Int)) := ⟨_, rfl⟩
          rw [← hW3] at A2
          have hcm := com_any A2.st A2.iv.wf
          have ob0 : v0.objs.length = 3 := by omega
          have hkk0 : k0 ≤ 2 * i + 1 := by omega
          have hlc0 : l0.cells.length ≤ 87 + 4 * i + 2 := by omega
          clear L0
          rw [ob0] at hcm
          have HA2 : Hid (A3 w W3 ρ0 rb wb mb rc wc mc sb wd s m k t l0 k0 v0) := A2
          have lw3 := A2.kp.size
          have r03 : ρ0 W3.heap.size = 0 := A2.one.st.bnd _ (Nat.le_refl _)
          have cl3 : (v0.com l0).length = 3 := by rw [com_len]; exact ob0
          clear A2 HAS hop0 hd0 R0 x0 HIV
          go_wp2_with fail
          rw [← hW3]
          refine hcm.mono ?_
          clear hcm hW3 c2' z2' f2
          rintro e w5 ⟨rfl, o5, k5⟩
          obtain ⟨vw, w6, hap6, ow6, k6⟩ := cpv_run ((Keeps.refl (fun _ => False) w5).alloc (.cells #[] 28)) (heap_alloc_new w5 _) (Nat.le_refl _) o5 (by omega)
          obtain ⟨aw, cw, rfl, vaw, hgw⟩ := va_own ow6 cl3
          have l35 : W3.heap.size < w5.heap.size := owns_lt' o5 _ rfl
          have A6 := HA2.out.new (k5.trans k6)
          have o6 := k6.owns o5 (fun _ _ e => e)
          have HA6 : Hid (A3 w w6 ρ0 rb wb mb rc wc mc sb wd s m k t l0 k0 v0) := A6
          have HV6 : Hid (VA w6 aw (v0.com l0)) := vaw
          have HGW : Hid (∀ g o, aw = some ⟨g, o, none⟩ → g ≠ W3.heap.size) := fun g o e => by have := (hgw g o e).1; omega
          have l36 : W3.heap.size < w6.heap.size := Nat.lt_of_lt_of_le l35 k6.size
          clear A6 vaw hgw o5 HA2 ow6
          go_wp2_with ((at_builtin; refine wpList_append_run rfl _ _ _ rfl _ _ _ w6 rfl rfl hap6 ?_; clear hap6))
          obtain ⟨g3, hg3⟩ : ∃ g3, Hid (W3.heap.size = g3) := ⟨_, rfl⟩
          rw [show W3.heap.size = g3 from hg3] at o6 HGW l36 r03 lw3 ⊢
          go_loopw [17] (fun iv W => ∃ (tt : Nat) (Lx : List Vl), tt ≤ 3 ∧ iv = .int .i64 (tt : Int) ∧ Lx.length = 3 ∧ W.ownsRow g3 28 3 (.slice (some ⟨g3, 0, none⟩) 3 3) 3 (fl vc3 Lx) ∧ Keeps (fun x => x = g3) w6 W) (fun iv _ => 3 - (intOf iv).toNat)
          case atStart => exact ⟨0, v0.com l0, by omega, rfl, cl3, o6, Keeps.refl _ w6⟩
          case round =>
            rename World => wI
            clear o6
            obtain ⟨tt, Lx, htt, rfl, hLx, oI, kI⟩ := hrel
            by_cases hlt3 : tt < 3
            · have hltI3 : (tt : Int) < 3 := by omega
              obtain ⟨bw, ow, rfl, x0', x1', x2'⟩ := HV6.out.at (i := tt) (by rw [cl3]; exact hlt3)
              have nbw : ¬ bw = g3 := HGW.out bw ow rfl
              have y0 := kI.cell (p := ⟨bw, ow + tt * 3, none⟩) x0' nbw
              generalize (v0.com l0).getD tt vl0 = xv at y0
              have tl : tt < Lx.length := by omega
              have c0 := owns_cell oI rfl (j := tt * 3) (u := .int .i64 (Lx.getD tt vl0).num) (by have := fl_get vc3_len Lx tt 0 (by omega); rw [getD_get (d := vl0) tl] at this; exact this)
              have zz := oI.frozenAt (tt * 3)
              have HOI : Hid (wI.ownsRow g3 28 3 (.slice (some ⟨g3, 0, none⟩) 3 3) 3 (fl vc3 Lx)) := oI
              clear x0' x1' x2' oI
              go_wp2_with fail
              go_roundw
              case rel => exact ⟨tt + 1, _, by omega, by go_num, by rw [List.length_set]; exact hLx, stv1 HOI.out tl _, kI.trans (keeps_set _ _ _ _)⟩
              case measure => simp [intOf]; omega
            · have hltI3 : ¬ (tt : Int) < 3 := by omega
              obtain ⟨i0, hi0, hz0, hz1, hz2⟩ := info_parts infoV'
              have lI : g3 < wI.heap.size := Nat.lt_of_lt_of_le l36 kI.size
              have HOI : Hid (wI.ownsRow g3 28 3 (.slice (some ⟨g3, 0, none⟩) 3 3) 3 (fl vc3 Lx)) := oI
              have AI := HA6.out.wr kI r03 lw3
              have h63 : 3 + 1 ≤ maxLen := by unfold maxLen; omega
              clear oI
              go_wp2_with ((at_builtin; refine wpList_append_lies _ rfl _ _ _ rfl g3 28 i0 _ 3 24 underV hi0 hz0 hz1 hz2 rfl (by decide) (.slice (some ⟨g3, 0, none⟩) 3 3) 3 (fl vc3 Lx) rfl (HOI.out.alloc _) ⟨wI.heap.size, 0, none⟩ 1 1 [.int .i64 (-8), .int .i64 0, .bool false] rfl rfl (World.news_of_block (cs := #[.int .i64 (-8), .int .i64 0, .bool false]) (t := 28) (fr := (0, 0)) (heap_alloc_new wI _)) (by simp [Value.oneCell']) (by omega) h63 (by omega) (by simp; omega) _ rfl ?_))
              intro gg cap1 w7 hown1 hgrow hat hlt1
              have K7 : Keeps (fun x => x = g3) wI w7 := ((Keeps.refl (fun x => x = g3) wI).alloc _).trans ((Keeps.refl (fun x => x = g3) _).grown hgrow (fun x _ e => by simp [Value.ownBlock] at e; exact e.symm))
              have A7 := AI.wr K7 r03 lw3
              have hcm7 := com_any A7.st A7.iv.wf
              rw [ob0] at hcm7
              have HA7 : Hid (A3 w w7 ρ0 rb wb mb rc wc mc sb wd s m k t l0 k0 v0) := A7
              have HV7 : Hid (VA w7 aw (v0.com l0)) := (HV6.out.keepB kI HGW.out).keepB K7 HGW.out
              clear hgrow hat hlt1 hown1 AI A7 HA6 HV6 kI K7
              go_wp2_with fail
              refine hcm7.mono ?_
              clear hcm7
              rintro e w8 ⟨rfl, o8, k8⟩
              obtain ⟨a8, c8, e8, va8, _⟩ := va_own o8 cl3
              injection e8 with e81 e82 e83
              subst e81 e83
              have hsm := same_eq va8 (HV7.out.new k8) (by omega) 3 cw
              rw [cl3] at hsm
              clear o8 e82 va8
              go_wp2_with fail
              refine hsm.mono ?_
              clear hsm
              rintro e wG ⟨rfl, kG⟩
              have HA : Hid (A3 w wG ρ0 rb wb mb rc wc mc sb wd s m k t l0 k0 v0) := HA7.out.new (k8.trans kG)
              clear HA7 HV7 k8 kG
              obtain ⟨c0, c1, c2, c3, c4, c5, c6, c7⟩ := (hcs i hlt).keep HA.out.kp (fun e => e)
              obtain ⟨qo, hqo⟩ : ∃ qo, Hid (oa l i = qo) := ⟨_, rfl⟩
              rw [show oa l i = qo from hqo] at c0 c1 c2 c3 c4 c5 c6 c7
              obtain ⟨wB, hwB⟩ : ∃ wB, wB = wG.alloc (.cells #[.int .i64 qo.kind, .int .i64 qo.a, .int .i64 qo.b, .int .i64 qo.c, .int .i64 qo.v.num, .int .i64 qo.v.next, .bool qo.v.dead, .bool false] 30) := ⟨_, rfl⟩
              have KB : Keeps (fun _ => False) wG wB := by rw [hwB]; exact (Keeps.refl _ _).alloc _
              have lB : wG.heap.size < wB.heap.size := by rw [hwB]; simp
              have rB : ρ0 (wG.heap.size) = 0 := HA.out.one.st.bnd _ (Nat.le_refl _)
              obtain ⟨BB, hBB⟩ : ∃ BB, BB = wG.heap.size := ⟨_, rfl⟩
              have AB := HA.out.new KB
              obtain ⟨qk, qa, qb, qc, qv, qs⟩ := qo
              simp only [] at c0 c1 c2 c3 c4 c5 c6 c7 hwB
              have bb0 : B8 wB ρ0 wG.heap.size ⟨qk, qa, qb, qc, qv, false⟩ := by
                refine ⟨rB, ?_, ?_, ?_, ?_, ?_, ?_, ?_, ?_⟩ <;> rw [hwB] <;> simp
              have hdo := does_any AB.one (by omega) ⟨qk, qa, qb, qc, qv, false⟩
              simp only [opv] at hdo
              have HAB : Hid (A3 w wB ρ0 rb wb mb rc wc mc sb wd s m k t l0 k0 v0) := AB
              clear AB
              go_wp2_with fail
              rw [← hwB]
              refine hdo.mono ?_
              clear hdo hwB c0 c1 c2 c3 c4 c5 c6 c7
              rintro e W4 ⟨er, d, nn, rfl, ρ4, s4, ma, m4, k4, hop, hd4, R4, x4⟩
              have bb4 := bb0.ext x4 (by rw [sq1]; omega)
              obtain ⟨wC, hwC⟩ : ∃ wC, wC = W4.alloc (.cells #[.int .i64 er, .bool d, .int .i64 nn] 32) := ⟨_, rfl⟩
              have KC : Keeps (fun _ => False) W4 wC := by rw [hwC]; exact (Keeps.refl _ W4).alloc _
              have rC : ρ4 W4.heap.size = 0 := R4.st.bnd _ (Nat.le_refl _)
              have lC : W4.heap.size < wC.heap.size := by rw [hwC]; simp
              have t0 : wC.cell? ⟨W4.heap.size, 0, none⟩ = some (.int .i64 er) := by rw [hwC]; simp
              have t1 : wC.cell? ⟨W4.heap.size, 1, none⟩ = some (.bool d) := by rw [hwC]; simp
              have t2 : wC.cell? ⟨W4.heap.size, 2, none⟩ = some (.int .i64 nn) := by rw [hwC]; simp
              have T4 := ((HAB.out.two.ext x4 R4.st.bnd (by rw [sq1]; omega) (fun r h1 h2 => by rw [sq1]; omega) (by rw [sq1]; omega)).new KC).1
              have hdo2 := does_any T4 (by omega) ⟨qk, qa, qb, qc, qv, false⟩
              simp only [opv] at hdo2
              have z0 : ∀ ob, (W4.alloc ob).cell? ⟨wG.heap.size, 0, none⟩ = some (.int .i64 qk) := fun ob => ((Keeps.refl (fun _ => False) W4).alloc ob).cell bb4.c0 (fun e => e)
              have z1 : ∀ ob, (W4.alloc ob).cell? ⟨wG.heap.size, 1, none⟩ = some (.int .i64 qa) := fun ob => ((Keeps.refl (fun _ => False) W4).alloc ob).cell bb4.c1 (fun e => e)
              have z2 : ∀ ob, (W4.alloc ob).cell? ⟨wG.heap.size, 2, none⟩ = some (.int .i64 qb) := fun ob => ((Keeps.refl (fun _ => False) W4).alloc ob).cell bb4.c2 (fun e => e)
              have z3 : ∀ ob, (W4.alloc ob).cell? ⟨wG.heap.size, 3, none⟩ = some (.int .i64 qc) := fun ob => ((Keeps.refl (fun _ => False) W4).alloc ob).cell bb4.c3 (fun e => e)
              have z4 : ∀ ob, (W4.alloc ob).cell? ⟨wG.heap.size, 4, none⟩ = some (.int .i64 qv.num) := fun ob => ((Keeps.refl (fun _ => False) W4).alloc ob).cell bb4.c4 (fun e => e)
              have z5 : ∀ ob, (W4.alloc ob).cell? ⟨wG.heap.size, 5, none⟩ = some (.int .i64 qv.next) := fun ob => ((Keeps.refl (fun _ => False) W4).alloc ob).cell bb4.c5 (fun e => e)
              have z6 : ∀ ob, (W4.alloc ob).cell? ⟨wG.heap.size, 6, none⟩ = some (.bool qv.dead) := fun ob => ((Keeps.refl (fun _ => False) W4).alloc ob).cell bb4.c6 (fun e => e)
              have z7 : ∀ ob, (W4.alloc ob).cell? ⟨wG.heap.size, 7, none⟩ = some (.bool false) := fun ob => ((Keeps.refl (fun _ => False) W4).alloc ob).cell bb4.c7 (fun e => e)
              have HD4 : Hid (Opn m k ⟨qk, qa, qb, qc, qv, false⟩ ma k4 ∧ Do s ma ⟨qk, qa, qb, qc, qv, false⟩ s4 m4 er d nn ∧ Rs W4 ρ4 1 2 7 rb wb mb s4 m4 k4 ∧ Ext (Sq 1 2 7) wB W4 ρ0 ρ4 ∧ Keeps (fun _ => False) W4 wC) := ⟨hop, hd4, R4, x4, KC⟩
              clear hop hd4 R4 x4 T4 bb0 bb4
              go_wp2_with fail
              rw [← hwC]
              refine hdo2.mono ?_
              clear hdo2 hwC z0 z1 z2 z3 z4 z5 z6 z7
              rintro e W6 ⟨er2, d2, nn2, rfl, ρ6, t6, la, l6, k6, hop2, hd6, R6, x6⟩
              obtain ⟨hop, hd4, R4, x4, _⟩ := HD4.out
              have L4 := hd4.len hop HAB.out.one.iv
              have L6 := hd6.len hop2 HAB.out.two.iv
              have hrm : s.roomA m = true := by simp [Ws.roomA]; omega
              have hrl : t.roomA l0 = true := by have := HAB.out.sim.na; simp [Ws.roomA]; omega
              obtain ⟨rfl, rfl, rfl, A6⟩ := HAB.out.both (o := ⟨qk, qa, qb, qc, qv, false⟩) rfl hop hd4 R4 x4 KC hop2 hd6 R6 x6 hrm hrl
              have n1_ : m4.cells.length ≤ 82 + 2 * (i + 1) := by omega
              have n2_ : s4.atts.length ≤ 1 + (i + 1) := by omega
              have n3_ : l6.cells.length ≤ 87 + 4 * (i + 1) := by omega
              have n4_ : k4 ≤ i + 1 := by omega
              have n5_ : k6 ≤ 2 * (i + 1) := by omega
              clear L4 L6 hrm hrl
              have nC : ¬ Sq 11 12 17 (ρ4 W4.heap.size) := by rw [rC, sq11]; omega
              have u0 := x6.cell (p := ⟨W4.heap.size, 0, none⟩) t0 nC
              have u1 := x6.cell (p := ⟨W4.heap.size, 1, none⟩) t1 nC
              have u2 := x6.cell (p := ⟨W4.heap.size, 2, none⟩) t2 nC
              obtain ⟨wD, hwD⟩ : ∃ wD, wD = W6.alloc (.cells #[.int .i64 er2, .bool d2, .int .i64 nn2] 32) := ⟨_, rfl⟩
              have KD : Keeps (fun _ => False) W6 wD := by rw [hwD]; exact (Keeps.refl _ W6).alloc _
              have y0 : ∀ ob, (W6.alloc ob).cell? ⟨W4.heap.size, 0, none⟩ = some (.int .i64 er2) := fun ob => ((Keeps.refl (fun _ => False) W6).alloc ob).cell u0 (fun e => e)
              have y1 : ∀ ob, (W6.alloc ob).cell? ⟨W4.heap.size, 1, none⟩ = some (.bool d2) := fun ob => ((Keeps.refl (fun _ => False) W6).alloc ob).cell u1 (fun e => e)
              have y2 : ∀ ob, (W6.alloc ob).cell? ⟨W4.heap.size, 2, none⟩ = some (.int .i64 nn2) := fun ob => ((Keeps.refl (fun _ => False) W6).alloc ob).cell u2 (fun e => e)
              have y3 : ∀ ob, (W6.alloc ob).cell? ⟨rb, 1, none⟩ = some (.pointer (some ⟨wb, 0, none⟩)) := fun ob => ((Keeps.refl (fun _ => False) W6).alloc ob).cell A6.one.c1 (fun e => e)
              have AD := A6.new KD
              have hc1 := com_any AD.one.st AD.one.iv.wf
              have ecom : Hid (t6.com l6 = s4.com m4) := AD.sim.com AD.one.iv
              have HAD : Hid (A3 w wD ρ6 rb wb mb rc wc mc sb wd s4 m4 k4 t6 l6 k6 v0) := AD
              have eob : Hid (t6.objs.length = s4.objs.length) := AD.sim.no
              have hno : s4.objs.length ≤ 80 := AD.one.iv.no
              clear AD A6 HAB HD4 hop hd4 R4 x4 hop2 hd6 R6 x6 t0 t1 t2 u0 u1 u2
              go_wp2_with fail
              rw [← hwD]
              refine hc1.mono ?_
              clear hc1 hwD y0 y1 y2 y3
              rintro e w9 ⟨rfl, o9, k9⟩
              have A9 := HAD.out.new k9
              have hc2 := com_any A9.two.st A9.two.iv.wf
              rw [ecom.out, eob.out] at hc2
              have y4 := A9.two.c1
              have HA9 : Hid (A3 w w9 ρ6 rb wb mb rc wc mc sb wd s4 m4 k4 t6 l6 k6 v0) := A9
              obtain ⟨an, cn, e9, va9, _⟩ := va_own o9 com_len
              injection e9 with e91 e92 e93
              subst e91 e93
              clear A9 o9 e92 HAD
              go_wp2_with fail
              refine hc2.mono ?_
              clear hc2 y4
              rintro e wE ⟨rfl, oE, kE⟩
              obtain ⟨am, cm, eE, vaE, _⟩ := va_own oE com_len
              injection eE with eE1 eE2 eE3
              subst eE1 eE3
              have hsm := same_eq (va9.new kE) vaE (by rw [com_len]; omega) s4.objs.length s4.objs.length
              rw [com_len] at hsm
              clear oE eE2 va9 vaE
              go_wp2_with (go_at_call 15; refine hsm.mono ?_; clear hsm; rintro e wF ⟨rfl, kF⟩)
              have AF := HA9.out.new (kE.trans kF)
              clear HA9
              go_roundw
              case rel => exact ⟨i + 1, ρ6, s4, m4, k4, t6, l6, k6, v0, by omega, by omega, by go_num, AF, n4_, n5_, n2_, n1_, n3_, ob0⟩
              case measure => simp [intOf]; omega
        · have hoI : ¬ (i : Int) < (l2.length : Int) := by omega
          have HA : Hid (A3 w wr ρ rb wb mb rc wc mc sb wd s m k t lm kk v) := A
          clear A
          obtain ⟨c0, c1, c2, c3, c4, c5, c6, c7⟩ := (hcs i hlt).keep HA.out.kp (fun e => e)
          obtain ⟨qo, hqo⟩ : ∃ qo, Hid (oa l i = qo) := ⟨_, rfl⟩
          rw [show oa l i = qo from hqo] at c0 c1 c2 c3 c4 c5 c6 c7
          obtain ⟨wB, hwB⟩ : ∃ wB, wB = wr.alloc (.cells #[.int .i64 qo.kind, .int .i64 qo.a, .int .i64 qo.b, .int .i64 qo.c, .int .i64 qo.v.num, .int .i64 qo.v.next, .bool qo.v.dead, .bool false] 30) := ⟨_, rfl⟩
          have KB : Keeps (fun _ => False) wr wB := by rw [hwB]; exact (Keeps.refl _ _).alloc _
          have lB : wr.heap.size < wB.heap.size := by rw [hwB]; simp
          have rB : ρ (wr.heap.size) = 0 := HA.out.one.st.bnd _ (Nat.le_refl _)
          obtain ⟨BB, hBB⟩ : ∃ BB, BB = wr.heap.size := ⟨_, rfl⟩
          have AB := HA.out.new KB
          obtain ⟨qk, qa, qb, qc, qv, qs⟩ := qo
          simp only [] at c0 c1 c2 c3 c4 c5 c6 c7 hwB
          have bb0 : B8 wB ρ wr.heap.size ⟨qk, qa, qb, qc, qv, false⟩ := by
            refine ⟨rB, ?_, ?_, ?_, ?_, ?_, ?_, ?_, ?_⟩ <;> rw [hwB] <;> simp
          have hdo := does_any AB.one (by omega) ⟨qk, qa, qb, qc, qv, false⟩
          simp only [opv] at hdo
          have HAB : Hid (A3 w wB ρ rb wb mb rc wc mc sb wd s m k t lm kk v) := AB
          clear AB
          go_wp2_with fail
          rw [← hwB]
          refine hdo.mono ?_
          clear hdo hwB c0 c1 c2 c3 c4 c5 c6 c7
          rintro e W4 ⟨er, d, nn, rfl, ρ4, s4, ma, m4, k4, hop, hd4, R4, x4⟩
          have bb4 := bb0.ext x4 (by rw [sq1]; omega)
          obtain ⟨wC, hwC⟩ : ∃ wC, wC = W4.alloc (.cells #[.int .i64 er, .bool d, .int .i64 nn] 32) := ⟨_, rfl⟩
          have KC : Keeps (fun _ => False) W4 wC := by rw [hwC]; exact (Keeps.refl _ W4).alloc _
          have rC : ρ4 W4.heap.size = 0 := R4.st.bnd _ (Nat.le_refl _)
          have lC : W4.heap.size < wC.heap.size := by rw [hwC]; simp
          have t0 : wC.cell? ⟨W4.heap.size, 0, none⟩ = some (.int .i64 er) := by rw [hwC]; simp
          have t1 : wC.cell? ⟨W4.heap.size, 1, none⟩ = some (.bool d) := by rw [hwC]; simp
          have t2 : wC.cell? ⟨W4.heap.size, 2, none⟩ = some (.int .i64 nn) := by rw [hwC]; simp
          have T4 := ((HAB.out.two.ext x4 R4.st.bnd (by rw [sq1]; omega) (fun r h1 h2 => by rw [sq1]; omega) (by rw [sq1]; omega)).new KC).1
          have hdo2 := does_any T4 (by omega) ⟨qk, qa, qb, qc, qv, false⟩
          simp only [opv] at hdo2
          have z0 : ∀ ob, (W4.alloc ob).cell? ⟨wr.heap.size, 0, none⟩ = some (.int .i64 qk) := fun ob => ((Keeps.refl (fun _ => False) W4).alloc ob).cell bb4.c0 (fun e => e)
          have z1 : ∀ ob, (W4.alloc ob).cell? ⟨wr.heap.size, 1, none⟩ = some (.int .i64 qa) := fun ob => ((Keeps.refl (fun _ => False) W4).alloc ob).cell bb4.c1 (fun e => e)
          have z2 : ∀ ob, (W4.alloc ob).cell? ⟨wr.heap.size, 2, none⟩ = some (.int .i64 qb) := fun ob => ((Keeps.refl (fun _ => False) W4).alloc ob).cell bb4.c2 (fun e => e)
          have z3 : ∀ ob, (W4.alloc ob).cell? ⟨wr.heap.size, 3, none⟩ = some (.int .i64 qc) := fun ob => ((Keeps.refl (fun _ => False) W4).alloc ob).cell bb4.c3 (fun e => e)
          have z4 : ∀ ob, (W4.alloc ob).cell? ⟨wr.heap.size, 4, none⟩ = some (.int .i64 qv.num) := fun ob => ((Keeps.refl (fun _ => False) W4).alloc ob).cell bb4.c4 (fun e => e)
          have z5 : ∀ ob, (W4.alloc ob).cell? ⟨wr.heap.size, 5, none⟩ = some (.int .i64 qv.next) := fun ob => ((Keeps.refl (fun _ => False) W4).alloc ob).cell bb4.c5 (fun e => e)
          have z6 : ∀ ob, (W4.alloc ob).cell? ⟨wr.heap.size, 6, none⟩ = some (.bool qv.dead) := fun ob => ((Keeps.refl (fun _ => False) W4).alloc ob).cell bb4.c6 (fun e => e)
          have z7 : ∀ ob, (W4.alloc ob).cell? ⟨wr.heap.size, 7, none⟩ = some (.bool false) := fun ob => ((Keeps.refl (fun _ => False) W4).alloc ob).cell bb4.c7 (fun e => e)
          have HD4 : Hid (Opn m k ⟨qk, qa, qb, qc, qv, false⟩ ma k4 ∧ Do s ma ⟨qk, qa, qb, qc, qv, false⟩ s4 m4 er d nn ∧ Rs W4 ρ4 1 2 7 rb wb mb s4 m4 k4 ∧ Ext (Sq 1 2 7) wB W4 ρ ρ4 ∧ Keeps (fun _ => False) W4 wC) := ⟨hop, hd4, R4, x4, KC⟩
          clear hop hd4 R4 x4 T4 bb0 bb4
          go_wp2_with fail
          rw [← hwC]
          refine hdo2.mono ?_
          clear hdo2 hwC z0 z1 z2 z3 z4 z5 z6 z7
          rintro e W6 ⟨er2, d2, nn2, rfl, ρ6, t6, la, l6, k6, hop2, hd6, R6, x6⟩
          obtain ⟨hop, hd4, R4, x4, _⟩ := HD4.out
          have L4 := hd4.len hop HAB.out.one.iv
          have L6 := hd6.len hop2 HAB.out.two.iv
          have hrm : s.roomA m = true := by simp [Ws.roomA]; omega
          have hrl : t.roomA lm = true := by have := HAB.out.sim.na; simp [Ws.roomA]; omega
          obtain ⟨rfl, rfl, rfl, A6⟩ := HAB.out.both (o := ⟨qk, qa, qb, qc, qv, false⟩) rfl hop hd4 R4 x4 KC hop2 hd6 R6 x6 hrm hrl
          have n1_ : m4.cells.length ≤ 82 + 2 * (i + 1) := by omega
          have n2_ : s4.atts.length ≤ 1 + (i + 1) := by omega
          have n3_ : l6.cells.length ≤ 87 + 4 * (i + 1) := by omega
          have n4_ : k4 ≤ i + 1 := by omega
          have n5_ : k6 ≤ 2 * (i + 1) := by omega
          clear L4 L6 hrm hrl
          have nC : ¬ Sq 11 12 17 (ρ4 W4.heap.size) := by rw [rC, sq11]; omega
          have u0 := x6.cell (p := ⟨W4.heap.size, 0, none⟩) t0 nC
          have u1 := x6.cell (p := ⟨W4.heap.size, 1, none⟩) t1 nC
          have u2 := x6.cell (p := ⟨W4.heap.size, 2, none⟩) t2 nC
          obtain ⟨wD, hwD⟩ : ∃ wD, wD = W6.alloc (.cells #[.int .i64 er2, .bool d2, .int .i64 nn2] 32) := ⟨_, rfl⟩
          have KD : Keeps (fun _ => False) W6 wD := by rw [hwD]; exact (Keeps.refl _ W6).alloc _
          have y0 : ∀ ob, (W6.alloc ob).cell? ⟨W4.heap.size, 0, none⟩ = some (.int .i64 er2) := fun ob => ((Keeps.refl (fun _ => False) W6).alloc ob).cell u0 (fun e => e)
          have y1 : ∀ ob, (W6.alloc ob).cell? ⟨W4.heap.size, 1, none⟩ = some (.bool d2) := fun ob => ((Keeps.refl (fun _ => False) W6).alloc ob).cell u1 (fun e => e)
          have y2 : ∀ ob, (W6.alloc ob).cell? ⟨W4.heap.size, 2, none⟩ = some (.int .i64 nn2) := fun ob => ((Keeps.refl (fun _ => False) W6).alloc ob).cell u2 (fun e => e)
          have y3 : ∀ ob, (W6.alloc ob).cell? ⟨rb, 1, none⟩ = some (.pointer (some ⟨wb, 0, none⟩)) := fun ob => ((Keeps.refl (fun _ => False) W6).alloc ob).cell A6.one.c1 (fun e => e)
          have AD := A6.new KD
          have hc1 := com_any AD.one.st AD.one.iv.wf
          have ecom : Hid (t6.com l6 = s4.com m4) := AD.sim.com AD.one.iv
          have HAD : Hid (A3 w wD ρ6 rb wb mb rc wc mc sb wd s4 m4 k4 t6 l6 k6 v) := AD
          have eob : Hid (t6.objs.length = s4.objs.length) := AD.sim.no
          have hno : s4.objs.length ≤ 80 := AD.one.iv.no
          clear AD A6 HAB HD4 hop hd4 R4 x4 hop2 hd6 R6 x6 t0 t1 t2 u0 u1 u2
          go_wp2_with fail
          rw [← hwD]
          refine hc1.mono ?_
          clear hc1 hwD y0 y1 y2 y3
          rintro e w9 ⟨rfl, o9, k9⟩
          have A9 := HAD.out.new k9
          have hc2 := com_any A9.two.st A9.two.iv.wf
          rw [ecom.out, eob.out] at hc2
          have y4 := A9.two.c1
          have HA9 : Hid (A3 w w9 ρ6 rb wb mb rc wc mc sb wd s4 m4 k4 t6 l6 k6 v) := A9
          obtain ⟨an, cn, e9, va9, _⟩ := va_own o9 com_len
          injection e9 with e91 e92 e93
          subst e91 e93
          clear A9 o9 e92 HAD
          go_wp2_with fail
          refine hc2.mono ?_
          clear hc2 y4
          rintro e wE ⟨rfl, oE, kE⟩
          obtain ⟨am, cm, eE, vaE, _⟩ := va_own oE com_len
          injection eE with eE1 eE2 eE3
          subst eE1 eE3
          have hsm := same_eq (va9.new kE) vaE (by rw [com_len]; omega) s4.objs.length s4.objs.length
          rw [com_len] at hsm
          clear oE eE2 va9 vaE
          go_wp2_with (go_at_call 15; refine hsm.mono ?_; clear hsm; rintro e wF ⟨rfl, kF⟩)
          have AF := HA9.out.new (kE.trans kF)
          clear HA9
          go_roundw
          case rel => exact ⟨i + 1, ρ6, s4, m4, k4, t6, l6, k6, v, by omega, by omega, by go_num, AF, n4_, n5_, n2_, n1_, n3_, hob⟩
          case measure => simp [intOf]; omega
      · have hltI : (i : Int) < (l.length : Int) := by omega
        have hltJ : ¬ (i : Int) < 12000 := by omega
        have KF := A.kp
        clear A
        go_wp2_with fail
        go_ret
        exact ⟨rfl, KF.below (Nat.le_refl _) (fun _ _ e => e)⟩
    · have hltI : ¬ (i : Int) < (l.length : Int) := by omega
      have KF := A.kp
      clear A
      go_wp2_with fail
      go_ret
      exact ⟨rfl, KF.below (Nat.le_refl _) (fun _ _ e => e)⟩
end Go.Proofs.Ytdldhblhbbgloaa
