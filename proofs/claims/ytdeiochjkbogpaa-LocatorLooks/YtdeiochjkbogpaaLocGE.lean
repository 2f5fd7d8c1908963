import Derived.Test.YtdeiochjkbogpaaLocGW
namespace Go.Proofs.Ytdeiochjkbogpaa
open Go.RowKit
/-- What ends leaves. -/
structure Ens (Wb : World) (fb rb wb mb k : Nat) (kd : Int) (c : Nat → Cl) (want : List Vl) (was : List (List Vl)) (mk : Int) (s : Ws) (m : Mm) (n : Nat) (e : Ending) (w' : World) : Prop where
  ex : e = .returned (.bool true) ∧ ∃ s1 m1 n1 d nn, StA s m n ⟨kd, ((c k).att : Int), 0, 0, ⟨0, 0, false⟩, false⟩ s1 m1 n1 0 d nn ∧ GX Wb (fun _ => False) fb rb wb mb (s1.beg (k : Int) (k : Int) (-1) m1.cells.length) ((m1.make 1).make 0) n1 (upd c k { c k with at_ := 0, att := s1.atts.length, held := [], put := [] }) (wantE kd d want (c k)) was mk w'
section
variable {Wb W W' : World} {fb rb wb mb n k : Nat} {s : Ws} {m : Mm} {c : Nat → Cl} {want : List Vl} {was : List (List Vl)} {mk : Int}
set_option maxHeartbeats 6400000 in
set_option maxRecDepth 1000000 in
/-- A client ends; a fresh attempt follows. -/
theorem ends_g (hG : GX Wb (fun _ => False) fb rb wb mb s m n c want was mk W) (hk : k < 4) (hn3 : n + 3 ≤ 2499999999999) {kd : Int} (hkd : kd = 11 ∨ kd = 12) (hl7 : (c k).held.length ≤ 1000000) (hlp : (c k).held.length = (c k).put.length) (hin : ∀ o, o ∈ (c k).held → o < want.length) (hw0 : 0 < want.length)
    (hA : ∀ {s' m' n' er d nn}, StA s m n ⟨kd, ((c k).att : Int), 0, 0, ⟨0, 0, false⟩, false⟩ s' m' n' er d nn → er = 0 ∧ s'.roomA m' = true) :
    Calls Try.prog 25 #[.pointer (some ⟨fb, 0, none⟩), .int .i64 (k : Int), .int .i64 kd] W fun e w' => Ens Wb fb rb wb mb k kd c want was mk s m n e w' := by
  have k1 : decide ((k : Int) < 4) = true := by simp; omega
  have k2 : decide (k < 4) = true := by simp [hk]
  have k3 : (0 : Int) ≤ (k : Int) := by omega
  have k4 : (k : Int) < 4 := by omega
  have hn : n ≤ 2499999999999 := by omega
  have T := hG.cc hk
  have t0 := T.c0
  have t1 := T.c1
  have t2 := T.c2
  have t3 := T.c3
  have t4 := T.c4
  have t5 := T.c5
  have t6 := T.c6
  obtain ⟨ah, ch, t7, _⟩ := T.c7
  obtain ⟨ap, cp, t8, _⟩ := T.c8
  clear T
  obtain ⟨x0, h0⟩ : ∃ x, Hid (x = ((c k).at_ : Int)) := ⟨_, rfl⟩
  obtain ⟨xa, ha⟩ : ∃ x, Hid (x = (c k).att) := ⟨_, rfl⟩
  obtain ⟨xo, ho⟩ : ∃ x, Hid (x = ((c k).obj : Int)) := ⟨_, rfl⟩
  obtain ⟨xl, hl⟩ : ∃ x, Hid (x = ((c k).loc : Int)) := ⟨_, rfl⟩
  obtain ⟨xw, hw⟩ : ∃ x, Hid (x = ((c k).own : Int)) := ⟨_, rfl⟩
  obtain ⟨xc, hc⟩ : ∃ x, Hid (x = ((c k).cur : Int)) := ⟨_, rfl⟩
  obtain ⟨xs, hs⟩ : ∃ x, Hid (x = ((c k).since : Int)) := ⟨_, rfl⟩
  obtain ⟨n7, e7⟩ : ∃ x, Hid (x = (c k).held.length) := ⟨_, rfl⟩
  obtain ⟨n8, e8⟩ : ∃ x, Hid (x = (c k).put.length) := ⟨_, rfl⟩
  rw [← h0.out] at t0
  rw [← ha.out] at t1 hA
  rw [← ho.out] at t2
  rw [← hl.out] at t3
  rw [← hw.out] at t4
  rw [← hc.out] at t5
  rw [← hs.out] at t6
  rw [← e7.out] at t7
  rw [← e8.out] at t8
  obtain ⟨W1, hW1⟩ : ∃ W1, W1 = W.alloc (.cells #[.int .i64 x0, .int .i64 (xa : Int), .int .i64 xo, .int .i64 xl, .int .i64 xw, .int .i64 xc, .int .i64 xs, .slice ah n7 ch, .slice ap n8 cp] 36) := ⟨_, rfl⟩
  have G1 := hG.lay (.cells #[.int .i64 x0, .int .i64 (xa : Int), .int .i64 xo, .int .i64 xl, .int .i64 xw, .int .i64 xc, .int .i64 xs, .slice ah n7 ch, .slice ap n8 cp] 36)
  rw [← hW1] at G1
  have B1 : W1.cell? ⟨W.heap.size, 1, none⟩ = some (.int .i64 (xa : Int)) := by rw [hW1]; simp
  have B7 : W1.cell? ⟨W.heap.size, 7, none⟩ = some (.slice ah n7 ch) := by rw [hW1]; simp
  have B8 : W1.cell? ⟨W.heap.size, 8, none⟩ = some (.slice ap n8 cp) := by rw [hW1]; simp
  have F7 : Hid (W1.cell? ⟨fb, 1 + k * 9 + 7, none⟩ = some (.slice ah n7 ch)) := by rw [hW1]; exact ((Keeps.refl (fun _ => False) W).alloc _).cell t7 id
  have F8 : Hid (W1.cell? ⟨fb, 1 + k * 9 + 8, none⟩ = some (.slice ap n8 cp)) := by rw [hW1]; exact ((Keeps.refl (fun _ => False) W).alloc _).cell t8 id
  clear hG
  go_enter Try.func25, Try.ntmps25
  go_wp2_with fail
  rw [← hW1]
  clear hW1 t0 t1 t2 t3 t4 t5 t6 t7 t8
  generalize W.heap.size = cb at *
  have HG1 : Hid (GX Wb (fun k => False ∨ k = cb) fb rb wb mb s m n c want was mk W1) := G1
  obtain ⟨y0, _, lF, nq, _, _, _, _⟩ := G1.cells
  have ncf : ¬ cb = fb := fun e => nq (.inr e.symm)
  have ncf' : ¬ fb = cb := fun e => nq (.inr e)
  have lC : cb < W1.heap.size := World.block_lt_of_cell? _ _ B1
  have n0 := World.new_ne W1 _ y0
  have n2 := World.new_ne W1 _ B1
  clear G1
  apply wp_cut (R := fun F e a w => DN Wb (fun k => False ∨ k = cb) fb rb wb mb (c) want was mk s m n ⟨kd, (xa : Int), 0, 0, ⟨0, 0, false⟩, false⟩ W1 F e a w)
  case h =>
    have hdoA2 := (HG1.out.new ((Keeps.refl _ W1).drew)).does hn ⟨kd, (xa : Int), 0, 0, ⟨0, 0, false⟩, false⟩
    have hdoB2 := ((HG1.out.lay (.cells #[.int .i64 0, .bool false, .int .i64 0] 67)).new ((Keeps.refl _ _).drew)).does hn ⟨kd, (xa : Int), 0, 0, ⟨0, 0, false⟩, false⟩
    simp only [opv] at hdoA2 hdoB2
    go_region_held3 (fun w' => w'.cell? ⟨fb, 0, none⟩ = some (.pointer (some ⟨rb, 0, none⟩)) ∧ w'.cell? ⟨cb, 1, none⟩ = some (.int .i64 (xa : Int))) (go_keep) (first | (go_at_call 21; (with_reducible refine hdoA2.mono ?_); rintro e W42 ⟨er2, d2, nn2, s42, m12, m42, n42, rfl, hop2, hd2, G42, K42⟩; have q0 := G42.cells.1; have p0 := K42.cell (p := ⟨cb, 1, none⟩) (v := .int .i64 (xa : Int)) (by simpa using B1) (.inr rfl); have lay := True.intro) | (go_at_call 21; (with_reducible refine hdoB2.mono ?_); rintro e W42 ⟨er2, d2, nn2, s42, m12, m42, n42, rfl, hop2, hd2, G42, K42⟩; have q0 := G42.cells.1; have p0 := K42.cell (p := ⟨cb, 1, none⟩) (v := .int .i64 (xa : Int)) (by go_simp) (.inl (.inr rfl)); have g0 := K42.cell (p := ⟨W1.heap.size, 0, none⟩) (v := .int .i64 0) (by simp) (.inr rfl); have g1 := K42.cell (p := ⟨W1.heap.size, 1, none⟩) (v := .bool false) (by simp) (.inr rfl); have g2 := K42.cell (p := ⟨W1.heap.size, 2, none⟩) (v := .int .i64 0) (by simp) (.inr rfl); have zz : ∀ o, W42.frozen? ⟨W1.heap.size, o, none⟩ = false := (fun o => (Keeps.frozen K42 (p := ⟨W1.heap.size, o, none⟩) (by simp) (fun e => e.2.1 (.inr rfl))).trans (by simp)); have z0 := zz 0; have z1 := zz 1; have z2 := zz 2))
    all_goals first
      | (obtain ⟨W82, hW8⟩ : ∃ W8, W8 = W42.alloc (.cells #[.int .i64 er2, .bool d2, .int .i64 nn2] 67) := ⟨_, rfl⟩
         rw [← hW8]
         obtain ⟨G82, A82⟩ := G42.ans er2 d2 nn2
         rw [← hW8] at G82 A82
         have K82 : KQ Wb fb (fun k => False ∨ k = cb) W1 W82 := by
           rw [hW8]
           exact (KQ.new ((Keeps.refl _ W1).drew)).trans (K42.trans (KQ.new ((Keeps.refl _ _).alloc _)))
         obtain ⟨ab2, hab⟩ : ∃ ab, ab = W42.heap.size := ⟨_, rfl⟩
         rw [← hab] at G82 A82 ⊢
         clear hab hW8 lay)
      | (obtain ⟨W82, hW8⟩ : ∃ W8, W8 = ((W42.setCell ⟨W1.heap.size, 0, none⟩ (.int .i64 er2)).setCell ⟨W1.heap.size, 1, none⟩ (.bool d2)).setCell ⟨W1.heap.size, 2, none⟩ (.int .i64 nn2) := ⟨_, rfl⟩
         rw [← hW8]
         have A82 : AB W82 W1.heap.size er2 d2 nn2 := by
           rw [hW8]
           refine ⟨?_, ?_, ?_⟩ <;> go_simp
         have KA : Keeps (fun i => i = W1.heap.size) W42 W82 := by
           rw [hW8]
           exact ((Keeps.setCell (S := fun i => i = W1.heap.size) (Keeps.refl _ W42) (p := ⟨W1.heap.size, 0, none⟩) (fun _ => rfl) _).setCell (p := ⟨W1.heap.size, 1, none⟩) (fun _ => rfl) _).setCell (p := ⟨W1.heap.size, 2, none⟩) (fun _ => rfl) _
         have G82 := G42.wr (.inr rfl) KA
         have K82 : KQ Wb fb (fun k => False ∨ k = cb) W1 W82 := by
           have a1 : KQ Wb fb (fun k => False ∨ k = cb) W1 (W1.alloc (.cells #[.int .i64 0, .bool false, .int .i64 0] 67)).drew := KQ.new (((Keeps.refl _ W1).alloc _).drew)
           have a2 : KQ Wb fb (fun k => False ∨ k = cb) (W1.alloc (.cells #[.int .i64 0, .bool false, .int .i64 0] 67)).drew W42 := KQ.weak K42 (fun _ e => .inl e)
           exact (a1.trans a2).own KA (fun h => by omega)
         obtain ⟨ab2, hab⟩ : ∃ ab, ab = W1.heap.size := ⟨_, rfl⟩
         rw [← hab] at G82 A82 ⊢
         clear hab hW8 KA)
    all_goals exact ⟨rfl, ab2, er2, d2, nn2, s42, m12, m42, n42, rfl, G82, A82, K82, hop2, hd2⟩
  case hq =>
    rintro _ _ W82 ⟨rfl, ab2, er2, d2, nn2, s42, m12, m42, n42, rfl, G82, A82, K82, hop2, hd2⟩
    obtain ⟨rfl, hroom⟩ := hA ⟨_, hop2, hd2⟩
    have HA2 : Hid (StA s m n ⟨kd, (xa : Int), 0, 0, ⟨0, 0, false⟩, false⟩ s42 m42 n42 0 d2 nn2) := ⟨_, hop2, hd2⟩
    have hn5 : n42 ≤ 2499999999999 := by have := opn_le hop2; omega
    obtain ⟨v0, v1, v2⟩ := A82
    have L7 := K82.cell B7 (.inr rfl)
    have L8 := K82.cell B8 (.inr rfl)
    have HG5 : Hid (GX Wb (fun k => (False ∨ k = cb) ∨ k = ab2) fb rb wb mb s42 m42 n42 c want was mk W82) := G82
    have HK82 : Hid (KQ Wb fb (fun k => False ∨ k = cb) W1 W82) := K82
    clear hop2 hd2 G82 K82 B1 B7 B8 y0 hA
    (try simp only [Exit.then])
    rcases hkd with rfl | rfl
    · have hatt := HG5.out.fatt hk hn5 hroom
      go_wp2_with ((go_at_call 7; (with_reducible refine hatt.mono ?_); rintro e W9 ⟨rfl, G9⟩; clear hatt))
      go_ret
      refine ⟨rfl, s42, m42, n42, d2, nn2, by rw [← ha.out]; exact HA2.out, ?_⟩
      have HW := (show Hid _ from G9.weak (Q' := fun _ => False) (fun _ e => e.elim))
      exact (by rw [show wantE 11 d2 want (c k) = want from if_neg (fun e => absurd e.1 (by decide))]; exact HW.out)
    · cases d2 with
      | false =>
        have hatt := HG5.out.fatt hk hn5 hroom
        go_wp2_with ((go_at_call 7; (with_reducible refine hatt.mono ?_); rintro e W9 ⟨rfl, G9⟩; clear hatt))
        go_ret
        refine ⟨rfl, s42, m42, n42, false, nn2, by rw [← ha.out]; exact HA2.out, ?_⟩
        have HW := (show Hid _ from G9.weak (Q' := fun _ => False) (fun _ e => e.elim))
        exact (by rw [show wantE 12 false want (c k) = want from if_neg (fun e => absurd e.2 (by decide))]; exact HW.out)
      | true =>
        obtain ⟨gw, cw, X37, OW, nwf, nwq, _, nwb⟩ := HG5.out.own37 hw0
        have lW : gw < W82.heap.size := owns_lt' OW gw rfl
        clear OW
        have ncw : ¬ cb = gw := fun e => nwq (by rw [← e]; exact .inl (.inr rfl))
        have ncw' : ¬ gw = cb := fun e => ncw e.symm
        have nfw : ¬ fb = gw := fun e => nwf e.symm
        have Y7 := HK82.out.fcell F7.out
        have Y8 := HK82.out.fcell F8.out
        obtain ⟨a7', c7', Z7, E7⟩ := (HG5.out.cc hk).c7
        obtain ⟨a8', c8', Z8, E8⟩ := (HG5.out.cc hk).c8
        have ea7 : a7' = ah := by have := Option.some.inj (Z7.symm.trans Y7); injection this
        have ea8 : a8' = ap := by have := Option.some.inj (Z8.symm.trans Y8); injection this
        rw [ea7, ← e7.out] at E7
        rw [ea8, ← e8.out] at E8
        have h78 : n7 = n8 := by rw [e7.out, e8.out]; exact hlp
        have hl7' : n7 ≤ 1000000 := by rw [e7.out]; exact hl7
        have N7 := nwb k _ hk (.inl Y7)
        have N8 := nwb k _ hk (.inr Y8)
        have HE7 := (show Hid _ from E7)
        have HE8 := (show Hid _ from E8)
        have HX37 := (show Hid _ from X37)
        have HW5 : Hid (W82 = W82) := rfl
        obtain ⟨Lw, hLw⟩ : ∃ x, Hid (x = want.length) := ⟨_, rfl⟩
        rw [← hLw.out] at X37
        clear Z7 Z8 Y7 Y8 ea7 ea8 E7 E8 nwb HX37 HW5
        go_wp2_with fail
        go_loopw [9] (fun iv wr => ∃ i : Nat, i ≤ n7 ∧ iv = .int .i64 (i : Int) ∧ Hid (GX Wb (fun k => (False ∨ k = cb) ∨ k = ab2) fb rb wb mb s42 m42 n42 c (putAll want (c k).held (c k).put i) was mk wr) ∧ Keeps (fun x => x = gw) W82 wr) (fun iv _ => n7 - (intOf iv).toNat)
        case atStart => exact ⟨0, Nat.zero_le _, rfl, HG5.out, Keeps.refl _ _⟩
        case round =>
          rename World => wI
          obtain ⟨i, hi, rfl, GI, KI⟩ := hrel
          have l7 := KI.cell L7 ncw
          have l8 := KI.cell L8 ncw
          by_cases hlt : i < n7
          · have hltI : (i : Int) < (n7 : Int) := by omega
            have hltI8 : (i : Int) < (n8 : Int) := by omega
            obtain ⟨g7, eg7, n7f, v7⟩ := HE7.out i hlt
            obtain ⟨g8, eg8, n8f, v8⟩ := HE8.out i (by omega)
            subst eg7
            subst eg8
            have n7w : ¬ g7 = gw := fun e => N7 (by rw [← e]; rfl)
            have n8w : ¬ g8 = gw := fun e => N8 (by rw [← e]; rfl)
            have n7w' : ¬ gw = g7 := fun e => n7w e.symm
            have n8w' : ¬ gw = g8 := fun e => n8w e.symm
            have w7 := KI.cell v7 n7w
            have w8 := KI.cell v8 n8w
            have w37 := KI.cell X37 nfw
            obtain ⟨oo, hoo⟩ : ∃ x, Hid (x = (c k).held.getD i 0) := ⟨_, rfl⟩
            obtain ⟨pp, hpp⟩ : ∃ x, Hid (x = (c k).put.getD i 0) := ⟨_, rfl⟩
            rw [← hoo.out] at w7
            rw [← hpp.out] at w8
            have hol : oo < want.length := hin oo (by rw [hoo.out]; exact List.mem_of_getElem? (getD_get (by rw [← e7.out]; exact hlt)))
            have hoL : (oo : Int) < (Lw : Int) := by rw [hLw.out]; omega
            have hoN : oo < Lw := by omega
            have ho0 : (0 : Int) ≤ (oo : Int) := by omega
            obtain ⟨hLp, ⟨vv0, x0, x1, x2⟩, zz⟩ := GI.out.cell37 w37 (j := oo) (by rw [putAll_len]; exact hol)
            have z0 := zz (oo * 3)
            have z1 := zz (oo * 3 + 1)
            have z2 := zz (oo * 3 + 2)
            have HWI := (show Hid _ from w37)
            have HLp := (show Hid _ from hLp)
            clear hLp
            clear v7 v8 zz hlp hin
            go_wp2_with fail
            go_region_held3 (fun w' => w'.cell? ⟨fb, 37, none⟩ = some (.slice (some ⟨gw, 0, none⟩) Lw cw) ∧ w'.cell? ⟨cb, 7, none⟩ = some (.slice (some ⟨g7, 0, none⟩) n7 ch) ∧ w'.cell? ⟨g7, i, none⟩ = some (.int .i64 (oo : Int)) ∧ w'.cell? ⟨cb, 8, none⟩ = some (.slice (some ⟨g8, 0, none⟩) n8 cp) ∧ w'.cell? ⟨g8, i, none⟩ = some (.int .i64 pp)) (go_keep) (fail)
            go_wp2_with fail
            go_roundw
            case rel =>
              obtain ⟨G2, K2⟩ := GI.out.sev37 (by rw [← HLp.out]; exact HWI.out) (j := oo) (by rw [putAll_len]; exact hol) ⟨pp, 0, false⟩
              have e : putAll want (c k).held (c k).put (i + 1) = (putAll want (c k).held (c k).put i).set oo ⟨pp, 0, false⟩ := by rw [hoo.out, hpp.out]; rfl
              refine ⟨i + 1, by omega, by go_num, ?_, KI.trans (K2.drew)⟩
              rw [e]
              exact G2.new ((Keeps.refl _ _).drew)
            case measure => simp [intOf]; omega
          · have hltI : ¬ (i : Int) < (n7 : Int) := by omega
            obtain rfl : i = n7 := by omega
            have hatt := GI.out.fatt hk hn5 hroom
            clear GI
            go_wp2_with ((go_at_call 7; (with_reducible refine hatt.mono ?_); rintro e W9 ⟨rfl, G9⟩; clear hatt))
            go_ret
            refine ⟨rfl, s42, m42, n42, true, nn2, by rw [← ha.out]; exact HA2.out, ?_⟩
            have HW := (show Hid _ from G9.weak (Q' := fun _ => False) (fun _ e => e.elim))
            exact (by have e : wantE 12 true want (c k) = putAll want (c k).held (c k).put i := (by rw [e7.out]; exact if_pos ⟨rfl, rfl⟩); rw [e]; exact HW.out)
end
end Go.Proofs.Ytdeiochjkbogpaa
