import Derived.Test.YtdeiochjkbogpaaLocGN
import Derived.Test.YtdeiochjkbogpaaLocGO
namespace Go.Proofs.Ytdeiochjkbogpaa
open Go.RowKit
theorem sq0 : ¬ Sq 1 2 7 0 := fun e => e.elim (fun e => e.elim (fun e => by cases e) (fun e => by omega)) (fun e => by cases e)
set_option maxHeartbeats 6400000 in
set_option maxRecDepth 1000000 in
theorem looks_walk (hsteps : Hid StepsOk) {w : World} (n : Int) (_ : I64 n) {a : Option Addr} {l : List Lk} (hl : LL w a l) (_ : ∀ q ∈ l, q.ok) (hln : l.length ≤ 9223372036854775807) (cap : Nat) :
    Calls Try.prog 3 #[.int .i64 n, .slice a l.length cap] w fun e w' => e = .returned (.bool true) ∧ Below w.heap.size w w' := by
  have hh := head_any w
  go_enter Try.func3, Try.ntmps3
  go_wp2_with (go_at_call 4; refine hh.mono ?_; clear hh; rintro e w1 ⟨rfl, k1⟩)
  refine (fresh_any (w := w1) (ρ := fun _ => 0) (u := 1) (j := 2) (q := 7) (fun _ _ => rfl) (by decide) (by decide) (by decide) (by decide) (fun e => e.elim (fun e => by cases e) (fun e => by omega)) n).mono ?_
  rintro e w2 ⟨N, rb, wb, mb, ρ2, hc, rfl, R2, x2⟩
  have hrq := reqn rb
  have k2 : Keeps (fun _ => False) w w2 := k1.trans' x2.keeps (fun _ _ e => e) (fun i hi e => sq0 e)
  have lo2 : ∀ i, i < w.heap.size → ρ2 i = 0 := fun i hi => x2.old i (Nat.lt_of_lt_of_le hi k1.size)
  have c1 := R2.c1
  have hFb := fb_start R2.iv
  have hcm := com_any R2.st R2.iv.wf
  obtain ⟨s0, hs0⟩ : ∃ x, x = nw (fv N) 0 N := ⟨_, rfl⟩
  obtain ⟨m0, hm0⟩ : ∃ x, x = nm Mm.new N := ⟨_, rfl⟩
  have ho0 : s0.objs.length = N := by rw [hs0]; simp [nw]
  have hl0 : s0.locs.length = N := by rw [hs0]; simp [nw]
  have hc0 : m0.cells.length ≤ 100 := by rw [hm0]; simp [nm, Mm.new]; omega
  rw [← hs0, ← hm0] at hFb hcm R2
  rw [ho0] at hcm
  have HR2 := (show Hid _ from R2)
  have HFb := (show Hid _ from hFb)
  clear R2 x2 hFb hs0 hm0
  go_wp2_with fail
  refine hcm.mono ?_
  clear hcm
  rintro e w3 ⟨rfl, ow3, k3⟩
  obtain ⟨w4, hw4⟩ : ∃ x, x = w3.alloc (.cells #[.pointer (some ⟨rb, 0, none⟩), .int .i64 0, .int .i64 0, .int .i64 0, .int .i64 0, .int .i64 0, .int .i64 0, .int .i64 0, .slice none 0 0, .slice none 0 0, .int .i64 0, .int .i64 0, .int .i64 0, .int .i64 0, .int .i64 0, .int .i64 0, .int .i64 0, .slice none 0 0, .slice none 0 0, .int .i64 0, .int .i64 0, .int .i64 0, .int .i64 0, .int .i64 0, .int .i64 0, .int .i64 0, .slice none 0 0, .slice none 0 0, .int .i64 0, .int .i64 0, .int .i64 0, .int .i64 0, .int .i64 0, .int .i64 0, .int .i64 0, .slice none 0 0, .slice none 0 0, .slice (some ⟨w2.heap.size, 0, none⟩) N N, .slice none 0 0, .int .i64 0, .bool false] 40) := ⟨_, rfl⟩
  have G4 : GX w (fun _ => False) w3.heap.size rb wb mb s0 m0 0 (fun _ => cl0) (s0.com m0) [] 0 w4 := by
    have hco : (s0.com m0).length = N := by rw [com_len]; exact ho0
    refine GX.init HR2.out k2 lo2 (wv := .slice (some ⟨w2.heap.size, 0, none⟩) N N) k3 (by rw [hco]; exact ow3) (by rw [hw4]; exact (Keeps.refl _ w3).alloc _) (by rw [hw4]; simp) (fun o ho => ?_) (fun o => ?_)
    · have hb := World.news_of_block (heap_alloc_new w3 (.cells #[.pointer (some ⟨rb, 0, none⟩), .int .i64 0, .int .i64 0, .int .i64 0, .int .i64 0, .int .i64 0, .int .i64 0, .int .i64 0, .slice none 0 0, .slice none 0 0, .int .i64 0, .int .i64 0, .int .i64 0, .int .i64 0, .int .i64 0, .int .i64 0, .int .i64 0, .slice none 0 0, .slice none 0 0, .int .i64 0, .int .i64 0, .int .i64 0, .int .i64 0, .int .i64 0, .int .i64 0, .int .i64 0, .slice none 0 0, .slice none 0 0, .int .i64 0, .int .i64 0, .int .i64 0, .int .i64 0, .int .i64 0, .int .i64 0, .int .i64 0, .slice none 0 0, .slice none 0 0, .slice (some ⟨w2.heap.size, 0, none⟩) N N, .slice none 0 0, .int .i64 0, .bool false] 40))
      have hr : (#[.pointer (some ⟨rb, 0, none⟩), .int .i64 0, .int .i64 0, .int .i64 0, .int .i64 0, .int .i64 0, .int .i64 0, .int .i64 0, .slice none 0 0, .slice none 0 0, .int .i64 0, .int .i64 0, .int .i64 0, .int .i64 0, .int .i64 0, .int .i64 0, .int .i64 0, .slice none 0 0, .slice none 0 0, .int .i64 0, .int .i64 0, .int .i64 0, .int .i64 0, .int .i64 0, .int .i64 0, .int .i64 0, .slice none 0 0, .slice none 0 0, .int .i64 0, .int .i64 0, .int .i64 0, .int .i64 0, .int .i64 0, .int .i64 0, .int .i64 0, .slice none 0 0, .slice none 0 0, .slice (some ⟨w2.heap.size, 0, none⟩) N N, .slice none 0 0, .int .i64 0, .bool false] : Array Value).toList = (List.range 41).map (fnil rb (.slice (some ⟨w2.heap.size, 0, none⟩) N N)) := rfl
      have hg := hb o (fnil rb (.slice (some ⟨w2.heap.size, 0, none⟩) N N) o) (by rw [hr]; simp [ho])
      rw [hw4]
      rw [add_none, Nat.zero_add] at hg
      exact hg
    · rw [hw4]; simp
  have hw0a : 0 < (s0.com m0).length := by rw [com_len]; omega
  have hlea : (s0.com m0).length ≤ 1000 := by rw [com_len]; omega
  have HK4 := (show Hid _ from G4.base)
  obtain ⟨fb, hfb⟩ : ∃ x, x = w3.heap.size := ⟨_, rfl⟩
  rw [← hfb] at G4
  obtain ⟨wanta, hwa⟩ : ∃ x, Hid (x = s0.com m0) := ⟨_, rfl⟩
  rw [← hwa.out] at G4 hw0a hlea
  obtain ⟨wasa, hwsa⟩ : ∃ x : List (List Vl), Hid (x = []) := ⟨_, rfl⟩
  rw [← hwsa.out] at G4
  have hwza : wasa.length ≤ 1000000 := by rw [hwsa.out]; simp
  clear ow3 k3
  go_wp2_with fail
  rw [← hw4, ← hfb]
  clear hw4 hfb c1
  obtain ⟨asa, csa, wsla, S38, O38, Q38⟩ := G4.own38
  obtain ⟨gwa, cwa, S37, O37, nwf, _, _, _⟩ := G4.own37 hw0a
  obtain ⟨_, zf, lFa, _, _, _, _, _⟩ := G4.cells
  have z38 := zf 38
  obtain ⟨L0, hL0⟩ : ∃ x, Hid (x = wasa.length) := ⟨_, rfl⟩
  obtain ⟨N0, hN0⟩ : ∃ x, Hid (x = wanta.length) := ⟨_, rfl⟩
  obtain ⟨ua, W5a, hap, ou, k5⟩ := cpv_run (W0 := w4) (((Keeps.refl (fun _ => False) w4).alloc (.cells #[] 52)).drew) (g0 := w4.heap.size) (heap_alloc_new w4 _) (Nat.le_refl _) O37 hlea
  obtain ⟨aua, cua, rfl, vau, hgu⟩ := va_own ou rfl
  have HO38 := (show Hid (w4.ownsRow 0 27 1 (.slice asa wasa.length csa) wasa.length wsla) from O38)
  have HS38 := (show Hid _ from S38)
  have Hou := (show Hid (W5a.ownsRow w4.heap.size 52 3 (.slice aua wanta.length cua) wanta.length (fl vc3 wanta)) from ou)
  have HGa := (show Hid _ from G4)
  rw [← hL0.out] at S38 O38 Q38
  rw [← hN0.out] at S37 hap
  have nw38 : ¬ some fb = (Value.slice asa L0 csa).ownBlock := fun e => (Q38 fb e.symm).1 rfl
  have O38b := k5.owns O38 (fun _ _ e => e)
  have HO5 := (show Hid (W5a.ownsRow 0 27 1 (.slice asa L0 csa) L0 wsla) from O38b)
  have q38a : ∀ ob, (w4.alloc ob).cell? ⟨fb, 38, none⟩ = some (.slice asa L0 csa) := fun ob => ((Keeps.refl (fun _ => False) w4).alloc ob).cell S38 id
  have q37a : ∀ ob, (w4.alloc ob).cell? ⟨fb, 37, none⟩ = some (.slice (some ⟨gwa, 0, none⟩) N0 cwa) := fun ob => ((Keeps.refl (fun _ => False) w4).alloc ob).cell S37 id
  have q38b : W5a.cell? ⟨fb, 38, none⟩ = some (.slice asa L0 csa) := k5.cell S38 id
  have q38c : ∀ ob, (W5a.alloc ob).cell? ⟨fb, 38, none⟩ = some (.slice asa L0 csa) := fun ob => ((Keeps.refl (fun _ => False) W5a).alloc ob).cell q38b id
  have z38b : W5a.frozen? ⟨fb, 38, none⟩ = false := (k5.frozen (p := ⟨fb, 38, none⟩) lFa id).trans z38
  have lF5 : fb < W5a.heap.size := Nat.lt_of_lt_of_le lFa k5.size
  have z38c : ∀ ob, (W5a.alloc ob).frozen? ⟨fb, 38, none⟩ = false := fun ob => (((Keeps.refl (fun _ => False) W5a).alloc ob).frozen (p := ⟨fb, 38, none⟩) lF5 id).trans z38b
  have nF5 : ¬ fb = W5a.heap.size := by omega
  have nFW : ¬ fb = w4.heap.size := by omega
  obtain ⟨i0, hi0, hz0, hz1, hz2⟩ := info_parts infoS
  have h63 : L0 + 1 ≤ maxLen := by unfold maxLen; have := hL0.out; omega
  have hby : (L0 + 1) * 24 ≤ 140737488355328 := by have := hL0.out; omega
  have Hk5 := (show Hid _ from k5)
  clear O38 O38b ou vau hgu zf Q38 k5 O37
  apply wp_cut5 (S := fun w' => GX w (fun _ => False) fb rb wb mb s0 m0 0 (fun _ => cl0) wanta (wasa ++ [wanta]) 0 w') (G := fun a gg cap => ((((((((((((((a.put (some 25) (.pointer (some ⟨fb, 0, none⟩))).put (some 26) (.pointer (some ⟨fb, 0, none⟩))).put (some 27) (.pointer (some ⟨fb, 0, none⟩))).put (some 28) (.pointer (some ⟨fb, 38, none⟩))).put (some 29) (.slice asa L0 csa)).put (some 30) (.slice (some ⟨w4.heap.size, 0, none⟩) 0 0)).put (some 31) (.pointer (some ⟨fb, 0, none⟩))).put (some 32) (.pointer (some ⟨fb, 0, none⟩))).put (some 33) (.pointer (some ⟨fb, 37, none⟩))).put (some 34) (.slice (some ⟨gwa, 0, none⟩) N0 cwa)).put (some 35) (.slice aua N0 cua)).put (some 36) (.slice (some ⟨W5a.heap.size, 0, none⟩) 1 1)).put (some 37) (.slice (some ⟨gg, 0, none⟩) (L0 + 1) cap)).put (some 38) (.pointer (some ⟨fb, 0, none⟩))).put (some 39) (.pointer (some ⟨fb, 38, none⟩)))
  case h =>
    intro F7 Q7 hF7 hQ7
    go_region_law (first | (refine step_append_run (by rfl) _ _ _ (by rfl) (.slice (some ⟨w4.heap.size, 0, none⟩) 0 0) (.slice (some ⟨gwa, 0, none⟩) N0 cwa) (.slice aua N0 cua) W5a (by rfl) (by rfl) hap ?_) | (refine step_append_lies _ (by rfl) _ _ _ (by rfl) 0 27 i0 _ 1 24 underS hi0 hz0 hz1 hz2 rfl (by omega) (.slice asa L0 csa) L0 wsla (by rfl) (HO5.out.alloc _) ⟨W5a.heap.size, 0, none⟩ 1 1 [.slice aua N0 cua] (by rfl) (by rfl) (World.news_of_block (cs := #[.slice aua N0 cua]) (t := 27) (fr := (0, 0)) (heap_alloc_new W5a _)) (by simp [Value.oneCell']) (by omega) h63 hby (Nat.zero_le _) (W5a.heap.size + 1) (by simp) ?_; intro gg cap1 w4 hown1 hgrow hat hlt1; have r1 := (hgrow.cell_far ⟨fb, 38, none⟩ (by simp; omega) nw38).trans (q38c _); have r2 := (hgrow.frozen_far ⟨fb, 38, none⟩ (by simp; omega) nw38).trans (z38c _)))
    all_goals
      have G6 := HGa.out.app38 (Hk5.out.alloc _) HS38.out HO38.out (by rw [← hL0.out]; exact hgrow) (u := .slice aua N0 cua) (by rw [hN0.out]; exact Hou.out.alloc _) (by rw [← hL0.out]; exact hown1) (by rw [← hL0.out]; exact (hat.imp id (fun e => by rw [e]; simp)))
      rw [← hL0.out] at G6
      have G7 := hQ7.out gg cap1 _ G6
      rw [hF7.out] at G7
      change Q7 _ _
      refine cast ?_ G7
      go_simp
  case hq =>
    intro gga capa Wa Ga
    have hA0 : Ap4 w fb rb wb mb N 0 wanta Wa := by
      refine ⟨s0, m0, fun _ => cl0, ?_, HFb.out, fun _ _ => ⟨rfl, rfl, rfl⟩, fun k hk => by omega, hwa.out, ho0, by omega, by omega⟩
      have := Ga
      rw [hwsa.out] at this
      exact this
    clear Ga HGa HFb HR2 hap HO38 HS38 Hou S38 S37 q38a q37a q38b q38c z38b z38c HO5 Hk5 G4
    (try simp only [Exit.then])
    go_wp2_with fail
    go_loopw [7] (fun iv W => ∃ j : Nat, j ≤ 4 ∧ iv = .int .i64 (j : Int) ∧ Ap4 w fb rb wb mb N j wanta W) (fun iv _ => 4 - (intOf iv).toNat)
    case atStart => exact ⟨0, Nat.zero_le _, rfl, hA0⟩
    case round =>
      rename World => wI
      clear hA0
      obtain ⟨j, hj, rfl, hAj⟩ := hrel
      by_cases hj4 : j < 4
      · have hj4I : (j : Int) < 4 := by omega
        obtain ⟨s, m, c, G, F, h1, h2, hw, hN, hll, hcl⟩ := hAj
        have hatt := G.fatt hj4 (by omega) (by have := F.al; simp [Ws.roomA]; omega)
        have HH := (show Hid _ from (⟨F, h1, h2, hw, hN, hll, hcl⟩ : Fb s m j ∧ (∀ k, k < 4 → (c k).at_ = 0 ∧ (c k).held = [] ∧ (c k).put = []) ∧ (∀ k, k < j → (c k).att = k + 1) ∧ wanta = s.com m ∧ s.objs.length = N ∧ s.locs.length ≤ 80 ∧ m.cells.length ≤ 100 + 2 * j))
        clear G F h1 h2 hw hN hll hcl
        go_wp2_with ((go_at_call 7; (with_reducible refine hatt.mono ?_); rintro e W9 ⟨rfl, G9⟩; clear hatt))
        go_roundw
        case rel =>
          obtain ⟨F, h1, h2, hw, hN, hll, hcl⟩ := HH.out
          exact ⟨j + 1, by omega, by go_num, Ap4.more hj4 F h1 h2 hw hN hll hcl G9⟩
        case measure => simp [intOf]; omega
      · have hj4I : ¬ (j : Int) < 4 := by omega
        obtain rfl : j = 4 := by omega
        have hL := hAj.start
        clear hAj
        go_wp2_with fail
        go_loopw [8] (fun iv W => ∃ i t : Nat, i ≤ l.length ∧ i ≤ 12000 ∧ t ≤ i ∧ iv = .int .i64 (i : Int) ∧ Lp w fb rb wb mb N t W) (fun iv _ => l.length - (intOf iv).toNat)
        case atStart => exact ⟨0, 0, Nat.zero_le _, Nat.zero_le _, Nat.zero_le _, rfl, hL⟩
        case round =>
          rename World => wJ
          clear hL
          obtain ⟨i, t, hi, hi2, hti, rfl, hLp⟩ := hrel
          obtain ⟨s, m, n', c, want, was, mk, G, F, hw, hB, hN, hwas, hwl, h4⟩ := hLp
          obtain ⟨y0, _, lF, _, _, y1, _, y40⟩ := G.cells
          have hKJ := G.base
          by_cases hlt : i < l.length ∧ i < 12000
          · obtain ⟨hlt, hlt2⟩ := hlt
            have hltI : (i : Int) < (l.length : Int) := by omega
            have hltI2 : (i : Int) < 12000 := by omega
            obtain ⟨b, off, rfl, hb, hcs⟩ := hl.some (by omega)
            obtain ⟨d0, d1, d2⟩ := hcs i hlt
            replace d0 := hKJ.cell d0 id
            replace d1 := hKJ.cell d1 id
            replace d2 := hKJ.cell d2 id
            obtain ⟨q, hq⟩ : ∃ q, Hid (q = la l i) := ⟨_, rfl⟩
            rw [← hq.out] at d0 d1 d2
            obtain ⟨qc, qa, qo⟩ := q
            simp only [] at d0 d1 d2
            have HG := (show Hid (GX w (fun _ => False) fb rb wb mb s m n' c want was mk wJ) from G)
            by_cases hk : qc < 0 ∨ 3 < qc
            · have hk0 : (decide (qc < 0) = true) ∨ (decide (qc < 0) = false ∧ decide (3 < qc) = true) := by
                rcases hk with e | e
                · exact .inl (by simp; omega)
                · exact .inr ⟨by simp; omega, by simp; omega⟩
              have HL : Hid (Lp w fb rb wb mb N t wJ) := ⟨s, m, n', c, want, was, mk, G, F, hw, hB, hN, hwas, hwl, h4⟩
              clear G F hw hB hN hwas hwl h4 hcs hKJ
              rcases hk with hk | hk
              · go_wp2_with fail
                go_roundw
                case rel => exact ⟨i + 1, t, by omega, by omega, by omega, by go_num, HL.out⟩
                case measure => simp [intOf]; omega
              · have hk' : ¬ qc < 0 := by omega
                go_wp2_with fail
                go_roundw
                case rel => exact ⟨i + 1, t, by omega, by omega, by omega, by go_num, HL.out⟩
                case measure => simp [intOf]; omega
            · obtain ⟨k, rfl⟩ : ∃ k : Nat, qc = (k : Int) := ⟨qc.toNat, by omega⟩
              have hk4 : k < 4 := by omega
              have hkA : ¬ (k : Int) < 0 := by omega
              have hkB : ¬ 3 < (k : Int) := by omega
              have hst := hsteps.out G F hw hB hN (by omega) (by omega) (by omega) hwl h4 hk4 (cl := (k : Int)) (act := qa) (ob := qo)
              have HW := (show Hid (was.length = t + 1 ∧ ∀ i, i < was.length → (was.getD i []).length = N) from ⟨hwas, hwl⟩)
              clear G F hw hB hN hwas hwl h4 hcs hKJ hk
              go_wp2_with ((go_at_call 8; (with_reducible refine hst.mono ?_); rintro e w5 ⟨rfl, hSp⟩; clear hst; obtain ⟨ssb, mmb, nnb, ccb, wantb, mkb, G5, F5, hw5, hB5, hN5, h45⟩ := hSp; have y1' := G5.cells.2.2.2.2.2.1; have hcm := G5.com) )
              have hbl : wantb.length = N := by rw [hw5, com_len]; exact hN5
              have HF5 := (show Hid (Fl ssb mmb ccb (was ++ [wantb]) 4 ∧ wantb = ssb.com mmb ∧ Bg ssb mmb nnb mkb (t + 1) ∧ ssb.objs.length = N ∧ ∀ k, k < 4 → (ccb k).at_ ≤ 4) from ⟨F5, hw5, hB5, hN5, h45⟩)
              rw [hN5, ← hw5] at hcm
              have HG5 := (show Hid (GX w (fun _ => False) fb rb wb mb ssb mmb nnb ccb wantb was mkb w5) from G5)
              clear F5 hw5 hB5 hN5 h45 G5
              refine hcm.mono ?_
              clear hcm
              rintro e w6 ⟨rfl, ow6, k6⟩
              have G6 := HG5.out.new k6
              obtain ⟨gwq, cwq, T37, P37, _, _, _, _⟩ := G6.own37 (by omega)
              obtain ⟨aw6, cw6, e6, va6, _⟩ := va_own ow6 hbl
              injection e6 with e61 e62 e63
              obtain ⟨aq, cq, eq6, vq6, _⟩ := va_own P37 rfl
              injection eq6 with eq61 eq62 eq63
              rw [← e61] at va6
              rw [← eq61] at vq6
              have hsm := same_eq va6 vq6 (by omega) N cwq
              rw [hbl] at hsm T37
              have HG6 := (show Hid (GX w (fun _ => False) fb rb wb mb ssb mmb nnb ccb wantb was mkb w6) from G6)
              clear G6 P37 va6 vq6 ow6 e61 e62 e63 eq61 eq62 eq63
              go_wp2_with ((go_at_call 9; (with_reducible refine hsm.mono ?_); rintro e w7 ⟨rfl, k7⟩; clear hsm))
              have G7 := HG6.out.new k7
              have hw0b : 0 < wantb.length := by omega
              have hleb : wantb.length ≤ 1000 := by omega
              have hwzb : was.length ≤ 1000000 := by have := HW.out.1; omega
              clear HG5 HG6 T37 HG k6 k7 d0 d1 d2 y0 y1 y1' y40
              obtain ⟨asb, csb, wslb, S38, O38, Q38⟩ := G7.own38
              obtain ⟨gwb, cwb, S37, O37, nwf, _, _, _⟩ := G7.own37 hw0b
              obtain ⟨_, zf, lFb, _, _, _, _, _⟩ := G7.cells
              have z38 := zf 38
              obtain ⟨L0, hL0⟩ : ∃ x, Hid (x = was.length) := ⟨_, rfl⟩
              obtain ⟨N0, hN0⟩ : ∃ x, Hid (x = wantb.length) := ⟨_, rfl⟩
              obtain ⟨ub, W5b, hap, ou, k5⟩ := cpv_run (W0 := w7) (((Keeps.refl (fun _ => False) w7).alloc (.cells #[] 52)).drew) (g0 := w7.heap.size) (heap_alloc_new w7 _) (Nat.le_refl _) O37 hleb
              obtain ⟨aub, cub, rfl, vau, hgu⟩ := va_own ou rfl
              have HO38 := (show Hid (w7.ownsRow 0 27 1 (.slice asb was.length csb) was.length wslb) from O38)
              have HS38 := (show Hid _ from S38)
              have Hou := (show Hid (W5b.ownsRow w7.heap.size 52 3 (.slice aub wantb.length cub) wantb.length (fl vc3 wantb)) from ou)
              have HGb := (show Hid _ from G7)
              rw [← hL0.out] at S38 O38 Q38
              rw [← hN0.out] at S37 hap
              have nw38 : ¬ some fb = (Value.slice asb L0 csb).ownBlock := fun e => (Q38 fb e.symm).1 rfl
              have O38b := k5.owns O38 (fun _ _ e => e)
              have HO5 := (show Hid (W5b.ownsRow 0 27 1 (.slice asb L0 csb) L0 wslb) from O38b)
              have q38a : ∀ ob, (w7.alloc ob).cell? ⟨fb, 38, none⟩ = some (.slice asb L0 csb) := fun ob => ((Keeps.refl (fun _ => False) w7).alloc ob).cell S38 id
              have q37a : ∀ ob, (w7.alloc ob).cell? ⟨fb, 37, none⟩ = some (.slice (some ⟨gwb, 0, none⟩) N0 cwb) := fun ob => ((Keeps.refl (fun _ => False) w7).alloc ob).cell S37 id
              have q38b : W5b.cell? ⟨fb, 38, none⟩ = some (.slice asb L0 csb) := k5.cell S38 id
              have q38c : ∀ ob, (W5b.alloc ob).cell? ⟨fb, 38, none⟩ = some (.slice asb L0 csb) := fun ob => ((Keeps.refl (fun _ => False) W5b).alloc ob).cell q38b id
              have z38b : W5b.frozen? ⟨fb, 38, none⟩ = false := (k5.frozen (p := ⟨fb, 38, none⟩) lFb id).trans z38
              have lF5 : fb < W5b.heap.size := Nat.lt_of_lt_of_le lFb k5.size
              have z38c : ∀ ob, (W5b.alloc ob).frozen? ⟨fb, 38, none⟩ = false := fun ob => (((Keeps.refl (fun _ => False) W5b).alloc ob).frozen (p := ⟨fb, 38, none⟩) lF5 id).trans z38b
              have nF5 : ¬ fb = W5b.heap.size := by omega
              have nFW : ¬ fb = w7.heap.size := by omega
              obtain ⟨i0, hi0, hz0, hz1, hz2⟩ := info_parts infoS
              have h63 : L0 + 1 ≤ maxLen := by unfold maxLen; have := hL0.out; omega
              have hby : (L0 + 1) * 24 ≤ 140737488355328 := by have := hL0.out; omega
              have Hk5 := (show Hid _ from k5)
              clear O38 O38b ou vau hgu zf Q38 k5 O37
              apply wp_cut5 (S := fun w' => GX w (fun _ => False) fb rb wb mb ssb mmb nnb ccb wantb (was ++ [wantb]) mkb w') (G := fun a gg cap => ((((((((((((((a.put (some 95) (.pointer (some ⟨fb, 0, none⟩))).put (some 96) (.pointer (some ⟨fb, 0, none⟩))).put (some 97) (.pointer (some ⟨fb, 0, none⟩))).put (some 98) (.pointer (some ⟨fb, 38, none⟩))).put (some 99) (.slice asb L0 csb)).put (some 100) (.slice (some ⟨w7.heap.size, 0, none⟩) 0 0)).put (some 101) (.pointer (some ⟨fb, 0, none⟩))).put (some 102) (.pointer (some ⟨fb, 0, none⟩))).put (some 103) (.pointer (some ⟨fb, 37, none⟩))).put (some 104) (.slice (some ⟨gwb, 0, none⟩) N0 cwb)).put (some 105) (.slice aub N0 cub)).put (some 106) (.slice (some ⟨W5b.heap.size, 0, none⟩) 1 1)).put (some 107) (.slice (some ⟨gg, 0, none⟩) (L0 + 1) cap)).put (some 108) (.pointer (some ⟨fb, 0, none⟩))).put (some 109) (.pointer (some ⟨fb, 38, none⟩)))
              case h =>
                intro F7 Q7 hF7 hQ7
                go_region_law (first | (refine step_append_run (by rfl) _ _ _ (by rfl) (.slice (some ⟨w7.heap.size, 0, none⟩) 0 0) (.slice (some ⟨gwb, 0, none⟩) N0 cwb) (.slice aub N0 cub) W5b (by rfl) (by rfl) hap ?_) | (refine step_append_lies _ (by rfl) _ _ _ (by rfl) 0 27 i0 _ 1 24 underS hi0 hz0 hz1 hz2 rfl (by omega) (.slice asb L0 csb) L0 wslb (by rfl) (HO5.out.alloc _) ⟨W5b.heap.size, 0, none⟩ 1 1 [.slice aub N0 cub] (by rfl) (by rfl) (World.news_of_block (cs := #[.slice aub N0 cub]) (t := 27) (fr := (0, 0)) (heap_alloc_new W5b _)) (by simp [Value.oneCell']) (by omega) h63 hby (Nat.zero_le _) (W5b.heap.size + 1) (by simp) ?_; intro gg cap1 w4 hown1 hgrow hat hlt1; have r1 := (hgrow.cell_far ⟨fb, 38, none⟩ (by simp; omega) nw38).trans (q38c _); have r2 := (hgrow.frozen_far ⟨fb, 38, none⟩ (by simp; omega) nw38).trans (z38c _)))
                all_goals
                  have G6 := HGb.out.app38 (Hk5.out.alloc _) HS38.out HO38.out (by rw [← hL0.out]; exact hgrow) (u := .slice aub N0 cub) (by rw [hN0.out]; exact Hou.out.alloc _) (by rw [← hL0.out]; exact hown1) (by rw [← hL0.out]; exact (hat.imp id (fun e => by rw [e]; simp)))
                  rw [← hL0.out] at G6
                  have G7 := hQ7.out gg cap1 _ G6
                  rw [hF7.out] at G7
                  change Q7 _ _
                  refine cast ?_ G7
                  go_simp
              case hq =>
                intro ggb capb Wb Gb
                go_wp2_with fail
                go_roundw
                case rel => exact ⟨i + 1, t + 1, by omega, by omega, by omega, by go_num, Sp.next HW.out.1 HW.out.2 HF5.out.1 HF5.out.2.1 HF5.out.2.2.1 HF5.out.2.2.2.1 HF5.out.2.2.2.2 Gb⟩
                case measure => simp [intOf]; omega
          · have hor : ¬ (i : Int) < (l.length : Int) ∨ ((i : Int) < (l.length : Int) ∧ ¬ (i : Int) < 12000) := by omega
            have HKJ := (show Hid (Keeps (fun _ => False) w wJ) from hKJ)
            clear hKJ hlt G F hw hB hN hwas hwl h4
            rcases hor with hA | ⟨hA, hA2⟩
            all_goals
              go_wp2_with fail
              go_ret
              exact ⟨rfl, HKJ.out.below (Nat.le_refl _) (fun _ _ e => e)⟩
end Go.Proofs.Ytdeiochjkbogpaa
