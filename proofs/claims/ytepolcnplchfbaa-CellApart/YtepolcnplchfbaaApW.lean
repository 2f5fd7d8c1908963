import Derived.Test.YtepolcnplchfbaaApC
import Derived.BigRegion
import Derived.BigQuiet
namespace Go.Proofs.Ytepolcnplchfbaa
open Go.RowKit

set_option maxHeartbeats 6400000 in
set_option maxRecDepth 1000000 in
theorem apart_walk {w : World} {a : Option Addr} {l : List Ac} (hA : AL w a l) (_ : ∀ q ∈ l, q.ok) (hln : l.length ≤ 9223372036854775807) (cap : Nat) :
    Calls Try.prog 5 #[.slice a l.length cap] w fun e w' => e = .returned (.bool true) ∧ Below w.heap.size w w' := by
  have hp := peq w.heap.size
  have hfr := fresh_any w
  go_enter Try.func5, Try.ntmps5
  go_wp2_with ((go_at_call 16; refine hfr.mono ?_; clear hfr; rintro e w1 ⟨rfl, hM⟩))
  have S0 := AS.start hM
  have R0 : Rise (fr 3) 0 := ⟨rfl, fun i _ hi => by simp [fr, Mm.new] at hi, fun i hi => by simp [fr, Mm.new] at hi, fun h => by simp [fr, Mm.new] at h, by simp [fr, Mm.new]⟩
  have T0 : (fr 3).log.length = 0 := rfl
  clear hM
  generalize hsz : w.heap.size = mb at *
  generalize fr 3 = s0 at S0 R0 T0
  go_loopw [4, 5, 6, 26] (fun vk vm tk i W => ∃ (k : Nat) (s : Mm) (ents : List En), k ≤ l.length ∧ k ≤ 60 ∧ i = .int .i64 (k : Int) ∧ tk = .int .i64 (s.log.length : Int) ∧ ents.length ≤ 2 * k ∧ Rise s k ∧ AS w W vk vm ents mb s) (fun _ _ _ i _ => 60 - (intOf i).toNat)
  case atStart => exact ⟨0, s0, [], Nat.zero_le _, by omega, rfl, by rw [T0]; rfl, Nat.zero_le _, R0, S0⟩
  case round =>
    clear S0 R0 T0
    obtain ⟨k, s, ents, hk, hk60, rfl, rfl, hel, hR, hS⟩ := hrel
    by_cases hlt : k < l.length
    · have hltI : (k : Int) < (l.length : Int) := by omega
      obtain ⟨b, off, rfl, hb, hcs⟩ := hA.some (by omega)
      obtain ⟨c0, c1, c2, c3⟩ := hcs k hlt
      have kpw := hS.mp.keeps
      have d0 := kpw.cell c0 (fun e => e)
      have d1 := kpw.cell c1 (fun e => e)
      have d2 := kpw.cell c2 (fun e => e)
      have d3 := kpw.cell c3 (fun e => e)
      generalize aa l k = q at d0 d1 d2 d3
      clear hcs c0 c1 c2 c3 kpw
      by_cases h60 : k = 60
      · have hge : decide ((60 : Int) ≤ (k : Int)) = true := decide_eq_true (by omega)
        have hgeN : decide (60 ≤ k) = true := decide_eq_true (by omega)
        have hbw := hS.mp.keeps
        clear h60
        go_wp2
        (try go_wp2)
        go_ret
        exact ⟨rfl, (hbw.alloc _).below (by rw [hsz]; exact Nat.le_refl _) (fun _ _ e => e)⟩
      · have hge : ¬ (60 : Int) ≤ (k : Int) := by omega
        have hgeb : decide ((60 : Int) ≤ (k : Int)) = false := decide_eq_false hge
        have hB := fun o => pbegin (hS.act o) (k : Int) 1 hR.may
        have hpl := fun W => place_of W q
        have HS : Hid (AS w wr u4 u5 ents mb s) := hS
        clear hS
        have hp4 := pl_lt q.c
        by_cases h3 : pl q.c = 3
        · have hA1 : Hid (∀ W, MP w (RA u4 u5 ents wr.heap.size) W mb (s.begin (k : Int) 1) → Calls Try.prog 19 #[.pointer (some ⟨mb, 0, none⟩), .agg #[.int .i64 q.kind, .int .i64 q.c, .int .i64 q.x, .int .i64 q.y]] W fun e w' => e = .returned (.tuple #[.int .i64 0, .int .i64 30]) ∧ MP w (RA u4 u5 ents wr.heap.size) w' mb (s.begin (k : Int) 1) ∧ KP w (RA u4 u5 ents wr.heap.size) W w') := fun W h => pask_no h q (by rw [h3]; simp [Mm.there, Mm.begin, hR.c3])
          have hR3 := hR.skip
          have hlen : (s.begin (k : Int) 1).log.length = s.log.length := rfl
          generalize hsb : s.begin (k : Int) 1 = s' at hA1 hR3 hlen hB
          have hln1 : s.log.length ≤ 60 := by have := hR.ln; omega
          generalize hpq : pl q.c = pp at *
          subst h3
          rw [← hlen] at hln1 ⊢
          clear hlen hR hsb
          generalize s.log.length = sl at *
          go_wp2_with (first | (go_at_call 18; refine (hB _).mono ?_; clear hB; rintro e w2 ⟨rfl, hM2, k2⟩; have a0 := k2.cell (p := ⟨wr.heap.size, 0, none⟩) (v := .int .i64 q.kind) (by simp) (.inr rfl); have a1 := k2.cell (p := ⟨wr.heap.size, 1, none⟩) (v := .int .i64 q.c) (by simp) (.inr rfl); have a2 := k2.cell (p := ⟨wr.heap.size, 2, none⟩) (v := .int .i64 q.x) (by simp) (.inr rfl); have a3 := k2.cell (p := ⟨wr.heap.size, 3, none⟩) (v := .int .i64 q.y) (by simp) (.inr rfl)) | (go_at_call 17; refine (num_of _ _).mono ?_; rintro e w2' ⟨rfl, rfl⟩) | (go_at_call 19; refine (hA1.out w2 hM2).mono ?_; rintro e w7 ⟨rfl, hM7, k7⟩; replace a0 := k7.cell a0 (.inr rfl); replace a1 := k7.cell a1 (.inr rfl); replace a2 := k7.cell a2 (.inr rfl); replace a3 := k7.cell a3 (.inr rfl); have hS3 := HS.out.asked k2 k7 hM7) | (go_at_call 23; refine (hpl _).mono ?_; rintro e w7 ⟨rfl, k7⟩; replace a0 := k7.cell a0 (fun e => e); replace a1 := k7.cell a1 (fun e => e); replace a2 := k7.cell a2 (fun e => e); replace a3 := k7.cell a3 (fun e => e); replace hS3 := hS3.new k7))
          have hn60 : s'.log.length ≤ 61 := by have := hR3.ln; omega
          have HR3 : Hid (Rise s' (k + 1)) := hR3
          have HS3 : Hid (AS w w7 u4 u5 ents mb s') := hS3
          have hl1 := plog hS3.mp (by omega)
          clear hS3 hR3 a0 a1 a2 a3
          generalize hL : s'.log = L at hl1 hn60 ⊢
          have HL : Hid (s'.log = L) := hL
          clear hL
          go_wp2_with (first | (go_at_call 20; refine hl1.mono ?_; clear hl1; rintro e w4 ⟨vl, rfl, ol, k4⟩; obtain ⟨vw, w5, hap5, ow, k5⟩ := cp_run ((Keeps.refl (fun _ => False) w4).alloc (.cells #[] 56)) (heap_alloc_new w4 _) (Nat.le_refl _) ol (by omega); obtain ⟨al, cl, rfl, hal, hgl⟩ := own_at ol rfl; obtain ⟨aw, cw, rfl, haw, hgw⟩ := own_at ow rfl; have hl2 := plog (HS3.out.new (k4.trans k5)).mp (by rw [HL.out]; omega); rw [HL.out] at hl2) | (at_builtin; refine wpList_append_run rfl _ _ _ rfl _ _ _ w5 rfl rfl hap5 ?_; clear hap5) | (go_at_call 20; refine hl2.mono ?_; clear hl2; rintro e w6 ⟨vq, rfl, oq, k6⟩; obtain ⟨aq, cq, rfl, haq, hgq⟩ := own_at oq rfl))
          have OL6 := (k5.trans k6).owns ol (fun _ _ e => e)
          have HOL : Hid (w6.ownsRow w7.heap.size 56 7 (.slice al L.length cl) L.length (fl rcells L)) := OL6
          have HRW : Hid (RowsAt w6 aw L) := haw.keeps k6 (fun _ _ e => e)
          have HRQ : Hid (RowsAt w6 aq L) := haq
          have s4 := k4.size
          have s5 := k5.size
          have s6 := k6.size
          have HGL : Hid (∀ g, al = some ⟨g, 0, none⟩ → w7.heap.size ≤ g ∧ g < w4.heap.size) := fun g e => ⟨(hgl g e).2, owns_lt' ol g (hgl g e).1⟩
          have HGO : Hid (∀ g, (Value.slice al L.length cl).ownBlock = some g → w7.heap.size ≤ g ∧ g < w4.heap.size) := fun g e => ⟨own_lo ol e, owns_lt' ol g e⟩
          have HGW : Hid (∀ g, aw = some ⟨g, 0, none⟩ → w4.heap.size ≤ g ∧ g < w5.heap.size) := fun g e => ⟨(hgw g e).2, owns_lt' ow g (hgw g e).1⟩
          have HGQ : Hid (∀ g, aq = some ⟨g, 0, none⟩ → w5.heap.size ≤ g ∧ g < w6.heap.size) := fun g e => ⟨(hgq g e).2, owns_lt' oq g (hgq g e).1⟩
          have K46 : Keeps (fun _ => False) w7 w6 := k4.trans (k5.trans k6)
          clear ol ow oq hal haw haq hgl hgw hgq OL6 k4 k5 k6
          obtain ⟨wo, hwo⟩ : ∃ wo, Hid (wo = wr) := ⟨_, rfl⟩
          rw [← hwo.out]
          go_loopw [14] (fun i W => ∃ t : Nat, t ≤ L.length ∧ i = .int .i64 (t : Int) ∧ Keeps (fun g => (Value.slice al L.length cl).ownBlock = some g) w6 W ∧ W.ownsRow w7.heap.size 56 7 (.slice al L.length cl) L.length (fl rcells (mkl k L t))) (fun i _ => L.length - (intOf i).toNat)
          case atStart => exact ⟨0, Nat.zero_le _, rfl, Keeps.refl _ _, HOL.out⟩
          case round =>
            obtain ⟨t, htn, rfl, kI, hO⟩ := hrel
            by_cases htl : t < L.length
            · have htI : (t : Int) < (L.length : Int) := by omega
              have ht0 : (0 : Int) ≤ (t : Int) := by omega
              obtain ⟨gl, rfl⟩ : ∃ gl, al = some ⟨gl, 0, none⟩ := by
                rcases hO.2 with ⟨h, h0⟩ | ⟨g, c, cur, h, _⟩
                · omega
                · cases h; exact ⟨g, rfl⟩
              obtain ⟨gw, rfl, _, hrw⟩ := HRW.out.resolve_left (by omega)
              obtain ⟨gq, rfl, _, hrq⟩ := HRQ.out.resolve_left (by omega)
              have b1 := HGL.out gl rfl
              have b2 := HGW.out gw rfl
              have b3 := HGQ.out gq rfl
              have RW := (hrw t htl).keep kI (fun e => absurd (show gl = gw by simpa [Value.ownBlock] using e) (by omega))
              have RQ := (hrq t htl).keep kI (fun e => absurd (show gl = gq by simpa [Value.ownBlock] using e) (by omega))
              have hml : t < (mkl k L t).length := by rw [mkl_len]; exact htl
              have RL := owns_row hO (g := gl) rfl hml
              have hNE : Nonempty (KS wr) := ⟨⟨wr, Keeps.refl _ wr⟩⟩
              have w0' := ks_cell RW.r0
              have w1' := ks_cell RW.r1
              have w2' := ks_cell RW.r2
              have w3' := ks_cell RW.r3
              have w4' := ks_cell RW.r4
              have w5' := ks_cell RW.r5
              have w6' := ks_cell RW.r6
              have q0' := ks_cell RQ.r0
              have q1' := ks_cell RQ.r1
              have q2' := ks_cell RQ.r2
              have q3' := ks_cell RQ.r3
              have q4' := ks_cell RQ.r4
              have q5' := ks_cell RQ.r5
              have q6' := ks_cell RQ.r6
              by_cases hz : t = 0
              · subst hz
                generalize ra L 0 = r at *
                simp only [Nat.zero_mul, Nat.zero_add] at w0' w1' w2' w3' w4' w5' w6' q0' q1' q2' q3' q4' q5' q6'
                go_wp2
                refine wp_region_ks (by kernel_rfl) (by kernel_rfl) ?_
                repeat (go_big_quiet_step (fail))
                refine wpQuiet_nil ?_
                rintro _ ⟨u, rfl⟩
                have hO2 := u.property.owns hO (fun _ _ e => e)
                have hst := st7 hO2 hml (mkr k 0)
                have fz := fun o => frozen_own hO2 o
                have RL2 := RL.keep u.property (fun e => e)
                obtain ⟨l0, l1, l2, l3, l4, l5, l6⟩ := RL2
                (try simp only [Nat.zero_mul, Nat.zero_add] at l0 l1 l2 l3 l4 l5 l6)
                have kI2 := kI.trans' u.property (fun _ _ e => e) (fun _ _ e => e.elim)
                clear w0' w1' w2' w3' w4' w5' w6' q0' q1' q2' q3' q4' q5' q6' hNE RL RW RQ hrw hrq
                generalize u.val = wu at *
                go_wp2
                go_roundw
                case rel =>
                  refine ⟨0 + 1, by omega, by go_num, kI2.trans' hst.2 (fun _ _ e => e) (fun g _ e => by subst e; rfl), hst.1⟩
                case measure => simp [intOf]; omega
              · have hzI : (0 : Int) < (t : Int) := by omega
                obtain ⟨t', rfl⟩ : ∃ t', t = t' + 1 := ⟨t - 1, by omega⟩
                have RV := (hrw t' (by omega)).keep kI (fun e => absurd (show gl = gw by simpa [Value.ownBlock] using e) (by omega))
                have hup : ¬ (ra L (t' + 1)).step ≤ (ra L t').step := by
                  have := HR3.out.up (t' + 1) (by omega) (by rw [HL.out]; exact htl)
                  rw [HL.out] at this
                  simp only [Nat.add_sub_cancel] at this
                  omega
                have v0' := ks_cell RV.r0
                generalize ra L (t' + 1) = r at *
                generalize ra L t' = rp at *
                go_wp2
                clear RV
                refine wp_region_ks (by kernel_rfl) (by kernel_rfl) ?_
                repeat (go_big_quiet_step (fail))
                refine wpQuiet_nil ?_
                rintro _ ⟨u, rfl⟩
                have hO2 := u.property.owns hO (fun _ _ e => e)
                have hst := st7 hO2 hml (mkr k (t' + 1))
                have fz := fun o => frozen_own hO2 o
                have RL2 := RL.keep u.property (fun e => e)
                obtain ⟨l0, l1, l2, l3, l4, l5, l6⟩ := RL2
                (try simp only [Nat.zero_mul, Nat.zero_add] at l0 l1 l2 l3 l4 l5 l6)
                have kI2 := kI.trans' u.property (fun _ _ e => e) (fun _ _ e => e.elim)
                clear w0' w1' w2' w3' w4' w5' w6' q0' q1' q2' q3' q4' q5' q6' hNE RL RW RQ hrw hrq
                generalize u.val = wu at *
                go_wp2
                go_roundw
                case rel =>
                  refine ⟨(t' + 1) + 1, by omega, by go_num, kI2.trans' hst.2 (fun _ _ e => e) (fun g _ e => by subst e; rfl), hst.1⟩
                case measure => simp [intOf]; omega
            · have htI : ¬ (t : Int) < (L.length : Int) := by omega
              have hM : (mkl k L t).length = L.length := mkl_len k L t
              generalize mkl k L t = M at hO hM
              clear htn htl
              obtain ⟨v8, w8, hap8, hm8, hO8, k8⟩ := more_run hO (by have := kI.size; omega) (by omega) ⟨-1000 - (k : Int), 0, 0, 0, 0, 0, false⟩ ⟨-2000 - (k : Int), 0, 0, 0, 0, 0, false⟩
              have K68 : Keeps (fun g => (Value.slice al L.length cl).ownBlock = some g) w6 w8 := kI.trans' k8 (fun _ _ e => e) (fun _ _ e => e)
              have K78 : Keeps (fun _ => False) w7 w8 := K46.trans' K68 (fun _ _ e => e) (fun i hi e => by have := HGO.out i e; omega)
              have hS7 := HS3.out
              have l4 : ∀ g, u4.ownBlock = some g → g < w7.heap.size := fun g e => hS7.ltE (.inl e)
              have l5 : ∀ g, u5.ownBlock = some g → g < w7.heap.size := fun g e => hS7.ltE (.inr (.inl e))
              have o4 := K78.owns hS7.rk (fun _ _ e => e)
              have o5 := K78.owns hS7.rm (fun _ _ e => e)
              have hM2 : L.length + 2 = (M ++ [(⟨-1000 - (k : Int), 0, 0, 0, 0, 0, false⟩ : Rw), ⟨-2000 - (k : Int), 0, 0, 0, 0, 0, false⟩]).length := by simp [hM]
              generalize (M ++ [(⟨-1000 - (k : Int), 0, 0, 0, 0, 0, false⟩ : Rw), ⟨-2000 - (k : Int), 0, 0, 0, 0, 0, false⟩]) = M2 at hm8 hM2
              obtain ⟨a8, c8, rfl, -, -⟩ := own_at hm8 hM2.symm
              obtain ⟨vk', w9, hap9, h9, k9, n9⟩ := two_run o4 (by omega) (x := .slice al L.length cl) (y := .slice a8 (L.length + 2) c8) rfl rfl
              have hO9 := k9.owns hO8 (fun g e e' => by have := own_lo hO8 e; have := l4 g e'; omega)
              have hm9 := k9.owns hm8 (fun g e e' => by have := own_lo hm8 e; have := l4 g e'; omega)
              have o59 := k9.owns o5 (fun g e e' => hS7.e2 g e' e)
              obtain ⟨v10, w10, hap10, h10, k10⟩ := cp_run ((Keeps.refl (fun _ => False) w9).alloc (.cells #[] 56)) (heap_alloc_new w9 _) (Nat.le_refl _) hO9 (by omega)
              obtain ⟨v11, w11, hap11, h11, k11⟩ := cp_run ((Keeps.refl (fun _ => False) w10).alloc (.cells #[] 56)) (heap_alloc_new w10 _) (Nat.le_refl _) (k10.owns hm9 (fun _ _ e => e)) (by omega)
              obtain ⟨a10, c10, rfl, -, -⟩ := own_at h10 hM
              obtain ⟨a11, c11, rfl, -, -⟩ := own_at h11 hM2.symm
              obtain ⟨vm', w12, hap12, h12, k12, n12⟩ := two_run ((k10.trans k11).owns o59 (fun _ _ e => e)) (by omega) (x := .slice a10 L.length c10) (y := .slice a11 (L.length + 2) c11) rfl rfl
              obtain ⟨⟨x, y, hS12⟩, K612⟩ := AS.fin (M := M) (M2 := M2) (by rw [hM]) hM2 hM.symm (by omega) hS7 K46 kI (fun g e => (HGL.out g e).1) hO8 hm8 k8 h9 k9 n9 h10 k10 h11 k11 h12 k12 n12
              have HAW : Hid (RowsAt w12 aw L) := HRW.out.keeps K612 (fun g e => by
                have := HGW.out g e
                rintro (e | e | e)
                · have := HGO.out g e; omega
                · have := l4 g e; omega
                · have := l5 g e; omega)
              have HAQ : Hid (RowsAt w12 aq L) := HRQ.out.keeps K612 (fun g e => by
                have := HGQ.out g e
                rintro (e | e | e)
                · have := HGO.out g e; omega
                · have := l4 g e; omega
                · have := l5 g e; omega)
              clear hO8 hm8 k8 h9 k9 n9 h10 k10 h11 k11 h12 k12 n12 K612 l4 l5 o4 o5 hO9 hm9 o59 K68 K78 hS7 kI hO HS3 HOL HRW HRQ HGL HGO HGW HGQ K46 s4 s5 s6 hM hM2
              have hEL : (ents ++ [x, y]).length ≤ 2 * (k + 1) := by simp; omega
              have hE0 : 0 < (ents ++ [x, y]).length := by simp
              generalize ents ++ [x, y] = E at *
              obtain ⟨gk, ck, rfl⟩ := own_some hS12.rk hE0
              obtain ⟨gm, cm, rfl⟩ := own_some hS12.rm hE0
              have HS12 : Hid (AS w w12 (.slice (some ⟨gk, 0, none⟩) E.length ck) (.slice (some ⟨gm, 0, none⟩) E.length cm) E mb s') := hS12
              clear hS12
              go_wp2_with (first | (at_builtin; refine wpList_append_run rfl _ _ _ rfl _ _ _ w8 rfl rfl hap8 ?_; clear hap8) | (at_builtin; refine wpList_append_run rfl _ _ _ rfl _ _ _ w9 rfl rfl hap9 ?_; clear hap9) | (at_builtin; refine wpList_append_run rfl _ _ _ rfl _ _ _ w10 rfl rfl hap10 ?_; clear hap10) | (at_builtin; refine wpList_append_run rfl _ _ _ rfl _ _ _ w11 rfl rfl hap11 ?_; clear hap11) | (at_builtin; refine wpList_append_run rfl _ _ _ rfl _ _ _ w12 rfl rfl hap12 ?_; clear hap12))
              go_loopw [16] (fun i W => ∃ t : Nat, t ≤ L.length ∧ i = .int .i64 (t : Int) ∧ Keeps (fun _ => False) w12 W) (fun i _ => L.length - (intOf i).toNat)
              case atStart => exact ⟨0, Nat.zero_le _, rfl, Keeps.refl _ _⟩
              case round =>
                obtain ⟨t3, htn, rfl, kI⟩ := hrel
                by_cases htl : t3 < L.length
                · have htI : (t3 : Int) < (L.length : Int) := by omega
                  have ht0 : (0 : Int) ≤ (t3 : Int) := by omega
                  obtain ⟨gw, rfl, _, hrw⟩ := HAW.out.resolve_left (by omega)
                  obtain ⟨gq, rfl, _, hrq⟩ := HAQ.out.resolve_left (by omega)
                  have RW := (hrw t3 htl).keep kI (fun e => e)
                  have RQ := (hrq t3 htl).keep kI (fun e => e)
                  clear hrw hrq
                  generalize ra L t3 = r at RW RQ
                  have w0' := ks_cell RW.r0
                  have w1' := ks_cell RW.r1
                  have w2' := ks_cell RW.r2
                  have w3' := ks_cell RW.r3
                  have w4' := ks_cell RW.r4
                  have w5' := ks_cell RW.r5
                  have w6' := ks_cell RW.r6
                  have q0' := ks_cell RQ.r0
                  have q1' := ks_cell RQ.r1
                  have q2' := ks_cell RQ.r2
                  have q3' := ks_cell RQ.r3
                  have q4' := ks_cell RQ.r4
                  have q5' := ks_cell RQ.r5
                  have q6' := ks_cell RQ.r6
                  have hNE : Nonempty (KS wr) := ⟨⟨wr, Keeps.refl _ wr⟩⟩
                  go_wp2
                  refine wp_region_ks (by kernel_rfl) (by kernel_rfl) ?_
                  repeat (go_big_quiet_step (fail))
                  refine wpQuiet_nil ?_
                  rintro _ ⟨u, rfl⟩
                  have kI2 := kI.trans u.property
                  clear w0' w1' w2' w3' w4' w5' w6' q0' q1' q2' q3' q4' q5' q6' hNE RW RQ
                  generalize u.val = wu at *
                  go_wp2
                  go_roundw
                  case rel => exact ⟨t3 + 1, by omega, by go_num, kI2⟩
                  case measure => simp [intOf]; omega
                · have htI : ¬ (t3 : Int) < (L.length : Int) := by omega
                  have hS13 := HS12.out.new kI
                  have hl3 := plog hS13.mp (by rw [HL.out]; omega)
                  have HS13 : Hid (AS w wr (.slice (some ⟨gk, 0, none⟩) E.length ck) (.slice (some ⟨gm, 0, none⟩) E.length cm) E mb s') := hS13
                  have HAX : Hid (RowsAt wr aw L) := HAW.out.keeps kI (fun _ _ e => e)
                  rw [HL.out] at hl3
                  clear hS13 HAW HAQ HS12 kI htn htl
                  go_wp2_with ((go_at_call 20; refine hl3.mono ?_; clear hl3; rintro e w13 ⟨vn, rfl, on, k13⟩; obtain ⟨an, cn, rfl, han, -⟩ := own_at on rfl))
                  have HSd : Hid (AS w w13 (.slice (some ⟨gk, 0, none⟩) E.length ck) (.slice (some ⟨gm, 0, none⟩) E.length cm) E mb s') := HS13.out.new k13
                  have HBW : Hid (RowsAt w13 aw L) := HAX.out.keeps k13 (fun _ _ e => e)
                  have HBN : Hid (RowsAt w13 an L) := han
                  clear HS13 HAX han k13 on
                  go_loopw [18] (fun i W => ∃ t : Nat, t ≤ L.length ∧ i = .int .i64 (t : Int) ∧ Keeps (fun _ => False) w13 W) (fun i _ => L.length - (intOf i).toNat)
                  case atStart => exact ⟨0, Nat.zero_le _, rfl, Keeps.refl _ _⟩
                  case round =>
                    obtain ⟨t4, htn, rfl, kI⟩ := hrel
                    by_cases htl : t4 < L.length
                    · have htI : (t4 : Int) < (L.length : Int) := by omega
                      have ht0 : (0 : Int) ≤ (t4 : Int) := by omega
                      obtain ⟨gw, rfl, _, hrw⟩ := HBW.out.resolve_left (by omega)
                      obtain ⟨gq, rfl, _, hrq⟩ := HBN.out.resolve_left (by omega)
                      have RW := (hrw t4 htl).keep kI (fun e => e)
                      have RQ := (hrq t4 htl).keep kI (fun e => e)
                      clear hrw hrq
                      generalize ra L t4 = r at RW RQ
                      have w0' := ks_cell RW.r0
                      have w1' := ks_cell RW.r1
                      have w2' := ks_cell RW.r2
                      have w3' := ks_cell RW.r3
                      have w4' := ks_cell RW.r4
                      have w5' := ks_cell RW.r5
                      have w6' := ks_cell RW.r6
                      have q0' := ks_cell RQ.r0
                      have q1' := ks_cell RQ.r1
                      have q2' := ks_cell RQ.r2
                      have q3' := ks_cell RQ.r3
                      have q4' := ks_cell RQ.r4
                      have q5' := ks_cell RQ.r5
                      have q6' := ks_cell RQ.r6
                      have hNE : Nonempty (KS wr) := ⟨⟨wr, Keeps.refl _ wr⟩⟩
                      go_wp2
                      refine wp_region_ks (by kernel_rfl) (by kernel_rfl) ?_
                      repeat (go_big_quiet_step (fail))
                      refine wpQuiet_nil ?_
                      rintro _ ⟨u, rfl⟩
                      have kI2 := kI.trans u.property
                      clear w0' w1' w2' w3' w4' w5' w6' q0' q1' q2' q3' q4' q5' q6' hNE RW RQ
                      generalize u.val = wu at *
                      go_wp2
                      go_roundw
                      case rel => exact ⟨t4 + 1, by omega, by go_num, kI2⟩
                      case measure => simp [intOf]; omega
                    · have htI : ¬ (t4 : Int) < (L.length : Int) := by omega
                      clear htn htl
                      have HSe : Hid (AS w wr (.slice (some ⟨gk, 0, none⟩) E.length ck) (.slice (some ⟨gm, 0, none⟩) E.length cm) E mb s') := HSd.out.new kI
                      clear HBW HBN HSd kI
                      obtain ⟨w14, rfl⟩ : ∃ w14, w14 = wr := ⟨_, rfl⟩
                      go_wp2
                      go_loopw [19, 20] (fun i _ W => ∃ t : Nat, t ≤ E.length ∧ i = .int .i64 (t : Int) ∧ Keeps (fun _ => False) w14 W) (fun i _ _ => E.length - (intOf i).toNat)
                      case atStart => exact ⟨0, Nat.zero_le _, rfl, Keeps.refl _ _⟩
                      case round =>
                        obtain ⟨j, hjn, rfl, kJ⟩ := hrel
                        by_cases hjl : j < E.length
                        · have hjI : (j : Int) < (E.length : Int) := by omega
                          have hj0 : (0 : Int) ≤ (j : Int) := by omega
                          obtain ⟨e, he⟩ : ∃ e, E[j]? = some e := ⟨E[j], List.getElem?_eq_getElem hjl⟩
                          have hSj := HSe.out.new kJ
                          have ck0 := own_cell hSj.rk j e.k (by simp [he])
                          have cm0 := own_cell hSj.rm j e.m (by simp [he])
                          obtain ⟨rk0, rm0⟩ := hSj.ea j e he
                          have hle := hSj.el j e he
                          obtain ⟨ka, kc, ma, mc, Le⟩ := e
                          have HK0 : Hid (RowsAt wr ka Le) := rk0
                          have HM0 : Hid (RowsAt wr ma Le) := rm0
                          simp only [En.k, En.m] at ck0 cm0 hle
                          clear hSj rk0 rm0 he
                          obtain ⟨wj, rfl⟩ : ∃ wj, wj = wr := ⟨_, rfl⟩
                          go_wp2
                          go_loopw [20] (fun i W => ∃ t : Nat, t ≤ Le.length ∧ i = .int .i64 (t : Int) ∧ Keeps (fun _ => False) wj W) (fun i _ => Le.length - (intOf i).toNat)
                          case atStart => exact ⟨0, Nat.zero_le _, rfl, Keeps.refl _ _⟩
                          case round =>
                            obtain ⟨n6, htn, rfl, kI⟩ := hrel
                            replace ck0 := kI.cell ck0 (fun e => e)
                            replace cm0 := kI.cell cm0 (fun e => e)
                            by_cases htl : n6 < Le.length
                            · have htI : (n6 : Int) < (Le.length : Int) := by omega
                              have ht0 : (0 : Int) ≤ (n6 : Int) := by omega
                              obtain ⟨gw, rfl, _, hrw⟩ := HK0.out.resolve_left (by omega)
                              obtain ⟨gq, rfl, _, hrq⟩ := HM0.out.resolve_left (by omega)
                              have RW := (hrw n6 htl).keep kI (fun e => e)
                              have RQ := (hrq n6 htl).keep kI (fun e => e)
                              clear hrw hrq
                              have ck0' := ks_cell ck0
                              have cm0' := ks_cell cm0
                              generalize ra Le n6 = r at RW RQ
                              have w0' := ks_cell RW.r0
                              have w1' := ks_cell RW.r1
                              have w2' := ks_cell RW.r2
                              have w3' := ks_cell RW.r3
                              have w4' := ks_cell RW.r4
                              have w5' := ks_cell RW.r5
                              have w6' := ks_cell RW.r6
                              have q0' := ks_cell RQ.r0
                              have q1' := ks_cell RQ.r1
                              have q2' := ks_cell RQ.r2
                              have q3' := ks_cell RQ.r3
                              have q4' := ks_cell RQ.r4
                              have q5' := ks_cell RQ.r5
                              have q6' := ks_cell RQ.r6
                              have hNE : Nonempty (KS wr) := ⟨⟨wr, Keeps.refl _ wr⟩⟩
                              go_wp2
                              refine wp_region_ks (by kernel_rfl) (by kernel_rfl) ?_
                              repeat (go_big_quiet_step (fail))
                              refine wpQuiet_nil ?_
                              rintro _ ⟨u, rfl⟩
                              have kI2 := kI.trans u.property
                              clear w0' w1' w2' w3' w4' w5' w6' q0' q1' q2' q3' q4' q5' q6' hNE RW RQ
                              generalize u.val = wu at *
                              go_wp2
                              go_roundw
                              case rel => exact ⟨n6 + 1, by omega, by go_num, kI2⟩
                              case measure => simp [intOf]; omega
                            · have htI : ¬ (n6 : Int) < (Le.length : Int) := by omega
                              have kJ2 := kJ.trans kI
                              go_wp2
                              go_roundw
                              case rel => exact ⟨j + 1, by omega, by go_num, kJ2⟩
                              case measure => simp [intOf]; omega
                        · have hjI : ¬ (j : Int) < (E.length : Int) := by omega
                          have HSf : Hid (AS w wr (.slice (some ⟨gk, 0, none⟩) E.length ck) (.slice (some ⟨gm, 0, none⟩) E.length cm) E mb s') := HSe.out.new kJ
                          clear HSe kJ hjn hjl
                          go_wp2
                          go_roundw
                          case rel => exact ⟨k + 1, s', E, by omega, by omega, by go_num, by rw [HL.out], hEL, HR3.out, HSf.out⟩
                          case measure => simp [intOf]; omega
        · have hA1 : Hid (∀ W, MP w (RA u4 u5 ents wr.heap.size) W mb (s.begin (k : Int) 1) → Calls Try.prog 19 #[.pointer (some ⟨mb, 0, none⟩), .agg #[.int .i64 q.kind, .int .i64 q.c, .int .i64 q.x, .int .i64 q.y]] W fun e w' => e = .returned (.tuple #[.int .i64 (q.said (ca s.cells (pl q.c)).2), .int .i64 0]) ∧ MP w (RA u4 u5 ents wr.heap.size) w' mb ((s.begin (k : Int) 1).take q.kd (pl q.c) (q.wrote (ca s.cells (pl q.c)).2) (q.done (ca s.cells (pl q.c)).2)) ∧ KP w (RA u4 u5 ents wr.heap.size) W w') := fun W h => pask_ok h q (by show pl q.c < s.cells.length; rw [hR.c3]; omega) rfl (by have := hR.ln; show (s.log.length + 1) * 56 ≤ _; omega)
          have hR3 := hR.take q.kd (pl q.c) (q.wrote (ca s.cells (pl q.c)).2) (q.done (ca s.cells (pl q.c)).2)
          have hlen : ((s.begin (k : Int) 1).take q.kd (pl q.c) (q.wrote (ca s.cells (pl q.c)).2) (q.done (ca s.cells (pl q.c)).2)).log.length = s.log.length + 1 := by simp [Mm.take, Mm.begin]
          generalize ((s.begin (k : Int) 1).take q.kd (pl q.c) (q.wrote (ca s.cells (pl q.c)).2) (q.done (ca s.cells (pl q.c)).2)) = s' at hA1 hR3 hlen
          have hln1 : s.log.length ≤ 60 := by have := hR.ln; omega
          generalize q.said (ca s.cells (pl q.c)).2 = sd at hA1
          generalize hpq : pl q.c = pp at *
          have h3I : ((pp : Int) == 3) = false := by simp; omega
          have h3N : ((pp : Int) != 3) = true := by simp; omega
          clear hR
          go_wp2_with (first | (go_at_call 18; refine (hB _).mono ?_; clear hB; rintro e w2 ⟨rfl, hM2, k2⟩; have a0 := k2.cell (p := ⟨wr.heap.size, 0, none⟩) (v := .int .i64 q.kind) (by simp) (.inr rfl); have a1 := k2.cell (p := ⟨wr.heap.size, 1, none⟩) (v := .int .i64 q.c) (by simp) (.inr rfl); have a2 := k2.cell (p := ⟨wr.heap.size, 2, none⟩) (v := .int .i64 q.x) (by simp) (.inr rfl); have a3 := k2.cell (p := ⟨wr.heap.size, 3, none⟩) (v := .int .i64 q.y) (by simp) (.inr rfl)) | (go_at_call 17; refine (num_of _ _).mono ?_; rintro e w2' ⟨rfl, rfl⟩) | (go_at_call 19; refine (hA1.out w2 hM2).mono ?_; rintro e w7 ⟨rfl, hM7, k7⟩; replace a0 := k7.cell a0 (.inr rfl); replace a1 := k7.cell a1 (.inr rfl); replace a2 := k7.cell a2 (.inr rfl); replace a3 := k7.cell a3 (.inr rfl); have hS3 := HS.out.asked k2 k7 hM7) | (go_at_call 23; refine (hpl _).mono ?_; rintro e w7 ⟨rfl, k7⟩; replace a0 := k7.cell a0 (fun e => e); replace a1 := k7.cell a1 (fun e => e); replace a2 := k7.cell a2 (fun e => e); replace a3 := k7.cell a3 (fun e => e); replace hS3 := hS3.new k7))
          rw [show (s.log.length : Int) + 1 = (s'.log.length : Int) by rw [hlen]; omega]
          clear hlen h3I h3N
          have hn60 : s'.log.length ≤ 61 := by have := hR3.ln; omega
          have HR3 : Hid (Rise s' (k + 1)) := hR3
          have HS3 : Hid (AS w w7 u4 u5 ents mb s') := hS3
          have hl1 := plog hS3.mp (by omega)
          clear hS3 hR3 a0 a1 a2 a3
          generalize hL : s'.log = L at hl1 hn60 ⊢
          have HL : Hid (s'.log = L) := hL
          clear hL
          go_wp2_with (first | (go_at_call 20; refine hl1.mono ?_; clear hl1; rintro e w4 ⟨vl, rfl, ol, k4⟩; obtain ⟨vw, w5, hap5, ow, k5⟩ := cp_run ((Keeps.refl (fun _ => False) w4).alloc (.cells #[] 56)) (heap_alloc_new w4 _) (Nat.le_refl _) ol (by omega); obtain ⟨al, cl, rfl, hal, hgl⟩ := own_at ol rfl; obtain ⟨aw, cw, rfl, haw, hgw⟩ := own_at ow rfl; have hl2 := plog (HS3.out.new (k4.trans k5)).mp (by rw [HL.out]; omega); rw [HL.out] at hl2) | (at_builtin; refine wpList_append_run rfl _ _ _ rfl _ _ _ w5 rfl rfl hap5 ?_; clear hap5) | (go_at_call 20; refine hl2.mono ?_; clear hl2; rintro e w6 ⟨vq, rfl, oq, k6⟩; obtain ⟨aq, cq, rfl, haq, hgq⟩ := own_at oq rfl))
          have OL6 := (k5.trans k6).owns ol (fun _ _ e => e)
          have HOL : Hid (w6.ownsRow w7.heap.size 56 7 (.slice al L.length cl) L.length (fl rcells L)) := OL6
          have HRW : Hid (RowsAt w6 aw L) := haw.keeps k6 (fun _ _ e => e)
          have HRQ : Hid (RowsAt w6 aq L) := haq
          have s4 := k4.size
          have s5 := k5.size
          have s6 := k6.size
          have HGL : Hid (∀ g, al = some ⟨g, 0, none⟩ → w7.heap.size ≤ g ∧ g < w4.heap.size) := fun g e => ⟨(hgl g e).2, owns_lt' ol g (hgl g e).1⟩
          have HGO : Hid (∀ g, (Value.slice al L.length cl).ownBlock = some g → w7.heap.size ≤ g ∧ g < w4.heap.size) := fun g e => ⟨own_lo ol e, owns_lt' ol g e⟩
          have HGW : Hid (∀ g, aw = some ⟨g, 0, none⟩ → w4.heap.size ≤ g ∧ g < w5.heap.size) := fun g e => ⟨(hgw g e).2, owns_lt' ow g (hgw g e).1⟩
          have HGQ : Hid (∀ g, aq = some ⟨g, 0, none⟩ → w5.heap.size ≤ g ∧ g < w6.heap.size) := fun g e => ⟨(hgq g e).2, owns_lt' oq g (hgq g e).1⟩
          have K46 : Keeps (fun _ => False) w7 w6 := k4.trans (k5.trans k6)
          clear ol ow oq hal haw haq hgl hgw hgq OL6 k4 k5 k6
          obtain ⟨wo, hwo⟩ : ∃ wo, Hid (wo = wr) := ⟨_, rfl⟩
          rw [← hwo.out]
          go_loopw [14] (fun i W => ∃ t : Nat, t ≤ L.length ∧ i = .int .i64 (t : Int) ∧ Keeps (fun g => (Value.slice al L.length cl).ownBlock = some g) w6 W ∧ W.ownsRow w7.heap.size 56 7 (.slice al L.length cl) L.length (fl rcells (mkl k L t))) (fun i _ => L.length - (intOf i).toNat)
          case atStart => exact ⟨0, Nat.zero_le _, rfl, Keeps.refl _ _, HOL.out⟩
          case round =>
            obtain ⟨t, htn, rfl, kI, hO⟩ := hrel
            by_cases htl : t < L.length
            · have htI : (t : Int) < (L.length : Int) := by omega
              have ht0 : (0 : Int) ≤ (t : Int) := by omega
              obtain ⟨gl, rfl⟩ : ∃ gl, al = some ⟨gl, 0, none⟩ := by
                rcases hO.2 with ⟨h, h0⟩ | ⟨g, c, cur, h, _⟩
                · omega
                · cases h; exact ⟨g, rfl⟩
              obtain ⟨gw, rfl, _, hrw⟩ := HRW.out.resolve_left (by omega)
              obtain ⟨gq, rfl, _, hrq⟩ := HRQ.out.resolve_left (by omega)
              have b1 := HGL.out gl rfl
              have b2 := HGW.out gw rfl
              have b3 := HGQ.out gq rfl
              have RW := (hrw t htl).keep kI (fun e => absurd (show gl = gw by simpa [Value.ownBlock] using e) (by omega))
              have RQ := (hrq t htl).keep kI (fun e => absurd (show gl = gq by simpa [Value.ownBlock] using e) (by omega))
              have hml : t < (mkl k L t).length := by rw [mkl_len]; exact htl
              have RL := owns_row hO (g := gl) rfl hml
              have hNE : Nonempty (KS wr) := ⟨⟨wr, Keeps.refl _ wr⟩⟩
              have w0' := ks_cell RW.r0
              have w1' := ks_cell RW.r1
              have w2' := ks_cell RW.r2
              have w3' := ks_cell RW.r3
              have w4' := ks_cell RW.r4
              have w5' := ks_cell RW.r5
              have w6' := ks_cell RW.r6
              have q0' := ks_cell RQ.r0
              have q1' := ks_cell RQ.r1
              have q2' := ks_cell RQ.r2
              have q3' := ks_cell RQ.r3
              have q4' := ks_cell RQ.r4
              have q5' := ks_cell RQ.r5
              have q6' := ks_cell RQ.r6
              by_cases hz : t = 0
              · subst hz
                generalize ra L 0 = r at *
                simp only [Nat.zero_mul, Nat.zero_add] at w0' w1' w2' w3' w4' w5' w6' q0' q1' q2' q3' q4' q5' q6'
                go_wp2
                refine wp_region_ks (by kernel_rfl) (by kernel_rfl) ?_
                repeat (go_big_quiet_step (fail))
                refine wpQuiet_nil ?_
                rintro _ ⟨u, rfl⟩
                have hO2 := u.property.owns hO (fun _ _ e => e)
                have hst := st7 hO2 hml (mkr k 0)
                have fz := fun o => frozen_own hO2 o
                have RL2 := RL.keep u.property (fun e => e)
                obtain ⟨l0, l1, l2, l3, l4, l5, l6⟩ := RL2
                (try simp only [Nat.zero_mul, Nat.zero_add] at l0 l1 l2 l3 l4 l5 l6)
                have kI2 := kI.trans' u.property (fun _ _ e => e) (fun _ _ e => e.elim)
                clear w0' w1' w2' w3' w4' w5' w6' q0' q1' q2' q3' q4' q5' q6' hNE RL RW RQ hrw hrq
                generalize u.val = wu at *
                go_wp2
                go_roundw
                case rel =>
                  refine ⟨0 + 1, by omega, by go_num, kI2.trans' hst.2 (fun _ _ e => e) (fun g _ e => by subst e; rfl), hst.1⟩
                case measure => simp [intOf]; omega
              · have hzI : (0 : Int) < (t : Int) := by omega
                obtain ⟨t', rfl⟩ : ∃ t', t = t' + 1 := ⟨t - 1, by omega⟩
                have RV := (hrw t' (by omega)).keep kI (fun e => absurd (show gl = gw by simpa [Value.ownBlock] using e) (by omega))
                have hup : ¬ (ra L (t' + 1)).step ≤ (ra L t').step := by
                  have := HR3.out.up (t' + 1) (by omega) (by rw [HL.out]; exact htl)
                  rw [HL.out] at this
                  simp only [Nat.add_sub_cancel] at this
                  omega
                have v0' := ks_cell RV.r0
                generalize ra L (t' + 1) = r at *
                generalize ra L t' = rp at *
                go_wp2
                clear RV
                refine wp_region_ks (by kernel_rfl) (by kernel_rfl) ?_
                repeat (go_big_quiet_step (fail))
                refine wpQuiet_nil ?_
                rintro _ ⟨u, rfl⟩
                have hO2 := u.property.owns hO (fun _ _ e => e)
                have hst := st7 hO2 hml (mkr k (t' + 1))
                have fz := fun o => frozen_own hO2 o
                have RL2 := RL.keep u.property (fun e => e)
                obtain ⟨l0, l1, l2, l3, l4, l5, l6⟩ := RL2
                (try simp only [Nat.zero_mul, Nat.zero_add] at l0 l1 l2 l3 l4 l5 l6)
                have kI2 := kI.trans' u.property (fun _ _ e => e) (fun _ _ e => e.elim)
                clear w0' w1' w2' w3' w4' w5' w6' q0' q1' q2' q3' q4' q5' q6' hNE RL RW RQ hrw hrq
                generalize u.val = wu at *
                go_wp2
                go_roundw
                case rel =>
                  refine ⟨(t' + 1) + 1, by omega, by go_num, kI2.trans' hst.2 (fun _ _ e => e) (fun g _ e => by subst e; rfl), hst.1⟩
                case measure => simp [intOf]; omega
            · have htI : ¬ (t : Int) < (L.length : Int) := by omega
              have hM : (mkl k L t).length = L.length := mkl_len k L t
              generalize mkl k L t = M at hO hM
              clear htn htl
              obtain ⟨v8, w8, hap8, hm8, hO8, k8⟩ := more_run hO (by have := kI.size; omega) (by omega) ⟨-1000 - (k : Int), 0, 0, 0, 0, 0, false⟩ ⟨-2000 - (k : Int), 0, 0, 0, 0, 0, false⟩
              have K68 : Keeps (fun g => (Value.slice al L.length cl).ownBlock = some g) w6 w8 := kI.trans' k8 (fun _ _ e => e) (fun _ _ e => e)
              have K78 : Keeps (fun _ => False) w7 w8 := K46.trans' K68 (fun _ _ e => e) (fun i hi e => by have := HGO.out i e; omega)
              have hS7 := HS3.out
              have l4 : ∀ g, u4.ownBlock = some g → g < w7.heap.size := fun g e => hS7.ltE (.inl e)
              have l5 : ∀ g, u5.ownBlock = some g → g < w7.heap.size := fun g e => hS7.ltE (.inr (.inl e))
              have o4 := K78.owns hS7.rk (fun _ _ e => e)
              have o5 := K78.owns hS7.rm (fun _ _ e => e)
              have hM2 : L.length + 2 = (M ++ [(⟨-1000 - (k : Int), 0, 0, 0, 0, 0, false⟩ : Rw), ⟨-2000 - (k : Int), 0, 0, 0, 0, 0, false⟩]).length := by simp [hM]
              generalize (M ++ [(⟨-1000 - (k : Int), 0, 0, 0, 0, 0, false⟩ : Rw), ⟨-2000 - (k : Int), 0, 0, 0, 0, 0, false⟩]) = M2 at hm8 hM2
              obtain ⟨a8, c8, rfl, -, -⟩ := own_at hm8 hM2.symm
              obtain ⟨vk', w9, hap9, h9, k9, n9⟩ := two_run o4 (by omega) (x := .slice al L.length cl) (y := .slice a8 (L.length + 2) c8) rfl rfl
              have hO9 := k9.owns hO8 (fun g e e' => by have := own_lo hO8 e; have := l4 g e'; omega)
              have hm9 := k9.owns hm8 (fun g e e' => by have := own_lo hm8 e; have := l4 g e'; omega)
              have o59 := k9.owns o5 (fun g e e' => hS7.e2 g e' e)
              obtain ⟨v10, w10, hap10, h10, k10⟩ := cp_run ((Keeps.refl (fun _ => False) w9).alloc (.cells #[] 56)) (heap_alloc_new w9 _) (Nat.le_refl _) hO9 (by omega)
              obtain ⟨v11, w11, hap11, h11, k11⟩ := cp_run ((Keeps.refl (fun _ => False) w10).alloc (.cells #[] 56)) (heap_alloc_new w10 _) (Nat.le_refl _) (k10.owns hm9 (fun _ _ e => e)) (by omega)
              obtain ⟨a10, c10, rfl, -, -⟩ := own_at h10 hM
              obtain ⟨a11, c11, rfl, -, -⟩ := own_at h11 hM2.symm
              obtain ⟨vm', w12, hap12, h12, k12, n12⟩ := two_run ((k10.trans k11).owns o59 (fun _ _ e => e)) (by omega) (x := .slice a10 L.length c10) (y := .slice a11 (L.length + 2) c11) rfl rfl
              obtain ⟨⟨x, y, hS12⟩, K612⟩ := AS.fin (M := M) (M2 := M2) (by rw [hM]) hM2 hM.symm (by omega) hS7 K46 kI (fun g e => (HGL.out g e).1) hO8 hm8 k8 h9 k9 n9 h10 k10 h11 k11 h12 k12 n12
              have HAW : Hid (RowsAt w12 aw L) := HRW.out.keeps K612 (fun g e => by
                have := HGW.out g e
                rintro (e | e | e)
                · have := HGO.out g e; omega
                · have := l4 g e; omega
                · have := l5 g e; omega)
              have HAQ : Hid (RowsAt w12 aq L) := HRQ.out.keeps K612 (fun g e => by
                have := HGQ.out g e
                rintro (e | e | e)
                · have := HGO.out g e; omega
                · have := l4 g e; omega
                · have := l5 g e; omega)
              clear hO8 hm8 k8 h9 k9 n9 h10 k10 h11 k11 h12 k12 n12 K612 l4 l5 o4 o5 hO9 hm9 o59 K68 K78 hS7 kI hO HS3 HOL HRW HRQ HGL HGO HGW HGQ K46 s4 s5 s6 hM hM2
              have hEL : (ents ++ [x, y]).length ≤ 2 * (k + 1) := by simp; omega
              have hE0 : 0 < (ents ++ [x, y]).length := by simp
              generalize ents ++ [x, y] = E at *
              obtain ⟨gk, ck, rfl⟩ := own_some hS12.rk hE0
              obtain ⟨gm, cm, rfl⟩ := own_some hS12.rm hE0
              have HS12 : Hid (AS w w12 (.slice (some ⟨gk, 0, none⟩) E.length ck) (.slice (some ⟨gm, 0, none⟩) E.length cm) E mb s') := hS12
              clear hS12
              go_wp2_with (first | (at_builtin; refine wpList_append_run rfl _ _ _ rfl _ _ _ w8 rfl rfl hap8 ?_; clear hap8) | (at_builtin; refine wpList_append_run rfl _ _ _ rfl _ _ _ w9 rfl rfl hap9 ?_; clear hap9) | (at_builtin; refine wpList_append_run rfl _ _ _ rfl _ _ _ w10 rfl rfl hap10 ?_; clear hap10) | (at_builtin; refine wpList_append_run rfl _ _ _ rfl _ _ _ w11 rfl rfl hap11 ?_; clear hap11) | (at_builtin; refine wpList_append_run rfl _ _ _ rfl _ _ _ w12 rfl rfl hap12 ?_; clear hap12))
              go_loopw [16] (fun i W => ∃ t : Nat, t ≤ L.length ∧ i = .int .i64 (t : Int) ∧ Keeps (fun _ => False) w12 W) (fun i _ => L.length - (intOf i).toNat)
              case atStart => exact ⟨0, Nat.zero_le _, rfl, Keeps.refl _ _⟩
              case round =>
                obtain ⟨t3, htn, rfl, kI⟩ := hrel
                by_cases htl : t3 < L.length
                · have htI : (t3 : Int) < (L.length : Int) := by omega
                  have ht0 : (0 : Int) ≤ (t3 : Int) := by omega
                  obtain ⟨gw, rfl, _, hrw⟩ := HAW.out.resolve_left (by omega)
                  obtain ⟨gq, rfl, _, hrq⟩ := HAQ.out.resolve_left (by omega)
                  have RW := (hrw t3 htl).keep kI (fun e => e)
                  have RQ := (hrq t3 htl).keep kI (fun e => e)
                  clear hrw hrq
                  generalize ra L t3 = r at RW RQ
                  have w0' := ks_cell RW.r0
                  have w1' := ks_cell RW.r1
                  have w2' := ks_cell RW.r2
                  have w3' := ks_cell RW.r3
                  have w4' := ks_cell RW.r4
                  have w5' := ks_cell RW.r5
                  have w6' := ks_cell RW.r6
                  have q0' := ks_cell RQ.r0
                  have q1' := ks_cell RQ.r1
                  have q2' := ks_cell RQ.r2
                  have q3' := ks_cell RQ.r3
                  have q4' := ks_cell RQ.r4
                  have q5' := ks_cell RQ.r5
                  have q6' := ks_cell RQ.r6
                  have hNE : Nonempty (KS wr) := ⟨⟨wr, Keeps.refl _ wr⟩⟩
                  go_wp2
                  refine wp_region_ks (by kernel_rfl) (by kernel_rfl) ?_
                  repeat (go_big_quiet_step (fail))
                  refine wpQuiet_nil ?_
                  rintro _ ⟨u, rfl⟩
                  have kI2 := kI.trans u.property
                  clear w0' w1' w2' w3' w4' w5' w6' q0' q1' q2' q3' q4' q5' q6' hNE RW RQ
                  generalize u.val = wu at *
                  go_wp2
                  go_roundw
                  case rel => exact ⟨t3 + 1, by omega, by go_num, kI2⟩
                  case measure => simp [intOf]; omega
                · have htI : ¬ (t3 : Int) < (L.length : Int) := by omega
                  have hS13 := HS12.out.new kI
                  have hl3 := plog hS13.mp (by rw [HL.out]; omega)
                  have HS13 : Hid (AS w wr (.slice (some ⟨gk, 0, none⟩) E.length ck) (.slice (some ⟨gm, 0, none⟩) E.length cm) E mb s') := hS13
                  have HAX : Hid (RowsAt wr aw L) := HAW.out.keeps kI (fun _ _ e => e)
                  rw [HL.out] at hl3
                  clear hS13 HAW HAQ HS12 kI htn htl
                  go_wp2_with ((go_at_call 20; refine hl3.mono ?_; clear hl3; rintro e w13 ⟨vn, rfl, on, k13⟩; obtain ⟨an, cn, rfl, han, -⟩ := own_at on rfl))
                  have HSd : Hid (AS w w13 (.slice (some ⟨gk, 0, none⟩) E.length ck) (.slice (some ⟨gm, 0, none⟩) E.length cm) E mb s') := HS13.out.new k13
                  have HBW : Hid (RowsAt w13 aw L) := HAX.out.keeps k13 (fun _ _ e => e)
                  have HBN : Hid (RowsAt w13 an L) := han
                  clear HS13 HAX han k13 on
                  go_loopw [18] (fun i W => ∃ t : Nat, t ≤ L.length ∧ i = .int .i64 (t : Int) ∧ Keeps (fun _ => False) w13 W) (fun i _ => L.length - (intOf i).toNat)
                  case atStart => exact ⟨0, Nat.zero_le _, rfl, Keeps.refl _ _⟩
                  case round =>
                    obtain ⟨t4, htn, rfl, kI⟩ := hrel
                    by_cases htl : t4 < L.length
                    · have htI : (t4 : Int) < (L.length : Int) := by omega
                      have ht0 : (0 : Int) ≤ (t4 : Int) := by omega
                      obtain ⟨gw, rfl, _, hrw⟩ := HBW.out.resolve_left (by omega)
                      obtain ⟨gq, rfl, _, hrq⟩ := HBN.out.resolve_left (by omega)
                      have RW := (hrw t4 htl).keep kI (fun e => e)
                      have RQ := (hrq t4 htl).keep kI (fun e => e)
                      clear hrw hrq
                      generalize ra L t4 = r at RW RQ
                      have w0' := ks_cell RW.r0
                      have w1' := ks_cell RW.r1
                      have w2' := ks_cell RW.r2
                      have w3' := ks_cell RW.r3
                      have w4' := ks_cell RW.r4
                      have w5' := ks_cell RW.r5
                      have w6' := ks_cell RW.r6
                      have q0' := ks_cell RQ.r0
                      have q1' := ks_cell RQ.r1
                      have q2' := ks_cell RQ.r2
                      have q3' := ks_cell RQ.r3
                      have q4' := ks_cell RQ.r4
                      have q5' := ks_cell RQ.r5
                      have q6' := ks_cell RQ.r6
                      have hNE : Nonempty (KS wr) := ⟨⟨wr, Keeps.refl _ wr⟩⟩
                      go_wp2
                      refine wp_region_ks (by kernel_rfl) (by kernel_rfl) ?_
                      repeat (go_big_quiet_step (fail))
                      refine wpQuiet_nil ?_
                      rintro _ ⟨u, rfl⟩
                      have kI2 := kI.trans u.property
                      clear w0' w1' w2' w3' w4' w5' w6' q0' q1' q2' q3' q4' q5' q6' hNE RW RQ
                      generalize u.val = wu at *
                      go_wp2
                      go_roundw
                      case rel => exact ⟨t4 + 1, by omega, by go_num, kI2⟩
                      case measure => simp [intOf]; omega
                    · have htI : ¬ (t4 : Int) < (L.length : Int) := by omega
                      clear htn htl
                      have HSe : Hid (AS w wr (.slice (some ⟨gk, 0, none⟩) E.length ck) (.slice (some ⟨gm, 0, none⟩) E.length cm) E mb s') := HSd.out.new kI
                      clear HBW HBN HSd kI
                      obtain ⟨w14, rfl⟩ : ∃ w14, w14 = wr := ⟨_, rfl⟩
                      go_wp2
                      go_loopw [19, 20] (fun i _ W => ∃ t : Nat, t ≤ E.length ∧ i = .int .i64 (t : Int) ∧ Keeps (fun _ => False) w14 W) (fun i _ _ => E.length - (intOf i).toNat)
                      case atStart => exact ⟨0, Nat.zero_le _, rfl, Keeps.refl _ _⟩
                      case round =>
                        obtain ⟨j, hjn, rfl, kJ⟩ := hrel
                        by_cases hjl : j < E.length
                        · have hjI : (j : Int) < (E.length : Int) := by omega
                          have hj0 : (0 : Int) ≤ (j : Int) := by omega
                          obtain ⟨e, he⟩ : ∃ e, E[j]? = some e := ⟨E[j], List.getElem?_eq_getElem hjl⟩
                          have hSj := HSe.out.new kJ
                          have ck0 := own_cell hSj.rk j e.k (by simp [he])
                          have cm0 := own_cell hSj.rm j e.m (by simp [he])
                          obtain ⟨rk0, rm0⟩ := hSj.ea j e he
                          have hle := hSj.el j e he
                          obtain ⟨ka, kc, ma, mc, Le⟩ := e
                          have HK0 : Hid (RowsAt wr ka Le) := rk0
                          have HM0 : Hid (RowsAt wr ma Le) := rm0
                          simp only [En.k, En.m] at ck0 cm0 hle
                          clear hSj rk0 rm0 he
                          obtain ⟨wj, rfl⟩ : ∃ wj, wj = wr := ⟨_, rfl⟩
                          go_wp2
                          go_loopw [20] (fun i W => ∃ t : Nat, t ≤ Le.length ∧ i = .int .i64 (t : Int) ∧ Keeps (fun _ => False) wj W) (fun i _ => Le.length - (intOf i).toNat)
                          case atStart => exact ⟨0, Nat.zero_le _, rfl, Keeps.refl _ _⟩
                          case round =>
                            obtain ⟨n6, htn, rfl, kI⟩ := hrel
                            replace ck0 := kI.cell ck0 (fun e => e)
                            replace cm0 := kI.cell cm0 (fun e => e)
                            by_cases htl : n6 < Le.length
                            · have htI : (n6 : Int) < (Le.length : Int) := by omega
                              have ht0 : (0 : Int) ≤ (n6 : Int) := by omega
                              obtain ⟨gw, rfl, _, hrw⟩ := HK0.out.resolve_left (by omega)
                              obtain ⟨gq, rfl, _, hrq⟩ := HM0.out.resolve_left (by omega)
                              have RW := (hrw n6 htl).keep kI (fun e => e)
                              have RQ := (hrq n6 htl).keep kI (fun e => e)
                              clear hrw hrq
                              have ck0' := ks_cell ck0
                              have cm0' := ks_cell cm0
                              generalize ra Le n6 = r at RW RQ
                              have w0' := ks_cell RW.r0
                              have w1' := ks_cell RW.r1
                              have w2' := ks_cell RW.r2
                              have w3' := ks_cell RW.r3
                              have w4' := ks_cell RW.r4
                              have w5' := ks_cell RW.r5
                              have w6' := ks_cell RW.r6
                              have q0' := ks_cell RQ.r0
                              have q1' := ks_cell RQ.r1
                              have q2' := ks_cell RQ.r2
                              have q3' := ks_cell RQ.r3
                              have q4' := ks_cell RQ.r4
                              have q5' := ks_cell RQ.r5
                              have q6' := ks_cell RQ.r6
                              have hNE : Nonempty (KS wr) := ⟨⟨wr, Keeps.refl _ wr⟩⟩
                              go_wp2
                              refine wp_region_ks (by kernel_rfl) (by kernel_rfl) ?_
                              repeat (go_big_quiet_step (fail))
                              refine wpQuiet_nil ?_
                              rintro _ ⟨u, rfl⟩
                              have kI2 := kI.trans u.property
                              clear w0' w1' w2' w3' w4' w5' w6' q0' q1' q2' q3' q4' q5' q6' hNE RW RQ
                              generalize u.val = wu at *
                              go_wp2
                              go_roundw
                              case rel => exact ⟨n6 + 1, by omega, by go_num, kI2⟩
                              case measure => simp [intOf]; omega
                            · have htI : ¬ (n6 : Int) < (Le.length : Int) := by omega
                              have kJ2 := kJ.trans kI
                              go_wp2
                              go_roundw
                              case rel => exact ⟨j + 1, by omega, by go_num, kJ2⟩
                              case measure => simp [intOf]; omega
                        · have hjI : ¬ (j : Int) < (E.length : Int) := by omega
                          have HSf : Hid (AS w wr (.slice (some ⟨gk, 0, none⟩) E.length ck) (.slice (some ⟨gm, 0, none⟩) E.length cm) E mb s') := HSe.out.new kJ
                          clear HSe kJ hjn hjl
                          go_wp2
                          go_roundw
                          case rel => exact ⟨k + 1, s', E, by omega, by omega, by go_num, by rw [HL.out], hEL, HR3.out, HSf.out⟩
                          case measure => simp [intOf]; omega
    · have hltI : ¬ (k : Int) < (l.length : Int) := by omega
      have hbw := hS.mp.keeps
      go_wp2
      go_ret
      exact ⟨rfl, hbw.below (by rw [hsz]; exact Nat.le_refl _) (fun _ _ e => e)⟩
end Go.Proofs.Ytepolcnplchfbaa
