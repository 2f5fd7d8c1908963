import Derived.Test.YtagplkgjdaojnaaTabAp
namespace Go.Proofs.Ytagplkgjdaojnaa
open Go.RowKit
attribute [local go_sem] Oper.semAt_some

theorem hld_add (rs : List Rd) (ob ver : Int) (k : Int) : hld (add rs ob ver) k ↔ hld rs k ∨ k = ob := by
  constructor
  · rintro ⟨j, r, h1, h2, h3⟩
    unfold add at h1
    by_cases c : j < rs.length
    · rw [List.getElem?_append_left c] at h1; exact .inl ⟨j, r, h1, h2, h3⟩
    · rw [List.getElem?_append_right (by omega)] at h1
      have h0 : j - rs.length = 0 := by have := (List.getElem?_eq_some_iff.1 h1).1; simp at this; omega
      rw [h0] at h1
      simp at h1
      subst h1
      exact .inr h3.symm
  · rintro (⟨j, r, h1, h2, h3⟩ | rfl)
    · exact ⟨j, r, by unfold add; rw [List.getElem?_append_left (List.getElem?_eq_some_iff.1 h1).1]; exact h1, h2, h3⟩
    · exact ⟨rs.length, ⟨k, ver, 1⟩, by simp [add], rfl, rfl⟩
theorem hld_out {rs : List Rd} (h : Gd rs) {j f : Nat} {r : Rd} (hj : rs[j]? = some r) (h1 : r.fate = 1) (hf : f = 2 ∨ f = 3) : ¬ hld (rs.set j (r.to f)) r.ob := by
  rintro ⟨i, s, h2, h3, h4⟩
  have hl : j < rs.length := (List.getElem?_eq_some_iff.1 hj).1
  rw [List.getElem?_set] at h2
  split at h2
  · cases h2
    simp [Rd.to] at h3
    omega
  · rename_i c
    exact c (h.one j i r s hj h2 h1 h3 h4.symm)
theorem i64_wrap (a : Int) : I64 (IntKind.i64.wrap a) := by
  rw [IntKind.wrap_i64]
  unfold I64
  omega

set_option maxHeartbeats 12800000 in
set_option maxRecDepth 1000000 in
theorem apart_walk {w : World} {a0 : Option Addr} {l : List Ac} (hl : AL w a0 l) (hok : ∀ q ∈ l, q.ok) (_hb : l.length ≤ 9223372036854775807) (cap0 : Nat) {a1 : Option Addr} {l1 : List Ac} (hl1 : AL w a1 l1) (hok1 : ∀ q ∈ l1, q.ok) (hb1 : l1.length ≤ 9223372036854775807) (cap1 : Nat) :
    Calls Try.prog 6 #[.slice a0 l.length cap0, .slice a1 l1.length cap1] w fun e w' => e = .returned (.bool true) ∧ Below w.heap.size w w' := by
  go_enter Try.func6, Try.ntmps6
  go_wp2_with fail
  refine (new_any _).mono ?_
  rintro e w1 ⟨rfl, h1, k1⟩
  have C := add_ok h1 (ob := 2199023255552) (ver := 5) (by constructor <;> decide) (by constructor <;> decide) (by rintro ⟨j, r, h, _⟩; simp at h) (by simp)
  simp only [List.length_nil] at C
  go_wp2_with fail
  refine C.mono ?_
  rintro e w2 ⟨rfl, T0, hT0, hL0⟩
  clear C
  have hnb : ∀ k, (⟨w.heap.size, .slice none 0 0, none, .slice none 0 0⟩ : Tk).Blk k → w.heap.size ≤ k := fun k e => by
    rcases e with e | e | e | e
    · simp only at e; omega
    · cases e
    · cases e
    · cases e
  have K2 : Keeps (fun _ => False) w w2 := k1.trans' hL0.kp (fun _ _ e => e) (fun k hk e => by have := hnb k e; omega)
  have hB2 : ∀ k, T0.Blk k → w.heap.size ≤ k := fun k hk => by
    rcases hL0.bk k hk with x | x
    · exact hnb k x
    · have := k1.size; omega
  have htb0 : T0.tb = w.heap.size := hL0.tb
  clear hnb h1 k1 hL0
  go_wp2_with fail
  go_loopw [8] (fun iv W => ∃ (i : Nat) (rs : List Rd) (T : Tk), iv = .int .i64 (i : Int) ∧ i ≤ 200 ∧ rs.length ≤ i + 1 ∧ T.tb = w.heap.size ∧ TV W T rs ∧ (∀ k, T.Blk k → w.heap.size ≤ k) ∧ Keeps (fun _ => False) w W) (fun iv _ => 200 - (intOf iv).toNat)
  case atStart => exact ⟨0, _, T0, rfl, by omega, by simp [add], htb0, hT0, hB2, K2⟩
  case round =>
    clear hT0 K2 hB2 htb0
    obtain ⟨i, rs, T, rfl, hi2, hNi, htb, hT, hB, hK⟩ := hrel
    by_cases hgo : i < l.length ∧ i < 200
    · have hltI : (i : Int) < (l.length : Int) := by omega
      have h2I : (i : Int) < 200 := by omega
      have hi0 : (0 : Int) ≤ (i : Int) := by omega
      have hq := hok (aa l i) (by unfold aa; rw [List.getD_eq_getElem?_getD, List.getElem?_eq_getElem hgo.1]; exact List.getElem_mem _)
      obtain ⟨b0, off, rfl, hb0, hc0⟩ := hl.some (by omega)
      obtain ⟨d0, d1, d2, d3⟩ := hc0 i hgo.1
      generalize aa l i = q at *
      obtain ⟨kd, who, ob, ver⟩ := q
      obtain ⟨qk, qw, qo, qv⟩ := hq
      simp only at d0 d1 d2 d3 qk qo qv
      have f0 := hK.cell d0 (fun e => e)
      have f2 := hK.cell d2 (fun e => e)
      have f3 := hK.cell d3 (fun e => e)
      have C := step_any (kind := kd) (hT.new ((Keeps.refl (fun _ => False) wr).drew)) qo qv (by omega)
      rw [htb] at C
      clear hc0 hT
      go_wp2_with fail
      go_region_held3 (fun w' => w'.cell? ⟨b0, off + i * 4, none⟩ = some (.int .i64 kd) ∧ w'.cell? ⟨b0, off + i * 4 + 2, none⟩ = some (.int .i64 ob) ∧ w'.cell? ⟨b0, off + i * 4 + 3, none⟩ = some (.int .i64 ver)) (go_keep) ((go_at_call 14; (with_reducible refine C.mono ?_); rintro e w5 ⟨rs', n, er, T', rfl, hS, hT', hL'⟩; clear C; have K5 : Keeps (fun _ => False) w w5 := hK.drew.trans' hL'.kp (fun _ _ e => e) (fun k hk e => absurd (hB k e) (by omega)); have g0 := K5.cell d0 (fun e => e); have g2 := K5.cell d2 (fun e => e); have g3 := K5.cell d3 (fun e => e)))
      have hB5 : ∀ k, T'.Blk k → w.heap.size ≤ k := fun k hk => by
        rcases hL'.bk k hk with x | x
        · exact hB k x
        · have := hK.size; simp at x; omega
      have htb' : T'.tb = w.heap.size := hL'.tb.trans htb
      have hlen := hS.len
      clear hL' hB hK hS
      go_wp2_with fail
      go_roundw
      case rel => exact ⟨i + 1, rs', T', by go_num, by omega, by omega, htb', hT', hB5, K5⟩
      case measure => simp [intOf]; omega
    · by_cases h1 : i < l.length
      · have hltI : (i : Int) < (l.length : Int) := by omega
        have h2I : ¬ (i : Int) < 200 := by omega
        have hn9 : rs.length ≤ 201 := by omega
        have CE := entries_any hT (by omega)
        rw [htb] at CE
        obtain ⟨N, hN⟩ : ∃ N, Hid (N = rs.length) := ⟨_, rfl⟩
        obtain ⟨L, hL⟩ : ∃ L, Hid (L = (es rs).length) := ⟨_, rfl⟩
        have hLN : L ≤ N := by rw [hL.out, hN.out]; exact es_len rs
        have hN2 : N ≤ 201 := by rw [hN.out]; exact hn9
        rw [← hL.out] at CE
        go_wp2_with fail
        refine CE.mono ?_
        rintro e w5 ⟨v5, rfl, o5, k5⟩
        clear CE
        obtain ⟨a9, c9, rfl, -⟩ := owns_form o5
        have hT5 := hT.new k5
        have CA := added_any hT5
        have CC := fun W (K : Keeps (fun _ => False) w5 W) => copy_any (hT5.new K) (by omega)
        rw [htb] at CA CC
        rw [← hN.out] at CA
        go_wp2_with fail
        refine CA.mono ?_
        rintro e w6 ⟨rfl, hw6⟩
        have k56 : Keeps (fun _ => False) w5 w6 := by rw [hw6]; exact Keeps.refl _ _
        clear hw6 CA
        go_wp2_with fail
        refine (CC _ k56).mono ?_
        rintro e w7 ⟨T2, rfl, hT2, k67, hB2⟩
        clear CC
        have k57 := k56.trans k67
        have K5 := hK.trans k5
        have sz5 := k5.size
        have sz6 := k56.size
        have szK := hK.size
        have hA7 : Ap w w7 T T2 rs rs (.slice a9 L c9) (.slice none 0 0) (es rs) [] := by
          refine ⟨hT5.new k57, hT2, fun k e e' => ?_, ?_, World.ownsRow_nil _ _ _ _, fun g e => ⟨fun e' => ?_, fun e' => ?_⟩, fun g e => (by cases e), fun k e => ?_, K5.trans k57⟩
          · have := hB2 k e'; have := hT5.lt e; omega
          · rw [← hL.out]; exact k57.owns (owns_base o5) (fun _ _ e => e)
          · have := (o5.lt g e).1; have := hT.lt e'; omega
          · have := hB2 g e'; have := owns_lt' o5 g e; omega
          · rcases e with e | e
            · exact hB k e
            · have := hB2 k e; omega
        obtain ⟨tc, htc⟩ : ∃ tc, T2.tb = tc := ⟨_, rfl⟩
        rw [htc]
        have hLNb : decide ((N : Int) < (L : Int)) = false := by simp; omega
        have hLNc : decide (N < L) = false := by simp; omega
        clear hT hB hK o5 k5 hT5 k56 k67 hB2 hT2 k57 K5 sz5 sz6 szK
        go_wp2_with fail
        obtain ⟨R0, hR0⟩ : ∃ R0, R0 = rs := ⟨_, rfl⟩
        rw [← hR0] at hA7 hN hL
        go_loopw [12] (fun iv W => ∃ (i : Nat) (rs1 : List Rd) (T1 : Tk), iv = .int .i64 (i : Int) ∧ i ≤ 200 ∧ rs1.length ≤ i + 201 ∧ T1.tb = w.heap.size ∧ Ap w W T1 T2 rs1 R0 (.slice a9 L c9) (.slice none 0 0) (es R0) []) (fun iv _ => 200 - (intOf iv).toNat)
        case atStart => exact ⟨0, R0, T, rfl, by omega, by rw [← hN.out]; omega, htb, hA7⟩
        case round =>
          clear hA7 hR0 htb
          obtain ⟨i, rs1, T1, rfl, hi2, hNi, htb, hA⟩ := hrel
          by_cases hgo : i < l1.length ∧ i < 200
          · have hltI : (i : Int) < (l1.length : Int) := by omega
            have h2I : (i : Int) < 200 := by omega
            have hi0 : (0 : Int) ≤ (i : Int) := by omega
            have hq := hok1 (aa l1 i) (by unfold aa; rw [List.getD_eq_getElem?_getD, List.getElem?_eq_getElem hgo.1]; exact List.getElem_mem _)
            obtain ⟨b0, off, rfl, hb0, hc0⟩ := hl1.some (by omega)
            obtain ⟨d0, d1, d2, d3⟩ := hc0 i hgo.1
            generalize aa l1 i = q at *
            obtain ⟨kd, who, ob, ver⟩ := q
            obtain ⟨qk, qw, qo, qv⟩ := hq
            simp only at d0 d1 d2 d3 qk qo qv
            have f0 := hA.kp.cell d0 (fun e => e)
            have f2 := hA.kp.cell d2 (fun e => e)
            have f3 := hA.kp.cell d3 (fun e => e)
            have hAd := hA.new ((Keeps.refl (fun _ => False) wr).drew)
            have C := step_any (kind := kd) hAd.t1 qo qv (by omega)
            rw [htb] at C
            clear hc0
            go_wp2_with fail
            go_region_held3 (fun w' => w'.cell? ⟨b0, off + i * 4, none⟩ = some (.int .i64 kd) ∧ w'.cell? ⟨b0, off + i * 4 + 2, none⟩ = some (.int .i64 ob) ∧ w'.cell? ⟨b0, off + i * 4 + 3, none⟩ = some (.int .i64 ver)) (go_keep) ((go_at_call 14; (with_reducible refine C.mono ?_); rintro e w8 ⟨rs', n, er, T', rfl, hS, hT', hL'⟩; clear C; have hA8 := hAd.call1 hT' hL'; have g0 := hA8.kp.cell d0 (fun e => e); have g2 := hA8.kp.cell d2 (fun e => e); have g3 := hA8.kp.cell d3 (fun e => e)))
            have htb' : T'.tb = w.heap.size := hL'.tb.trans htb
            have hlen := hS.len
            clear hL' hAd hA hS hT'
            go_wp2_with fail
            go_roundw
            case rel => exact ⟨i + 1, rs', T', by go_num, by omega, by omega, htb', hA8⟩
            case measure => simp [intOf]; omega
          · by_cases h1 : i < l1.length
            · have hltI : (i : Int) < (l1.length : Int) := by omega
              have h2I : ¬ (i : Int) < 200 := by omega
              have hn1 : rs1.length ≤ 401 := by omega
              have hR9 : R0.length ≤ 4398046511200 := by rw [← hN.out]; omega
              have CH := holds_any hA.t2 hL.out (by have := hA.o9; rw [← hL.out] at this; exact this) hR9 hN.out
              rw [htc] at CH
              go_wp2_with fail
              refine CH.mono ?_
              rintro e w5 ⟨rfl, k5⟩
              clear CH
              have hA5 := hA.new k5
              have CE := entries_any hA5.t1 (by omega)
              rw [htb] at CE
              obtain ⟨N1, hN1⟩ : ∃ N1, Hid (N1 = rs1.length) := ⟨_, rfl⟩
              obtain ⟨L1, hL1⟩ : ∃ L1, Hid (L1 = (es rs1).length) := ⟨_, rfl⟩
              rw [← hL1.out] at CE
              have hN1b : N1 ≤ 401 := by rw [hN1.out]; exact hn1
              clear hA
              go_wp2_with fail
              refine CE.mono ?_
              rintro e w6 ⟨v6, rfl, o6, k6⟩
              clear CE
              obtain ⟨a13, c13, rfl, -⟩ := owns_form o6
              have hA6 := hA5.new k6
              have hA6' : Ap w w6 T1 T2 rs1 R0 (.slice a9 L c9) (.slice a13 L1 c13) (es R0) (es rs1) := ⟨hA6.t1, hA6.t2, hA6.d, hA6.o9, by rw [← hL1.out]; exact owns_base o6, hA6.p9, fun g e => ⟨fun e' => by have := (o6.lt g e).1; have := hA5.t1.lt e'; omega, fun e' => by have := (o6.lt g e).1; have := hA5.t2.lt e'; omega⟩, hA6.lo, hA6.kp⟩
              have CA := added_any hA6'.t1
              rw [htb, ← hN1.out] at CA
              clear hA5 hA6 o6 k6 k5
              go_wp2_with fail
              refine CA.mono ?_
              rintro e w7 ⟨rfl, hw7⟩
              have hA7 : Ap w w7 T1 T2 rs1 R0 (.slice a9 L c9) (.slice a13 L1 c13) (es R0) (es rs1) := by rw [hw7]; exact hA6'
              clear CA hw7 hA6'
              go_wp2_with fail
              go_loopw [15] (fun iv W => ∃ (i n : Nat) (rs2 : List Rd) (Tc : Tk), iv = .int .i64 ((l1.length : Int) - 1 - (n : Int)) ∧ n ≤ 199 ∧ n ≤ l1.length ∧ i = l1.length - n ∧ rs2.length ≤ n + 201 ∧ Tc.tb = tc ∧ Ap w W T1 Tc rs1 rs2 (.slice a9 L c9) (.slice a13 L1 c13) (es R0) (es rs1)) (fun iv _ => (intOf iv + 1).toNat)
              case atStart => exact ⟨l1.length, 0, R0, T2, by simp, by omega, by omega, by omega, by rw [← hN.out]; omega, htc, hA7⟩
              case round =>
                clear hA7 htc
                obtain ⟨i, n, rs2, Tc, rfl, hn2, hnM, hin, hN2', htc, hA⟩ := hrel
                by_cases hgo : n < l1.length ∧ n < 199
                · obtain ⟨m, hm⟩ : ∃ m, Hid (l1.length = m + 1 + n) := ⟨l1.length - 1 - n, by show _ = _; omega⟩
                  have hmI : (l1.length : Int) - 1 - (n : Int) = (m : Int) := by have := hm.out; omega
                  rw [hmI]
                  have hm0 : (0 : Int) ≤ (m : Int) := by omega
                  have hmM : (m : Int) < (l1.length : Int) := by have := hm.out; omega
                  have hmg : (l1.length : Int) - 200 < (m : Int) := by have := hm.out; omega
                  have hm1 : m < l1.length := by have := hm.out; omega
                  have hq := hok1 (aa l1 m) (by unfold aa; rw [List.getD_eq_getElem?_getD, List.getElem?_eq_getElem hm1]; exact List.getElem_mem _)
                  obtain ⟨b0, off, rfl, hb0, hc0⟩ := hl1.some (by omega)
                  obtain ⟨d0, d1, d2, d3⟩ := hc0 m hm1
                  generalize aa l1 m = q at *
                  obtain ⟨kd, who, ob, ver⟩ := q
                  obtain ⟨qk, qw, qo, qv⟩ := hq
                  simp only at d0 d1 d2 d3 qk qo qv
                  have f0 := hA.kp.cell d0 (fun e => e)
                  have f2 := hA.kp.cell d2 (fun e => e)
                  have f3 := hA.kp.cell d3 (fun e => e)
                  have hAd := hA.new ((Keeps.refl (fun _ => False) wr).drew)
                  have C := step_any (kind := kd) (ver := IntKind.i64.wrap (ver + 1)) hAd.t2 qo (i64_wrap _) (by omega)
                  rw [htc] at C
                  clear hc0 hmI
                  go_wp2_with fail
                  go_region_held3 (fun w' => w'.cell? ⟨b0, off + m * 4, none⟩ = some (.int .i64 kd) ∧ w'.cell? ⟨b0, off + m * 4 + 2, none⟩ = some (.int .i64 ob) ∧ w'.cell? ⟨b0, off + m * 4 + 3, none⟩ = some (.int .i64 ver)) (go_keep) ((go_at_call 14; (with_reducible refine C.mono ?_); rintro e w8 ⟨rs', n', er, T', rfl, hS, hT', hL'⟩; clear C; have hA8 := hAd.call2 hT' hL'; have g0 := hA8.kp.cell d0 (fun e => e); have g2 := hA8.kp.cell d2 (fun e => e); have g3 := hA8.kp.cell d3 (fun e => e)))
                  have htb' : T'.tb = tc := hL'.tb.trans htc
                  have hlen := hS.len
                  clear hL' hAd hA hS hT'
                  go_wp2_with fail
                  go_roundw
                  case rel => exact ⟨l1.length - (n + 1), n + 1, rs', T', by have := hm.out; go_num, by omega, by omega, rfl, by omega, htb', hA8⟩
                  case measure => have := hm.out; simp [intOf] <;> omega
                · have hcond : n < l1.length ∧ n = 199 := by omega
                  have hn3 : rs2.length ≤ 400 := by omega
                  obtain ⟨z, hz⟩ : ∃ z : Int, Hid (z = (l1.length : Int) - 1 - (n : Int)) := ⟨_, rfl⟩
                  rw [← hz.out]
                  obtain ⟨hc1, hc2⟩ := hcond
                  have hzz : (0 : Int) ≤ z := by rw [hz.out]; omega
                  have hz2 : ¬ (l1.length : Int) - 200 < z := by rw [hz.out]; omega
                  have hz3 : decide ((l1.length : Int) - 200 < z) = false := by simpa using hz2
                  rcases hld_dec rs2 2199023255552 with hh | hh
                  · obtain ⟨j, r, r1, r2, r3⟩ := hh
                    have C := upgrade_ok hA.t2 r1 r2 (by omega)
                    rw [htc, r3] at C
                    replace C : ∃ eo ev' en : Int, Calls Try.prog 11 #[.pointer (some ⟨tc, 0, none⟩), .int .i64 2199023255552] wr fun e w' => e = .returned (.tuple #[.agg #[.int .i64 eo, .int .i64 ev', .int .i64 en], .int .i64 0]) ∧ ∃ T', TV w' T' (rs2.set j (r.to 3)) ∧ Lf wr w' Tc T' := ⟨_, _, _, C⟩
                    obtain ⟨eo, ev', en, C⟩ := C
                    go_wp2_with fail
                    refine C.mono ?_
                    rintro e w5 ⟨rfl, T', hT', hL'⟩
                    clear C
                    go_wp2_with fail
                    have hA5 := (hA.call2 hT' hL').new ((Keeps.refl (fun _ => False) w5).alloc (.cells #[.int .i64 eo, .int .i64 ev', .int .i64 en] 36))
                    have hnh : ¬ hld (rs2.set j (r.to 3)) 2199023255552 := r3 ▸ hld_out hA.t2.gd r1 r2 (.inr rfl)
                    have htc' : T'.tb = tc := hL'.tb.trans htc
                    have hls : (rs2.set j (r.to 3)).length ≤ 400 := by simpa using hn3
                    clear hA hT' hL' r1 r2
                    generalize rs2.set j (r.to 3) = rs3 at *
                    have C := add_ok hA5.t2 (ob := 2199023255552) (ver := 9) (by constructor <;> decide) (by constructor <;> decide) hnh (by omega)
                    rw [htc'] at C
                    obtain ⟨P, hP⟩ : ∃ P, Hid (P = rs3.length) := ⟨_, rfl⟩
                    rw [← hP.out] at C
                    have hP4 : P ≤ 400 := by rw [hP.out]; exact hls
                    refine C.mono ?_
                    rintro e w7 ⟨rfl, T'', hT'', hL''⟩
                    clear C
                    have hA7 := hA5.call2 hT'' hL''
                    have htc'' : T''.tb = tc := hL''.tb.trans htc'
                    have CH := holds_any hA7.t1 hL1.out (by have := hA7.o13; rw [← hL1.out] at this; exact this) (by omega) hN1.out
                    rw [htb] at CH
                    clear hT'' hL'' hA5 hnh
                    go_wp2_with fail
                    refine CH.mono ?_
                    rintro e w8 ⟨rfl, k8⟩
                    clear CH
                    have hA8 := hA7.new k8
                    have CA := added_any hA8.t2
                    rw [htc'', add_len, ← hP.out] at CA
                    have K8 := hA8.kp
                    have hPb : ((P : Int) == ((P + 1 : Nat) : Int) - 1) = true := by simp
                    clear hA7 hA8
                    go_wp2_with fail
                    refine CA.mono ?_
                    rintro e w9 ⟨rfl, hw9⟩
                    have K9 : Keeps (fun _ => False) w w9 := by rw [hw9]; exact K8
                    clear CA hw9
                    go_wp2_with fail
                    go_ret
                    exact ⟨rfl, K9.below (Nat.le_refl _) (fun _ _ e => e)⟩
                  · have C := upgrade_no hA.t2 (k := 2199023255552) (by constructor <;> decide) hh
                    rw [htc] at C
                    unfold ev0 at C
                    go_wp2_with fail
                    refine C.mono ?_
                    rintro e w5 ⟨rfl, k5⟩
                    clear C
                    go_wp2_with fail
                    have hA5 := (hA.new k5).new ((Keeps.refl (fun _ => False) w5).alloc (.cells #[.int .i64 0, .int .i64 0, .int .i64 0] 36))
                    have hnh := hh
                    have htc' := htc
                    have hls := hn3
                    obtain ⟨rs3, hrs3⟩ : ∃ rs3, rs3 = rs2 := ⟨_, rfl⟩
                    rw [← hrs3] at hA5 hnh hls
                    obtain ⟨T', hT'⟩ : ∃ T', T' = Tc := ⟨_, rfl⟩
                    rw [← hT'] at hA5 htc'
                    clear hA k5 hh hrs3 hT'
                    have C := add_ok hA5.t2 (ob := 2199023255552) (ver := 9) (by constructor <;> decide) (by constructor <;> decide) hnh (by omega)
                    rw [htc'] at C
                    obtain ⟨P, hP⟩ : ∃ P, Hid (P = rs3.length) := ⟨_, rfl⟩
                    rw [← hP.out] at C
                    have hP4 : P ≤ 400 := by rw [hP.out]; exact hls
                    refine C.mono ?_
                    rintro e w7 ⟨rfl, T'', hT'', hL''⟩
                    clear C
                    have hA7 := hA5.call2 hT'' hL''
                    have htc'' : T''.tb = tc := hL''.tb.trans htc'
                    have CH := holds_any hA7.t1 hL1.out (by have := hA7.o13; rw [← hL1.out] at this; exact this) (by omega) hN1.out
                    rw [htb] at CH
                    clear hT'' hL'' hA5 hnh
                    go_wp2_with fail
                    refine CH.mono ?_
                    rintro e w8 ⟨rfl, k8⟩
                    clear CH
                    have hA8 := hA7.new k8
                    have CA := added_any hA8.t2
                    rw [htc'', add_len, ← hP.out] at CA
                    have K8 := hA8.kp
                    have hPb : ((P : Int) == ((P + 1 : Nat) : Int) - 1) = true := by simp
                    clear hA7 hA8
                    go_wp2_with fail
                    refine CA.mono ?_
                    rintro e w9 ⟨rfl, hw9⟩
                    have K9 : Keeps (fun _ => False) w w9 := by rw [hw9]; exact K8
                    clear CA hw9
                    go_wp2_with fail
                    go_ret
                    exact ⟨rfl, K9.below (Nat.le_refl _) (fun _ _ e => e)⟩
            · have hltI : ¬ (i : Int) < (l1.length : Int) := by omega
              have hn1 : rs1.length ≤ 401 := by omega
              have hR9 : R0.length ≤ 4398046511200 := by rw [← hN.out]; omega
              have CH := holds_any hA.t2 hL.out (by have := hA.o9; rw [← hL.out] at this; exact this) hR9 hN.out
              rw [htc] at CH
              go_wp2_with fail
              refine CH.mono ?_
              rintro e w5 ⟨rfl, k5⟩
              clear CH
              have hA5 := hA.new k5
              have CE := entries_any hA5.t1 (by omega)
              rw [htb] at CE
              obtain ⟨N1, hN1⟩ : ∃ N1, Hid (N1 = rs1.length) := ⟨_, rfl⟩
              obtain ⟨L1, hL1⟩ : ∃ L1, Hid (L1 = (es rs1).length) := ⟨_, rfl⟩
              rw [← hL1.out] at CE
              have hN1b : N1 ≤ 401 := by rw [hN1.out]; exact hn1
              clear hA
              go_wp2_with fail
              refine CE.mono ?_
              rintro e w6 ⟨v6, rfl, o6, k6⟩
              clear CE
              obtain ⟨a13, c13, rfl, -⟩ := owns_form o6
              have hA6 := hA5.new k6
              have hA6' : Ap w w6 T1 T2 rs1 R0 (.slice a9 L c9) (.slice a13 L1 c13) (es R0) (es rs1) := ⟨hA6.t1, hA6.t2, hA6.d, hA6.o9, by rw [← hL1.out]; exact owns_base o6, hA6.p9, fun g e => ⟨fun e' => by have := (o6.lt g e).1; have := hA5.t1.lt e'; omega, fun e' => by have := (o6.lt g e).1; have := hA5.t2.lt e'; omega⟩, hA6.lo, hA6.kp⟩
              have CA := added_any hA6'.t1
              rw [htb, ← hN1.out] at CA
              clear hA5 hA6 o6 k6 k5
              go_wp2_with fail
              refine CA.mono ?_
              rintro e w7 ⟨rfl, hw7⟩
              have hA7 : Ap w w7 T1 T2 rs1 R0 (.slice a9 L c9) (.slice a13 L1 c13) (es R0) (es rs1) := by rw [hw7]; exact hA6'
              clear CA hw7 hA6'
              go_wp2_with fail
              go_loopw [15] (fun iv W => ∃ (i n : Nat) (rs2 : List Rd) (Tc : Tk), iv = .int .i64 ((l1.length : Int) - 1 - (n : Int)) ∧ n ≤ 199 ∧ n ≤ l1.length ∧ i = l1.length - n ∧ rs2.length ≤ n + 201 ∧ Tc.tb = tc ∧ Ap w W T1 Tc rs1 rs2 (.slice a9 L c9) (.slice a13 L1 c13) (es R0) (es rs1)) (fun iv _ => (intOf iv + 1).toNat)
              case atStart => exact ⟨l1.length, 0, R0, T2, by simp, by omega, by omega, by omega, by rw [← hN.out]; omega, htc, hA7⟩
              case round =>
                clear hA7 htc
                obtain ⟨i, n, rs2, Tc, rfl, hn2, hnM, hin, hN2', htc, hA⟩ := hrel
                by_cases hgo : n < l1.length ∧ n < 199
                · obtain ⟨m, hm⟩ : ∃ m, Hid (l1.length = m + 1 + n) := ⟨l1.length - 1 - n, by show _ = _; omega⟩
                  have hmI : (l1.length : Int) - 1 - (n : Int) = (m : Int) := by have := hm.out; omega
                  rw [hmI]
                  have hm0 : (0 : Int) ≤ (m : Int) := by omega
                  have hmM : (m : Int) < (l1.length : Int) := by have := hm.out; omega
                  have hmg : (l1.length : Int) - 200 < (m : Int) := by have := hm.out; omega
                  have hm1 : m < l1.length := by have := hm.out; omega
                  have hq := hok1 (aa l1 m) (by unfold aa; rw [List.getD_eq_getElem?_getD, List.getElem?_eq_getElem hm1]; exact List.getElem_mem _)
                  obtain ⟨b0, off, rfl, hb0, hc0⟩ := hl1.some (by omega)
                  obtain ⟨d0, d1, d2, d3⟩ := hc0 m hm1
                  generalize aa l1 m = q at *
                  obtain ⟨kd, who, ob, ver⟩ := q
                  obtain ⟨qk, qw, qo, qv⟩ := hq
                  simp only at d0 d1 d2 d3 qk qo qv
                  have f0 := hA.kp.cell d0 (fun e => e)
                  have f2 := hA.kp.cell d2 (fun e => e)
                  have f3 := hA.kp.cell d3 (fun e => e)
                  have hAd := hA.new ((Keeps.refl (fun _ => False) wr).drew)
                  have C := step_any (kind := kd) (ver := IntKind.i64.wrap (ver + 1)) hAd.t2 qo (i64_wrap _) (by omega)
                  rw [htc] at C
                  clear hc0 hmI
                  go_wp2_with fail
                  go_region_held3 (fun w' => w'.cell? ⟨b0, off + m * 4, none⟩ = some (.int .i64 kd) ∧ w'.cell? ⟨b0, off + m * 4 + 2, none⟩ = some (.int .i64 ob) ∧ w'.cell? ⟨b0, off + m * 4 + 3, none⟩ = some (.int .i64 ver)) (go_keep) ((go_at_call 14; (with_reducible refine C.mono ?_); rintro e w8 ⟨rs', n', er, T', rfl, hS, hT', hL'⟩; clear C; have hA8 := hAd.call2 hT' hL'; have g0 := hA8.kp.cell d0 (fun e => e); have g2 := hA8.kp.cell d2 (fun e => e); have g3 := hA8.kp.cell d3 (fun e => e)))
                  have htb' : T'.tb = tc := hL'.tb.trans htc
                  have hlen := hS.len
                  clear hL' hAd hA hS hT'
                  go_wp2_with fail
                  go_roundw
                  case rel => exact ⟨l1.length - (n + 1), n + 1, rs', T', by have := hm.out; go_num, by omega, by omega, rfl, by omega, htb', hA8⟩
                  case measure => have := hm.out; simp [intOf] <;> omega
                · have hcond : n = l1.length ∨ (n < l1.length ∧ n = 199) := by omega
                  have hn3 : rs2.length ≤ 400 := by omega
                  obtain ⟨z, hz⟩ : ∃ z : Int, Hid (z = (l1.length : Int) - 1 - (n : Int)) := ⟨_, rfl⟩
                  rw [← hz.out]
                  rcases hcond with hc | ⟨hc1, hc2⟩
                  · have hzz : ¬ (0 : Int) ≤ z := by rw [hz.out]; omega
                    rcases hld_dec rs2 2199023255552 with hh | hh
                    · obtain ⟨j, r, r1, r2, r3⟩ := hh
                      have C := upgrade_ok hA.t2 r1 r2 (by omega)
                      rw [htc, r3] at C
                      replace C : ∃ eo ev' en : Int, Calls Try.prog 11 #[.pointer (some ⟨tc, 0, none⟩), .int .i64 2199023255552] wr fun e w' => e = .returned (.tuple #[.agg #[.int .i64 eo, .int .i64 ev', .int .i64 en], .int .i64 0]) ∧ ∃ T', TV w' T' (rs2.set j (r.to 3)) ∧ Lf wr w' Tc T' := ⟨_, _, _, C⟩
                      obtain ⟨eo, ev', en, C⟩ := C
                      go_wp2_with fail
                      refine C.mono ?_
                      rintro e w5 ⟨rfl, T', hT', hL'⟩
                      clear C
                      go_wp2_with fail
                      have hA5 := (hA.call2 hT' hL').new ((Keeps.refl (fun _ => False) w5).alloc (.cells #[.int .i64 eo, .int .i64 ev', .int .i64 en] 36))
                      have hnh : ¬ hld (rs2.set j (r.to 3)) 2199023255552 := r3 ▸ hld_out hA.t2.gd r1 r2 (.inr rfl)
                      have htc' : T'.tb = tc := hL'.tb.trans htc
                      have hls : (rs2.set j (r.to 3)).length ≤ 400 := by simpa using hn3
                      clear hA hT' hL' r1 r2
                      generalize rs2.set j (r.to 3) = rs3 at *
                      have C := add_ok hA5.t2 (ob := 2199023255552) (ver := 9) (by constructor <;> decide) (by constructor <;> decide) hnh (by omega)
                      rw [htc'] at C
                      obtain ⟨P, hP⟩ : ∃ P, Hid (P = rs3.length) := ⟨_, rfl⟩
                      rw [← hP.out] at C
                      have hP4 : P ≤ 400 := by rw [hP.out]; exact hls
                      refine C.mono ?_
                      rintro e w7 ⟨rfl, T'', hT'', hL''⟩
                      clear C
                      have hA7 := hA5.call2 hT'' hL''
                      have htc'' : T''.tb = tc := hL''.tb.trans htc'
                      have CH := holds_any hA7.t1 hL1.out (by have := hA7.o13; rw [← hL1.out] at this; exact this) (by omega) hN1.out
                      rw [htb] at CH
                      clear hT'' hL'' hA5 hnh
                      go_wp2_with fail
                      refine CH.mono ?_
                      rintro e w8 ⟨rfl, k8⟩
                      clear CH
                      have hA8 := hA7.new k8
                      have CA := added_any hA8.t2
                      rw [htc'', add_len, ← hP.out] at CA
                      have K8 := hA8.kp
                      have hPb : ((P : Int) == ((P + 1 : Nat) : Int) - 1) = true := by simp
                      clear hA7 hA8
                      go_wp2_with fail
                      refine CA.mono ?_
                      rintro e w9 ⟨rfl, hw9⟩
                      have K9 : Keeps (fun _ => False) w w9 := by rw [hw9]; exact K8
                      clear CA hw9
                      go_wp2_with fail
                      go_ret
                      exact ⟨rfl, K9.below (Nat.le_refl _) (fun _ _ e => e)⟩
                    · have C := upgrade_no hA.t2 (k := 2199023255552) (by constructor <;> decide) hh
                      rw [htc] at C
                      unfold ev0 at C
                      go_wp2_with fail
                      refine C.mono ?_
                      rintro e w5 ⟨rfl, k5⟩
                      clear C
                      go_wp2_with fail
                      have hA5 := (hA.new k5).new ((Keeps.refl (fun _ => False) w5).alloc (.cells #[.int .i64 0, .int .i64 0, .int .i64 0] 36))
                      have hnh := hh
                      have htc' := htc
                      have hls := hn3
                      obtain ⟨rs3, hrs3⟩ : ∃ rs3, rs3 = rs2 := ⟨_, rfl⟩
                      rw [← hrs3] at hA5 hnh hls
                      obtain ⟨T', hT'⟩ : ∃ T', T' = Tc := ⟨_, rfl⟩
                      rw [← hT'] at hA5 htc'
                      clear hA k5 hh hrs3 hT'
                      have C := add_ok hA5.t2 (ob := 2199023255552) (ver := 9) (by constructor <;> decide) (by constructor <;> decide) hnh (by omega)
                      rw [htc'] at C
                      obtain ⟨P, hP⟩ : ∃ P, Hid (P = rs3.length) := ⟨_, rfl⟩
                      rw [← hP.out] at C
                      have hP4 : P ≤ 400 := by rw [hP.out]; exact hls
                      refine C.mono ?_
                      rintro e w7 ⟨rfl, T'', hT'', hL''⟩
                      clear C
                      have hA7 := hA5.call2 hT'' hL''
                      have htc'' : T''.tb = tc := hL''.tb.trans htc'
                      have CH := holds_any hA7.t1 hL1.out (by have := hA7.o13; rw [← hL1.out] at this; exact this) (by omega) hN1.out
                      rw [htb] at CH
                      clear hT'' hL'' hA5 hnh
                      go_wp2_with fail
                      refine CH.mono ?_
                      rintro e w8 ⟨rfl, k8⟩
                      clear CH
                      have hA8 := hA7.new k8
                      have CA := added_any hA8.t2
                      rw [htc'', add_len, ← hP.out] at CA
                      have K8 := hA8.kp
                      have hPb : ((P : Int) == ((P + 1 : Nat) : Int) - 1) = true := by simp
                      clear hA7 hA8
                      go_wp2_with fail
                      refine CA.mono ?_
                      rintro e w9 ⟨rfl, hw9⟩
                      have K9 : Keeps (fun _ => False) w w9 := by rw [hw9]; exact K8
                      clear CA hw9
                      go_wp2_with fail
                      go_ret
                      exact ⟨rfl, K9.below (Nat.le_refl _) (fun _ _ e => e)⟩
                  · have hzz : (0 : Int) ≤ z := by rw [hz.out]; omega
                    have hz2 : ¬ (l1.length : Int) - 200 < z := by rw [hz.out]; omega
                    have hz3 : decide ((l1.length : Int) - 200 < z) = false := by simpa using hz2
                    rcases hld_dec rs2 2199023255552 with hh | hh
                    · obtain ⟨j, r, r1, r2, r3⟩ := hh
                      have C := upgrade_ok hA.t2 r1 r2 (by omega)
                      rw [htc, r3] at C
                      replace C : ∃ eo ev' en : Int, Calls Try.prog 11 #[.pointer (some ⟨tc, 0, none⟩), .int .i64 2199023255552] wr fun e w' => e = .returned (.tuple #[.agg #[.int .i64 eo, .int .i64 ev', .int .i64 en], .int .i64 0]) ∧ ∃ T', TV w' T' (rs2.set j (r.to 3)) ∧ Lf wr w' Tc T' := ⟨_, _, _, C⟩
                      obtain ⟨eo, ev', en, C⟩ := C
                      go_wp2_with fail
                      refine C.mono ?_
                      rintro e w5 ⟨rfl, T', hT', hL'⟩
                      clear C
                      go_wp2_with fail
                      have hA5 := (hA.call2 hT' hL').new ((Keeps.refl (fun _ => False) w5).alloc (.cells #[.int .i64 eo, .int .i64 ev', .int .i64 en] 36))
                      have hnh : ¬ hld (rs2.set j (r.to 3)) 2199023255552 := r3 ▸ hld_out hA.t2.gd r1 r2 (.inr rfl)
                      have htc' : T'.tb = tc := hL'.tb.trans htc
                      have hls : (rs2.set j (r.to 3)).length ≤ 400 := by simpa using hn3
                      clear hA hT' hL' r1 r2
                      generalize rs2.set j (r.to 3) = rs3 at *
                      have C := add_ok hA5.t2 (ob := 2199023255552) (ver := 9) (by constructor <;> decide) (by constructor <;> decide) hnh (by omega)
                      rw [htc'] at C
                      obtain ⟨P, hP⟩ : ∃ P, Hid (P = rs3.length) := ⟨_, rfl⟩
                      rw [← hP.out] at C
                      have hP4 : P ≤ 400 := by rw [hP.out]; exact hls
                      refine C.mono ?_
                      rintro e w7 ⟨rfl, T'', hT'', hL''⟩
                      clear C
                      have hA7 := hA5.call2 hT'' hL''
                      have htc'' : T''.tb = tc := hL''.tb.trans htc'
                      have CH := holds_any hA7.t1 hL1.out (by have := hA7.o13; rw [← hL1.out] at this; exact this) (by omega) hN1.out
                      rw [htb] at CH
                      clear hT'' hL'' hA5 hnh
                      go_wp2_with fail
                      refine CH.mono ?_
                      rintro e w8 ⟨rfl, k8⟩
                      clear CH
                      have hA8 := hA7.new k8
                      have CA := added_any hA8.t2
                      rw [htc'', add_len, ← hP.out] at CA
                      have K8 := hA8.kp
                      have hPb : ((P : Int) == ((P + 1 : Nat) : Int) - 1) = true := by simp
                      clear hA7 hA8
                      go_wp2_with fail
                      refine CA.mono ?_
                      rintro e w9 ⟨rfl, hw9⟩
                      have K9 : Keeps (fun _ => False) w w9 := by rw [hw9]; exact K8
                      clear CA hw9
                      go_wp2_with fail
                      go_ret
                      exact ⟨rfl, K9.below (Nat.le_refl _) (fun _ _ e => e)⟩
                    · have C := upgrade_no hA.t2 (k := 2199023255552) (by constructor <;> decide) hh
                      rw [htc] at C
                      unfold ev0 at C
                      go_wp2_with fail
                      refine C.mono ?_
                      rintro e w5 ⟨rfl, k5⟩
                      clear C
                      go_wp2_with fail
                      have hA5 := (hA.new k5).new ((Keeps.refl (fun _ => False) w5).alloc (.cells #[.int .i64 0, .int .i64 0, .int .i64 0] 36))
                      have hnh := hh
                      have htc' := htc
                      have hls := hn3
                      obtain ⟨rs3, hrs3⟩ : ∃ rs3, rs3 = rs2 := ⟨_, rfl⟩
                      rw [← hrs3] at hA5 hnh hls
                      obtain ⟨T', hT'⟩ : ∃ T', T' = Tc := ⟨_, rfl⟩
                      rw [← hT'] at hA5 htc'
                      clear hA k5 hh hrs3 hT'
                      have C := add_ok hA5.t2 (ob := 2199023255552) (ver := 9) (by constructor <;> decide) (by constructor <;> decide) hnh (by omega)
                      rw [htc'] at C
                      obtain ⟨P, hP⟩ : ∃ P, Hid (P = rs3.length) := ⟨_, rfl⟩
                      rw [← hP.out] at C
                      have hP4 : P ≤ 400 := by rw [hP.out]; exact hls
                      refine C.mono ?_
                      rintro e w7 ⟨rfl, T'', hT'', hL''⟩
                      clear C
                      have hA7 := hA5.call2 hT'' hL''
                      have htc'' : T''.tb = tc := hL''.tb.trans htc'
                      have CH := holds_any hA7.t1 hL1.out (by have := hA7.o13; rw [← hL1.out] at this; exact this) (by omega) hN1.out
                      rw [htb] at CH
                      clear hT'' hL'' hA5 hnh
                      go_wp2_with fail
                      refine CH.mono ?_
                      rintro e w8 ⟨rfl, k8⟩
                      clear CH
                      have hA8 := hA7.new k8
                      have CA := added_any hA8.t2
                      rw [htc'', add_len, ← hP.out] at CA
                      have K8 := hA8.kp
                      have hPb : ((P : Int) == ((P + 1 : Nat) : Int) - 1) = true := by simp
                      clear hA7 hA8
                      go_wp2_with fail
                      refine CA.mono ?_
                      rintro e w9 ⟨rfl, hw9⟩
                      have K9 : Keeps (fun _ => False) w w9 := by rw [hw9]; exact K8
                      clear CA hw9
                      go_wp2_with fail
                      go_ret
                      exact ⟨rfl, K9.below (Nat.le_refl _) (fun _ _ e => e)⟩
      · have hltI : ¬ (i : Int) < (l.length : Int) := by omega
        have hn9 : rs.length ≤ 201 := by omega
        have CE := entries_any hT (by omega)
        rw [htb] at CE
        obtain ⟨N, hN⟩ : ∃ N, Hid (N = rs.length) := ⟨_, rfl⟩
        obtain ⟨L, hL⟩ : ∃ L, Hid (L = (es rs).length) := ⟨_, rfl⟩
        have hLN : L ≤ N := by rw [hL.out, hN.out]; exact es_len rs
        have hN2 : N ≤ 201 := by rw [hN.out]; exact hn9
        rw [← hL.out] at CE
        go_wp2_with fail
        refine CE.mono ?_
        rintro e w5 ⟨v5, rfl, o5, k5⟩
        clear CE
        obtain ⟨a9, c9, rfl, -⟩ := owns_form o5
        have hT5 := hT.new k5
        have CA := added_any hT5
        have CC := fun W (K : Keeps (fun _ => False) w5 W) => copy_any (hT5.new K) (by omega)
        rw [htb] at CA CC
        rw [← hN.out] at CA
        go_wp2_with fail
        refine CA.mono ?_
        rintro e w6 ⟨rfl, hw6⟩
        have k56 : Keeps (fun _ => False) w5 w6 := by rw [hw6]; exact Keeps.refl _ _
        clear hw6 CA
        go_wp2_with fail
        refine (CC _ k56).mono ?_
        rintro e w7 ⟨T2, rfl, hT2, k67, hB2⟩
        clear CC
        have k57 := k56.trans k67
        have K5 := hK.trans k5
        have sz5 := k5.size
        have sz6 := k56.size
        have szK := hK.size
        have hA7 : Ap w w7 T T2 rs rs (.slice a9 L c9) (.slice none 0 0) (es rs) [] := by
          refine ⟨hT5.new k57, hT2, fun k e e' => ?_, ?_, World.ownsRow_nil _ _ _ _, fun g e => ⟨fun e' => ?_, fun e' => ?_⟩, fun g e => (by cases e), fun k e => ?_, K5.trans k57⟩
          · have := hB2 k e'; have := hT5.lt e; omega
          · rw [← hL.out]; exact k57.owns (owns_base o5) (fun _ _ e => e)
          · have := (o5.lt g e).1; have := hT.lt e'; omega
          · have := hB2 g e'; have := owns_lt' o5 g e; omega
          · rcases e with e | e
            · exact hB k e
            · have := hB2 k e; omega
        obtain ⟨tc, htc⟩ : ∃ tc, T2.tb = tc := ⟨_, rfl⟩
        rw [htc]
        have hLNb : decide ((N : Int) < (L : Int)) = false := by simp; omega
        have hLNc : decide (N < L) = false := by simp; omega
        clear hT hB hK o5 k5 hT5 k56 k67 hB2 hT2 k57 K5 sz5 sz6 szK
        go_wp2_with fail
        obtain ⟨R0, hR0⟩ : ∃ R0, R0 = rs := ⟨_, rfl⟩
        rw [← hR0] at hA7 hN hL
        go_loopw [12] (fun iv W => ∃ (i : Nat) (rs1 : List Rd) (T1 : Tk), iv = .int .i64 (i : Int) ∧ i ≤ 200 ∧ rs1.length ≤ i + 201 ∧ T1.tb = w.heap.size ∧ Ap w W T1 T2 rs1 R0 (.slice a9 L c9) (.slice none 0 0) (es R0) []) (fun iv _ => 200 - (intOf iv).toNat)
        case atStart => exact ⟨0, R0, T, rfl, by omega, by rw [← hN.out]; omega, htb, hA7⟩
        case round =>
          clear hA7 hR0 htb
          obtain ⟨i, rs1, T1, rfl, hi2, hNi, htb, hA⟩ := hrel
          by_cases hgo : i < l1.length ∧ i < 200
          · have hltI : (i : Int) < (l1.length : Int) := by omega
            have h2I : (i : Int) < 200 := by omega
            have hi0 : (0 : Int) ≤ (i : Int) := by omega
            have hq := hok1 (aa l1 i) (by unfold aa; rw [List.getD_eq_getElem?_getD, List.getElem?_eq_getElem hgo.1]; exact List.getElem_mem _)
            obtain ⟨b0, off, rfl, hb0, hc0⟩ := hl1.some (by omega)
            obtain ⟨d0, d1, d2, d3⟩ := hc0 i hgo.1
            generalize aa l1 i = q at *
            obtain ⟨kd, who, ob, ver⟩ := q
            obtain ⟨qk, qw, qo, qv⟩ := hq
            simp only at d0 d1 d2 d3 qk qo qv
            have f0 := hA.kp.cell d0 (fun e => e)
            have f2 := hA.kp.cell d2 (fun e => e)
            have f3 := hA.kp.cell d3 (fun e => e)
            have hAd := hA.new ((Keeps.refl (fun _ => False) wr).drew)
            have C := step_any (kind := kd) hAd.t1 qo qv (by omega)
            rw [htb] at C
            clear hc0
            go_wp2_with fail
            go_region_held3 (fun w' => w'.cell? ⟨b0, off + i * 4, none⟩ = some (.int .i64 kd) ∧ w'.cell? ⟨b0, off + i * 4 + 2, none⟩ = some (.int .i64 ob) ∧ w'.cell? ⟨b0, off + i * 4 + 3, none⟩ = some (.int .i64 ver)) (go_keep) ((go_at_call 14; (with_reducible refine C.mono ?_); rintro e w8 ⟨rs', n, er, T', rfl, hS, hT', hL'⟩; clear C; have hA8 := hAd.call1 hT' hL'; have g0 := hA8.kp.cell d0 (fun e => e); have g2 := hA8.kp.cell d2 (fun e => e); have g3 := hA8.kp.cell d3 (fun e => e)))
            have htb' : T'.tb = w.heap.size := hL'.tb.trans htb
            have hlen := hS.len
            clear hL' hAd hA hS hT'
            go_wp2_with fail
            go_roundw
            case rel => exact ⟨i + 1, rs', T', by go_num, by omega, by omega, htb', hA8⟩
            case measure => simp [intOf]; omega
          · by_cases h1 : i < l1.length
            · have hltI : (i : Int) < (l1.length : Int) := by omega
              have h2I : ¬ (i : Int) < 200 := by omega
              have hn1 : rs1.length ≤ 401 := by omega
              have hR9 : R0.length ≤ 4398046511200 := by rw [← hN.out]; omega
              have CH := holds_any hA.t2 hL.out (by have := hA.o9; rw [← hL.out] at this; exact this) hR9 hN.out
              rw [htc] at CH
              go_wp2_with fail
              refine CH.mono ?_
              rintro e w5 ⟨rfl, k5⟩
              clear CH
              have hA5 := hA.new k5
              have CE := entries_any hA5.t1 (by omega)
              rw [htb] at CE
              obtain ⟨N1, hN1⟩ : ∃ N1, Hid (N1 = rs1.length) := ⟨_, rfl⟩
              obtain ⟨L1, hL1⟩ : ∃ L1, Hid (L1 = (es rs1).length) := ⟨_, rfl⟩
              rw [← hL1.out] at CE
              have hN1b : N1 ≤ 401 := by rw [hN1.out]; exact hn1
              clear hA
              go_wp2_with fail
              refine CE.mono ?_
              rintro e w6 ⟨v6, rfl, o6, k6⟩
              clear CE
              obtain ⟨a13, c13, rfl, -⟩ := owns_form o6
              have hA6 := hA5.new k6
              have hA6' : Ap w w6 T1 T2 rs1 R0 (.slice a9 L c9) (.slice a13 L1 c13) (es R0) (es rs1) := ⟨hA6.t1, hA6.t2, hA6.d, hA6.o9, by rw [← hL1.out]; exact owns_base o6, hA6.p9, fun g e => ⟨fun e' => by have := (o6.lt g e).1; have := hA5.t1.lt e'; omega, fun e' => by have := (o6.lt g e).1; have := hA5.t2.lt e'; omega⟩, hA6.lo, hA6.kp⟩
              have CA := added_any hA6'.t1
              rw [htb, ← hN1.out] at CA
              clear hA5 hA6 o6 k6 k5
              go_wp2_with fail
              refine CA.mono ?_
              rintro e w7 ⟨rfl, hw7⟩
              have hA7 : Ap w w7 T1 T2 rs1 R0 (.slice a9 L c9) (.slice a13 L1 c13) (es R0) (es rs1) := by rw [hw7]; exact hA6'
              clear CA hw7 hA6'
              go_wp2_with fail
              go_loopw [15] (fun iv W => ∃ (i n : Nat) (rs2 : List Rd) (Tc : Tk), iv = .int .i64 ((l1.length : Int) - 1 - (n : Int)) ∧ n ≤ 199 ∧ n ≤ l1.length ∧ i = l1.length - n ∧ rs2.length ≤ n + 201 ∧ Tc.tb = tc ∧ Ap w W T1 Tc rs1 rs2 (.slice a9 L c9) (.slice a13 L1 c13) (es R0) (es rs1)) (fun iv _ => (intOf iv + 1).toNat)
              case atStart => exact ⟨l1.length, 0, R0, T2, by simp, by omega, by omega, by omega, by rw [← hN.out]; omega, htc, hA7⟩
              case round =>
                clear hA7 htc
                obtain ⟨i, n, rs2, Tc, rfl, hn2, hnM, hin, hN2', htc, hA⟩ := hrel
                by_cases hgo : n < l1.length ∧ n < 199
                · obtain ⟨m, hm⟩ : ∃ m, Hid (l1.length = m + 1 + n) := ⟨l1.length - 1 - n, by show _ = _; omega⟩
                  have hmI : (l1.length : Int) - 1 - (n : Int) = (m : Int) := by have := hm.out; omega
                  rw [hmI]
                  have hm0 : (0 : Int) ≤ (m : Int) := by omega
                  have hmM : (m : Int) < (l1.length : Int) := by have := hm.out; omega
                  have hmg : (l1.length : Int) - 200 < (m : Int) := by have := hm.out; omega
                  have hm1 : m < l1.length := by have := hm.out; omega
                  have hq := hok1 (aa l1 m) (by unfold aa; rw [List.getD_eq_getElem?_getD, List.getElem?_eq_getElem hm1]; exact List.getElem_mem _)
                  obtain ⟨b0, off, rfl, hb0, hc0⟩ := hl1.some (by omega)
                  obtain ⟨d0, d1, d2, d3⟩ := hc0 m hm1
                  generalize aa l1 m = q at *
                  obtain ⟨kd, who, ob, ver⟩ := q
                  obtain ⟨qk, qw, qo, qv⟩ := hq
                  simp only at d0 d1 d2 d3 qk qo qv
                  have f0 := hA.kp.cell d0 (fun e => e)
                  have f2 := hA.kp.cell d2 (fun e => e)
                  have f3 := hA.kp.cell d3 (fun e => e)
                  have hAd := hA.new ((Keeps.refl (fun _ => False) wr).drew)
                  have C := step_any (kind := kd) (ver := IntKind.i64.wrap (ver + 1)) hAd.t2 qo (i64_wrap _) (by omega)
                  rw [htc] at C
                  clear hc0 hmI
                  go_wp2_with fail
                  go_region_held3 (fun w' => w'.cell? ⟨b0, off + m * 4, none⟩ = some (.int .i64 kd) ∧ w'.cell? ⟨b0, off + m * 4 + 2, none⟩ = some (.int .i64 ob) ∧ w'.cell? ⟨b0, off + m * 4 + 3, none⟩ = some (.int .i64 ver)) (go_keep) ((go_at_call 14; (with_reducible refine C.mono ?_); rintro e w8 ⟨rs', n', er, T', rfl, hS, hT', hL'⟩; clear C; have hA8 := hAd.call2 hT' hL'; have g0 := hA8.kp.cell d0 (fun e => e); have g2 := hA8.kp.cell d2 (fun e => e); have g3 := hA8.kp.cell d3 (fun e => e)))
                  have htb' : T'.tb = tc := hL'.tb.trans htc
                  have hlen := hS.len
                  clear hL' hAd hA hS hT'
                  go_wp2_with fail
                  go_roundw
                  case rel => exact ⟨l1.length - (n + 1), n + 1, rs', T', by have := hm.out; go_num, by omega, by omega, rfl, by omega, htb', hA8⟩
                  case measure => have := hm.out; simp [intOf] <;> omega
                · have hcond : n < l1.length ∧ n = 199 := by omega
                  have hn3 : rs2.length ≤ 400 := by omega
                  obtain ⟨z, hz⟩ : ∃ z : Int, Hid (z = (l1.length : Int) - 1 - (n : Int)) := ⟨_, rfl⟩
                  rw [← hz.out]
                  obtain ⟨hc1, hc2⟩ := hcond
                  have hzz : (0 : Int) ≤ z := by rw [hz.out]; omega
                  have hz2 : ¬ (l1.length : Int) - 200 < z := by rw [hz.out]; omega
                  have hz3 : decide ((l1.length : Int) - 200 < z) = false := by simpa using hz2
                  rcases hld_dec rs2 2199023255552 with hh | hh
                  · obtain ⟨j, r, r1, r2, r3⟩ := hh
                    have C := upgrade_ok hA.t2 r1 r2 (by omega)
                    rw [htc, r3] at C
                    replace C : ∃ eo ev' en : Int, Calls Try.prog 11 #[.pointer (some ⟨tc, 0, none⟩), .int .i64 2199023255552] wr fun e w' => e = .returned (.tuple #[.agg #[.int .i64 eo, .int .i64 ev', .int .i64 en], .int .i64 0]) ∧ ∃ T', TV w' T' (rs2.set j (r.to 3)) ∧ Lf wr w' Tc T' := ⟨_, _, _, C⟩
                    obtain ⟨eo, ev', en, C⟩ := C
                    go_wp2_with fail
                    refine C.mono ?_
                    rintro e w5 ⟨rfl, T', hT', hL'⟩
                    clear C
                    go_wp2_with fail
                    have hA5 := (hA.call2 hT' hL').new ((Keeps.refl (fun _ => False) w5).alloc (.cells #[.int .i64 eo, .int .i64 ev', .int .i64 en] 36))
                    have hnh : ¬ hld (rs2.set j (r.to 3)) 2199023255552 := r3 ▸ hld_out hA.t2.gd r1 r2 (.inr rfl)
                    have htc' : T'.tb = tc := hL'.tb.trans htc
                    have hls : (rs2.set j (r.to 3)).length ≤ 400 := by simpa using hn3
                    clear hA hT' hL' r1 r2
                    generalize rs2.set j (r.to 3) = rs3 at *
                    have C := add_ok hA5.t2 (ob := 2199023255552) (ver := 9) (by constructor <;> decide) (by constructor <;> decide) hnh (by omega)
                    rw [htc'] at C
                    obtain ⟨P, hP⟩ : ∃ P, Hid (P = rs3.length) := ⟨_, rfl⟩
                    rw [← hP.out] at C
                    have hP4 : P ≤ 400 := by rw [hP.out]; exact hls
                    refine C.mono ?_
                    rintro e w7 ⟨rfl, T'', hT'', hL''⟩
                    clear C
                    have hA7 := hA5.call2 hT'' hL''
                    have htc'' : T''.tb = tc := hL''.tb.trans htc'
                    have CH := holds_any hA7.t1 hL1.out (by have := hA7.o13; rw [← hL1.out] at this; exact this) (by omega) hN1.out
                    rw [htb] at CH
                    clear hT'' hL'' hA5 hnh
                    go_wp2_with fail
                    refine CH.mono ?_
                    rintro e w8 ⟨rfl, k8⟩
                    clear CH
                    have hA8 := hA7.new k8
                    have CA := added_any hA8.t2
                    rw [htc'', add_len, ← hP.out] at CA
                    have K8 := hA8.kp
                    have hPb : ((P : Int) == ((P + 1 : Nat) : Int) - 1) = true := by simp
                    clear hA7 hA8
                    go_wp2_with fail
                    refine CA.mono ?_
                    rintro e w9 ⟨rfl, hw9⟩
                    have K9 : Keeps (fun _ => False) w w9 := by rw [hw9]; exact K8
                    clear CA hw9
                    go_wp2_with fail
                    go_ret
                    exact ⟨rfl, K9.below (Nat.le_refl _) (fun _ _ e => e)⟩
                  · have C := upgrade_no hA.t2 (k := 2199023255552) (by constructor <;> decide) hh
                    rw [htc] at C
                    unfold ev0 at C
                    go_wp2_with fail
                    refine C.mono ?_
                    rintro e w5 ⟨rfl, k5⟩
                    clear C
                    go_wp2_with fail
                    have hA5 := (hA.new k5).new ((Keeps.refl (fun _ => False) w5).alloc (.cells #[.int .i64 0, .int .i64 0, .int .i64 0] 36))
                    have hnh := hh
                    have htc' := htc
                    have hls := hn3
                    obtain ⟨rs3, hrs3⟩ : ∃ rs3, rs3 = rs2 := ⟨_, rfl⟩
                    rw [← hrs3] at hA5 hnh hls
                    obtain ⟨T', hT'⟩ : ∃ T', T' = Tc := ⟨_, rfl⟩
                    rw [← hT'] at hA5 htc'
                    clear hA k5 hh hrs3 hT'
                    have C := add_ok hA5.t2 (ob := 2199023255552) (ver := 9) (by constructor <;> decide) (by constructor <;> decide) hnh (by omega)
                    rw [htc'] at C
                    obtain ⟨P, hP⟩ : ∃ P, Hid (P = rs3.length) := ⟨_, rfl⟩
                    rw [← hP.out] at C
                    have hP4 : P ≤ 400 := by rw [hP.out]; exact hls
                    refine C.mono ?_
                    rintro e w7 ⟨rfl, T'', hT'', hL''⟩
                    clear C
                    have hA7 := hA5.call2 hT'' hL''
                    have htc'' : T''.tb = tc := hL''.tb.trans htc'
                    have CH := holds_any hA7.t1 hL1.out (by have := hA7.o13; rw [← hL1.out] at this; exact this) (by omega) hN1.out
                    rw [htb] at CH
                    clear hT'' hL'' hA5 hnh
                    go_wp2_with fail
                    refine CH.mono ?_
                    rintro e w8 ⟨rfl, k8⟩
                    clear CH
                    have hA8 := hA7.new k8
                    have CA := added_any hA8.t2
                    rw [htc'', add_len, ← hP.out] at CA
                    have K8 := hA8.kp
                    have hPb : ((P : Int) == ((P + 1 : Nat) : Int) - 1) = true := by simp
                    clear hA7 hA8
                    go_wp2_with fail
                    refine CA.mono ?_
                    rintro e w9 ⟨rfl, hw9⟩
                    have K9 : Keeps (fun _ => False) w w9 := by rw [hw9]; exact K8
                    clear CA hw9
                    go_wp2_with fail
                    go_ret
                    exact ⟨rfl, K9.below (Nat.le_refl _) (fun _ _ e => e)⟩
            · have hltI : ¬ (i : Int) < (l1.length : Int) := by omega
              have hn1 : rs1.length ≤ 401 := by omega
              have hR9 : R0.length ≤ 4398046511200 := by rw [← hN.out]; omega
              have CH := holds_any hA.t2 hL.out (by have := hA.o9; rw [← hL.out] at this; exact this) hR9 hN.out
              rw [htc] at CH
              go_wp2_with fail
              refine CH.mono ?_
              rintro e w5 ⟨rfl, k5⟩
              clear CH
              have hA5 := hA.new k5
              have CE := entries_any hA5.t1 (by omega)
              rw [htb] at CE
              obtain ⟨N1, hN1⟩ : ∃ N1, Hid (N1 = rs1.length) := ⟨_, rfl⟩
              obtain ⟨L1, hL1⟩ : ∃ L1, Hid (L1 = (es rs1).length) := ⟨_, rfl⟩
              rw [← hL1.out] at CE
              have hN1b : N1 ≤ 401 := by rw [hN1.out]; exact hn1
              clear hA
              go_wp2_with fail
              refine CE.mono ?_
              rintro e w6 ⟨v6, rfl, o6, k6⟩
              clear CE
              obtain ⟨a13, c13, rfl, -⟩ := owns_form o6
              have hA6 := hA5.new k6
              have hA6' : Ap w w6 T1 T2 rs1 R0 (.slice a9 L c9) (.slice a13 L1 c13) (es R0) (es rs1) := ⟨hA6.t1, hA6.t2, hA6.d, hA6.o9, by rw [← hL1.out]; exact owns_base o6, hA6.p9, fun g e => ⟨fun e' => by have := (o6.lt g e).1; have := hA5.t1.lt e'; omega, fun e' => by have := (o6.lt g e).1; have := hA5.t2.lt e'; omega⟩, hA6.lo, hA6.kp⟩
              have CA := added_any hA6'.t1
              rw [htb, ← hN1.out] at CA
              clear hA5 hA6 o6 k6 k5
              go_wp2_with fail
              refine CA.mono ?_
              rintro e w7 ⟨rfl, hw7⟩
              have hA7 : Ap w w7 T1 T2 rs1 R0 (.slice a9 L c9) (.slice a13 L1 c13) (es R0) (es rs1) := by rw [hw7]; exact hA6'
              clear CA hw7 hA6'
              go_wp2_with fail
              go_loopw [15] (fun iv W => ∃ (i n : Nat) (rs2 : List Rd) (Tc : Tk), iv = .int .i64 ((l1.length : Int) - 1 - (n : Int)) ∧ n ≤ 199 ∧ n ≤ l1.length ∧ i = l1.length - n ∧ rs2.length ≤ n + 201 ∧ Tc.tb = tc ∧ Ap w W T1 Tc rs1 rs2 (.slice a9 L c9) (.slice a13 L1 c13) (es R0) (es rs1)) (fun iv _ => (intOf iv + 1).toNat)
              case atStart => exact ⟨l1.length, 0, R0, T2, by simp, by omega, by omega, by omega, by rw [← hN.out]; omega, htc, hA7⟩
              case round =>
                clear hA7 htc
                obtain ⟨i, n, rs2, Tc, rfl, hn2, hnM, hin, hN2', htc, hA⟩ := hrel
                by_cases hgo : n < l1.length ∧ n < 199
                · obtain ⟨m, hm⟩ : ∃ m, Hid (l1.length = m + 1 + n) := ⟨l1.length - 1 - n, by show _ = _; omega⟩
                  have hmI : (l1.length : Int) - 1 - (n : Int) = (m : Int) := by have := hm.out; omega
                  rw [hmI]
                  have hm0 : (0 : Int) ≤ (m : Int) := by omega
                  have hmM : (m : Int) < (l1.length : Int) := by have := hm.out; omega
                  have hmg : (l1.length : Int) - 200 < (m : Int) := by have := hm.out; omega
                  have hm1 : m < l1.length := by have := hm.out; omega
                  have hq := hok1 (aa l1 m) (by unfold aa; rw [List.getD_eq_getElem?_getD, List.getElem?_eq_getElem hm1]; exact List.getElem_mem _)
                  obtain ⟨b0, off, rfl, hb0, hc0⟩ := hl1.some (by omega)
                  obtain ⟨d0, d1, d2, d3⟩ := hc0 m hm1
                  generalize aa l1 m = q at *
                  obtain ⟨kd, who, ob, ver⟩ := q
                  obtain ⟨qk, qw, qo, qv⟩ := hq
                  simp only at d0 d1 d2 d3 qk qo qv
                  have f0 := hA.kp.cell d0 (fun e => e)
                  have f2 := hA.kp.cell d2 (fun e => e)
                  have f3 := hA.kp.cell d3 (fun e => e)
                  have hAd := hA.new ((Keeps.refl (fun _ => False) wr).drew)
                  have C := step_any (kind := kd) (ver := IntKind.i64.wrap (ver + 1)) hAd.t2 qo (i64_wrap _) (by omega)
                  rw [htc] at C
                  clear hc0 hmI
                  go_wp2_with fail
                  go_region_held3 (fun w' => w'.cell? ⟨b0, off + m * 4, none⟩ = some (.int .i64 kd) ∧ w'.cell? ⟨b0, off + m * 4 + 2, none⟩ = some (.int .i64 ob) ∧ w'.cell? ⟨b0, off + m * 4 + 3, none⟩ = some (.int .i64 ver)) (go_keep) ((go_at_call 14; (with_reducible refine C.mono ?_); rintro e w8 ⟨rs', n', er, T', rfl, hS, hT', hL'⟩; clear C; have hA8 := hAd.call2 hT' hL'; have g0 := hA8.kp.cell d0 (fun e => e); have g2 := hA8.kp.cell d2 (fun e => e); have g3 := hA8.kp.cell d3 (fun e => e)))
                  have htb' : T'.tb = tc := hL'.tb.trans htc
                  have hlen := hS.len
                  clear hL' hAd hA hS hT'
                  go_wp2_with fail
                  go_roundw
                  case rel => exact ⟨l1.length - (n + 1), n + 1, rs', T', by have := hm.out; go_num, by omega, by omega, rfl, by omega, htb', hA8⟩
                  case measure => have := hm.out; simp [intOf] <;> omega
                · have hcond : n = l1.length ∨ (n < l1.length ∧ n = 199) := by omega
                  have hn3 : rs2.length ≤ 400 := by omega
                  obtain ⟨z, hz⟩ : ∃ z : Int, Hid (z = (l1.length : Int) - 1 - (n : Int)) := ⟨_, rfl⟩
                  rw [← hz.out]
                  rcases hcond with hc | ⟨hc1, hc2⟩
                  · have hzz : ¬ (0 : Int) ≤ z := by rw [hz.out]; omega
                    rcases hld_dec rs2 2199023255552 with hh | hh
                    · obtain ⟨j, r, r1, r2, r3⟩ := hh
                      have C := upgrade_ok hA.t2 r1 r2 (by omega)
                      rw [htc, r3] at C
                      replace C : ∃ eo ev' en : Int, Calls Try.prog 11 #[.pointer (some ⟨tc, 0, none⟩), .int .i64 2199023255552] wr fun e w' => e = .returned (.tuple #[.agg #[.int .i64 eo, .int .i64 ev', .int .i64 en], .int .i64 0]) ∧ ∃ T', TV w' T' (rs2.set j (r.to 3)) ∧ Lf wr w' Tc T' := ⟨_, _, _, C⟩
                      obtain ⟨eo, ev', en, C⟩ := C
                      go_wp2_with fail
                      refine C.mono ?_
                      rintro e w5 ⟨rfl, T', hT', hL'⟩
                      clear C
                      go_wp2_with fail
                      have hA5 := (hA.call2 hT' hL').new ((Keeps.refl (fun _ => False) w5).alloc (.cells #[.int .i64 eo, .int .i64 ev', .int .i64 en] 36))
                      have hnh : ¬ hld (rs2.set j (r.to 3)) 2199023255552 := r3 ▸ hld_out hA.t2.gd r1 r2 (.inr rfl)
                      have htc' : T'.tb = tc := hL'.tb.trans htc
                      have hls : (rs2.set j (r.to 3)).length ≤ 400 := by simpa using hn3
                      clear hA hT' hL' r1 r2
                      generalize rs2.set j (r.to 3) = rs3 at *
                      have C := add_ok hA5.t2 (ob := 2199023255552) (ver := 9) (by constructor <;> decide) (by constructor <;> decide) hnh (by omega)
                      rw [htc'] at C
                      obtain ⟨P, hP⟩ : ∃ P, Hid (P = rs3.length) := ⟨_, rfl⟩
                      rw [← hP.out] at C
                      have hP4 : P ≤ 400 := by rw [hP.out]; exact hls
                      refine C.mono ?_
                      rintro e w7 ⟨rfl, T'', hT'', hL''⟩
                      clear C
                      have hA7 := hA5.call2 hT'' hL''
                      have htc'' : T''.tb = tc := hL''.tb.trans htc'
                      have CH := holds_any hA7.t1 hL1.out (by have := hA7.o13; rw [← hL1.out] at this; exact this) (by omega) hN1.out
                      rw [htb] at CH
                      clear hT'' hL'' hA5 hnh
                      go_wp2_with fail
                      refine CH.mono ?_
                      rintro e w8 ⟨rfl, k8⟩
                      clear CH
                      have hA8 := hA7.new k8
                      have CA := added_any hA8.t2
                      rw [htc'', add_len, ← hP.out] at CA
                      have K8 := hA8.kp
                      have hPb : ((P : Int) == ((P + 1 : Nat) : Int) - 1) = true := by simp
                      clear hA7 hA8
                      go_wp2_with fail
                      refine CA.mono ?_
                      rintro e w9 ⟨rfl, hw9⟩
                      have K9 : Keeps (fun _ => False) w w9 := by rw [hw9]; exact K8
                      clear CA hw9
                      go_wp2_with fail
                      go_ret
                      exact ⟨rfl, K9.below (Nat.le_refl _) (fun _ _ e => e)⟩
                    · have C := upgrade_no hA.t2 (k := 2199023255552) (by constructor <;> decide) hh
                      rw [htc] at C
                      unfold ev0 at C
                      go_wp2_with fail
                      refine C.mono ?_
                      rintro e w5 ⟨rfl, k5⟩
                      clear C
                      go_wp2_with fail
                      have hA5 := (hA.new k5).new ((Keeps.refl (fun _ => False) w5).alloc (.cells #[.int .i64 0, .int .i64 0, .int .i64 0] 36))
                      have hnh := hh
                      have htc' := htc
                      have hls := hn3
                      obtain ⟨rs3, hrs3⟩ : ∃ rs3, rs3 = rs2 := ⟨_, rfl⟩
                      rw [← hrs3] at hA5 hnh hls
                      obtain ⟨T', hT'⟩ : ∃ T', T' = Tc := ⟨_, rfl⟩
                      rw [← hT'] at hA5 htc'
                      clear hA k5 hh hrs3 hT'
                      have C := add_ok hA5.t2 (ob := 2199023255552) (ver := 9) (by constructor <;> decide) (by constructor <;> decide) hnh (by omega)
                      rw [htc'] at C
                      obtain ⟨P, hP⟩ : ∃ P, Hid (P = rs3.length) := ⟨_, rfl⟩
                      rw [← hP.out] at C
                      have hP4 : P ≤ 400 := by rw [hP.out]; exact hls
                      refine C.mono ?_
                      rintro e w7 ⟨rfl, T'', hT'', hL''⟩
                      clear C
                      have hA7 := hA5.call2 hT'' hL''
                      have htc'' : T''.tb = tc := hL''.tb.trans htc'
                      have CH := holds_any hA7.t1 hL1.out (by have := hA7.o13; rw [← hL1.out] at this; exact this) (by omega) hN1.out
                      rw [htb] at CH
                      clear hT'' hL'' hA5 hnh
                      go_wp2_with fail
                      refine CH.mono ?_
                      rintro e w8 ⟨rfl, k8⟩
                      clear CH
                      have hA8 := hA7.new k8
                      have CA := added_any hA8.t2
                      rw [htc'', add_len, ← hP.out] at CA
                      have K8 := hA8.kp
                      have hPb : ((P : Int) == ((P + 1 : Nat) : Int) - 1) = true := by simp
                      clear hA7 hA8
                      go_wp2_with fail
                      refine CA.mono ?_
                      rintro e w9 ⟨rfl, hw9⟩
                      have K9 : Keeps (fun _ => False) w w9 := by rw [hw9]; exact K8
                      clear CA hw9
                      go_wp2_with fail
                      go_ret
                      exact ⟨rfl, K9.below (Nat.le_refl _) (fun _ _ e => e)⟩
                  · have hzz : (0 : Int) ≤ z := by rw [hz.out]; omega
                    have hz2 : ¬ (l1.length : Int) - 200 < z := by rw [hz.out]; omega
                    have hz3 : decide ((l1.length : Int) - 200 < z) = false := by simpa using hz2
                    rcases hld_dec rs2 2199023255552 with hh | hh
                    · obtain ⟨j, r, r1, r2, r3⟩ := hh
                      have C := upgrade_ok hA.t2 r1 r2 (by omega)
                      rw [htc, r3] at C
                      replace C : ∃ eo ev' en : Int, Calls Try.prog 11 #[.pointer (some ⟨tc, 0, none⟩), .int .i64 2199023255552] wr fun e w' => e = .returned (.tuple #[.agg #[.int .i64 eo, .int .i64 ev', .int .i64 en], .int .i64 0]) ∧ ∃ T', TV w' T' (rs2.set j (r.to 3)) ∧ Lf wr w' Tc T' := ⟨_, _, _, C⟩
                      obtain ⟨eo, ev', en, C⟩ := C
                      go_wp2_with fail
                      refine C.mono ?_
                      rintro e w5 ⟨rfl, T', hT', hL'⟩
                      clear C
                      go_wp2_with fail
                      have hA5 := (hA.call2 hT' hL').new ((Keeps.refl (fun _ => False) w5).alloc (.cells #[.int .i64 eo, .int .i64 ev', .int .i64 en] 36))
                      have hnh : ¬ hld (rs2.set j (r.to 3)) 2199023255552 := r3 ▸ hld_out hA.t2.gd r1 r2 (.inr rfl)
                      have htc' : T'.tb = tc := hL'.tb.trans htc
                      have hls : (rs2.set j (r.to 3)).length ≤ 400 := by simpa using hn3
                      clear hA hT' hL' r1 r2
                      generalize rs2.set j (r.to 3) = rs3 at *
                      have C := add_ok hA5.t2 (ob := 2199023255552) (ver := 9) (by constructor <;> decide) (by constructor <;> decide) hnh (by omega)
                      rw [htc'] at C
                      obtain ⟨P, hP⟩ : ∃ P, Hid (P = rs3.length) := ⟨_, rfl⟩
                      rw [← hP.out] at C
                      have hP4 : P ≤ 400 := by rw [hP.out]; exact hls
                      refine C.mono ?_
                      rintro e w7 ⟨rfl, T'', hT'', hL''⟩
                      clear C
                      have hA7 := hA5.call2 hT'' hL''
                      have htc'' : T''.tb = tc := hL''.tb.trans htc'
                      have CH := holds_any hA7.t1 hL1.out (by have := hA7.o13; rw [← hL1.out] at this; exact this) (by omega) hN1.out
                      rw [htb] at CH
                      clear hT'' hL'' hA5 hnh
                      go_wp2_with fail
                      refine CH.mono ?_
                      rintro e w8 ⟨rfl, k8⟩
                      clear CH
                      have hA8 := hA7.new k8
                      have CA := added_any hA8.t2
                      rw [htc'', add_len, ← hP.out] at CA
                      have K8 := hA8.kp
                      have hPb : ((P : Int) == ((P + 1 : Nat) : Int) - 1) = true := by simp
                      clear hA7 hA8
                      go_wp2_with fail
                      refine CA.mono ?_
                      rintro e w9 ⟨rfl, hw9⟩
                      have K9 : Keeps (fun _ => False) w w9 := by rw [hw9]; exact K8
                      clear CA hw9
                      go_wp2_with fail
                      go_ret
                      exact ⟨rfl, K9.below (Nat.le_refl _) (fun _ _ e => e)⟩
                    · have C := upgrade_no hA.t2 (k := 2199023255552) (by constructor <;> decide) hh
                      rw [htc] at C
                      unfold ev0 at C
                      go_wp2_with fail
                      refine C.mono ?_
                      rintro e w5 ⟨rfl, k5⟩
                      clear C
                      go_wp2_with fail
                      have hA5 := (hA.new k5).new ((Keeps.refl (fun _ => False) w5).alloc (.cells #[.int .i64 0, .int .i64 0, .int .i64 0] 36))
                      have hnh := hh
                      have htc' := htc
                      have hls := hn3
                      obtain ⟨rs3, hrs3⟩ : ∃ rs3, rs3 = rs2 := ⟨_, rfl⟩
                      rw [← hrs3] at hA5 hnh hls
                      obtain ⟨T', hT'⟩ : ∃ T', T' = Tc := ⟨_, rfl⟩
                      rw [← hT'] at hA5 htc'
                      clear hA k5 hh hrs3 hT'
                      have C := add_ok hA5.t2 (ob := 2199023255552) (ver := 9) (by constructor <;> decide) (by constructor <;> decide) hnh (by omega)
                      rw [htc'] at C
                      obtain ⟨P, hP⟩ : ∃ P, Hid (P = rs3.length) := ⟨_, rfl⟩
                      rw [← hP.out] at C
                      have hP4 : P ≤ 400 := by rw [hP.out]; exact hls
                      refine C.mono ?_
                      rintro e w7 ⟨rfl, T'', hT'', hL''⟩
                      clear C
                      have hA7 := hA5.call2 hT'' hL''
                      have htc'' : T''.tb = tc := hL''.tb.trans htc'
                      have CH := holds_any hA7.t1 hL1.out (by have := hA7.o13; rw [← hL1.out] at this; exact this) (by omega) hN1.out
                      rw [htb] at CH
                      clear hT'' hL'' hA5 hnh
                      go_wp2_with fail
                      refine CH.mono ?_
                      rintro e w8 ⟨rfl, k8⟩
                      clear CH
                      have hA8 := hA7.new k8
                      have CA := added_any hA8.t2
                      rw [htc'', add_len, ← hP.out] at CA
                      have K8 := hA8.kp
                      have hPb : ((P : Int) == ((P + 1 : Nat) : Int) - 1) = true := by simp
                      clear hA7 hA8
                      go_wp2_with fail
                      refine CA.mono ?_
                      rintro e w9 ⟨rfl, hw9⟩
                      have K9 : Keeps (fun _ => False) w w9 := by rw [hw9]; exact K8
                      clear CA hw9
                      go_wp2_with fail
                      go_ret
                      exact ⟨rfl, K9.below (Nat.le_refl _) (fun _ _ e => e)⟩
end Go.Proofs.Ytagplkgjdaojnaa
