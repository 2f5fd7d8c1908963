import Derived.Test.YtdldhblhbbgloaaLocFS
namespace Go.Proofs.Ytdldhblhbbgloaa
open Go.RowKit

set_option maxHeartbeats 6400000 in
set_option maxRecDepth 1000000 in
theorem freshWalk {w : World} (n : Int) (_ : I64 n) {a : Option Addr} {l : List Oq} (hl : OL w a l) (_ : ∀ q ∈ l, q.ok) (hln : l.length ≤ 2199023255488) (cap : Nat) :
    Calls Try.prog 7 #[.int .i64 n, .slice a l.length cap] w fun e w' => e = .returned (.bool true) ∧ Below w.heap.size w w' := by
  obtain ⟨i8, hi8, hy0, hy1, hy2⟩ := info_parts infoO
  have hh := head_any w
  go_enter Try.func7, Try.ntmps7
  go_wp2_with (go_at_call 9; refine hh.mono ?_; clear hh; rintro e w1 ⟨rfl, k1⟩)
  refine (fresh_any (w := w1) (ρ := fun _ => 0) (u := 1) (j := 2) (q := 7) (fun _ _ => rfl) (by decide) (by decide) (by decide) (by decide) (fun e => e.elim (fun e => by cases e) (fun e => by omega)) n).mono ?_
  rintro e w2 ⟨c, rb, wb, mb, ρ2, hc, rfl, R2, x2⟩
  have hrq := reqn rb
  have k2 : Keeps (fun _ => False) w w2 := k1.trans' x2.keeps (fun _ _ e => e) (fun i hi e => sq0 e)
  have lo2 : ∀ i, i < w.heap.size → ρ2 i = 0 := fun i hi => x2.old i (Nat.lt_of_lt_of_le hi k1.size)
  have F3 : FS w w2 ρ2 rb wb mb (nw (fv c) 0 c) (nm Mm.new c) 0 (.slice none 0 0) [] := ⟨R2, k2, lo2, World.ownsRow_nil _ _ _ _, fun g e => by cases e⟩
  clear lo2 k2 x2 R2 k1
  go_wp2_with fail
  go_loopw [6, 7, 8] (fun sv rv iv W => ∃ (i : Nat) (ρ : Nat → Nat) (s : Ws) (m : Mm) (k : Nat) (sd : List Int), i ≤ l.length ∧ k ≤ i ∧ sd.length ≤ i ∧ iv = .int .i64 (i : Int) ∧ rv = .int .i64 (m.log.length : Int) ∧ FS w W ρ rb wb mb s m k sv sd ∧ Hid (Gn s sd)) (fun _ _ iv _ => l.length - (intOf iv).toNat)
  case atStart => exact ⟨0, ρ2, _, _, 0, [], Nat.zero_le _, Nat.le_refl _, Nat.le_refl _, rfl, rfl, F3, fun x hx => by cases hx⟩
  case round =>
    clear F3
    obtain ⟨i, ρ, s, m, k, sd, hi, hki, hsi, rfl, rfl, F, GN⟩ := hrel
    obtain ⟨sa, cs, e0, hsl⟩ := F.slice
    subst e0
    by_cases hlt : i < l.length
    · have hltI : (i : Int) < (l.length : Int) := by omega
      obtain ⟨b, off, rfl, hb, hcs⟩ := hl.some (by omega)
      have OA := (hcs i hlt).keep F.kp (fun e => e)
      obtain ⟨c0, c1, c2, c3, c4, c5, c6, c7⟩ := OA
      obtain ⟨qo, hqo⟩ : ∃ qo, Hid (oa l i = qo) := ⟨_, rfl⟩
      rw [show oa l i = qo from hqo] at c0 c1 c2 c3 c4 c5 c6 c7
      obtain ⟨wB, hwB⟩ : ∃ wB, wB = wr.alloc (.cells #[.int .i64 qo.kind, .int .i64 qo.a, .int .i64 qo.b, .int .i64 qo.c, .int .i64 qo.v.num, .int .i64 qo.v.next, .bool qo.v.dead, .bool qo.shut] 30) := ⟨_, rfl⟩
      have KB : Keeps (fun _ => False) wr wB := by rw [hwB]; exact (Keeps.refl _ wr).alloc _
      have lB : wr.heap.size < wB.heap.size := by rw [hwB]; simp
      have g0 : wB.cell? ⟨wr.heap.size, 0, none⟩ = some (.int .i64 qo.kind) := by rw [hwB]; simp
      have g1 : wB.cell? ⟨wr.heap.size, 1, none⟩ = some (.int .i64 qo.a) := by rw [hwB]; simp
      have g2 : wB.cell? ⟨wr.heap.size, 2, none⟩ = some (.int .i64 qo.b) := by rw [hwB]; simp
      have g3 : wB.cell? ⟨wr.heap.size, 3, none⟩ = some (.int .i64 qo.c) := by rw [hwB]; simp
      have g4 : wB.cell? ⟨wr.heap.size, 4, none⟩ = some (.int .i64 qo.v.num) := by rw [hwB]; simp
      have g5 : wB.cell? ⟨wr.heap.size, 5, none⟩ = some (.int .i64 qo.v.next) := by rw [hwB]; simp
      have g6 : wB.cell? ⟨wr.heap.size, 6, none⟩ = some (.bool qo.v.dead) := by rw [hwB]; simp
      have g7 : wB.cell? ⟨wr.heap.size, 7, none⟩ = some (.bool qo.shut) := by rw [hwB]; simp
      have FB := F.new KB
      have OWR : Hid (wr.ownsRow w.heap.size 3 1 (.slice sa sd.length cs) sd.length (fl ic sd)) := F.ow
      have rB : ρ wr.heap.size = 0 := F.rs.st.bnd _ (Nat.le_refl _)
      have hce := cellOf_any FB.rs qo.a
      have hdo := does_any FB.rs (by omega) qo
      have HF : Hid (FS w wB ρ rb wb mb s m k (.slice sa sd.length cs) sd) := FB
      clear FB F hcs hsl
      simp only [opv] at hdo
      go_wp2_with fail
      rw [← hwB]
      refine hce.mono ?_
      clear hce hwB c0 c1 c2 c3 c4 c5 c6 c7
      rintro e wB' ⟨was, rfl, ewB, hwas⟩
      subst ewB
      have HW : Hid (∀ x : Nat, qo.a = x → x < s.objs.length → was = m.val (s.ob x)) := hwas
      clear hwas
      go_wp2_with fail
      refine hdo.mono ?_
      clear hdo
      rintro e W4 ⟨er, d, nn, rfl, ρ4, s4, m1, m4, k4, hop, hdo, R4, x4⟩
      have I1 : Hid (Inv s m1) := hop.inv HF.out.rs.iv
      have hk4 : k4 ≤ i + 1 := by have := hop.le; omega
      have HDO : Hid (Do s m1 qo s4 m4 er d nn) := hdo
      have HOP : Hid (Opn m k qo m1 k4) := hop
      have G4 : Hid (Gn s4 sd) := GN.out.step I1.out hdo
      have hrw := hdo.rows
      rw [hop.rows] at hrw
      have nB : ¬ Sq 1 2 7 (ρ wr.heap.size) := by rw [rB]; exact sq0
      have p0 := x4.cell (p := ⟨wr.heap.size, 0, none⟩) g0 nB
      have p1 := x4.cell (p := ⟨wr.heap.size, 1, none⟩) g1 nB
      have p2 := x4.cell (p := ⟨wr.heap.size, 2, none⟩) g2 nB
      have p3 := x4.cell (p := ⟨wr.heap.size, 3, none⟩) g3 nB
      obtain ⟨wC, hwC⟩ : ∃ wC, wC = W4.alloc (.cells #[.int .i64 er, .bool d, .int .i64 nn] 32) := ⟨_, rfl⟩
      have KC : Keeps (fun _ => False) W4 wC := by rw [hwC]; exact (Keeps.refl _ W4).alloc _
      have q0 := KC.cell p0 (fun e => e)
      have q1 := KC.cell p1 (fun e => e)
      have q2 := KC.cell p2 (fun e => e)
      have q3 := KC.cell p3 (fun e => e)
      have z0 : ∀ ob, (W4.alloc ob).cell? ⟨wr.heap.size, 0, none⟩ = some (.int .i64 qo.kind) := fun ob => ((Keeps.refl (fun _ => False) W4).alloc ob).cell p0 (fun e => e)
      have t0 : wC.cell? ⟨W4.heap.size, 0, none⟩ = some (.int .i64 er) := by rw [hwC]; simp
      have t1 : wC.cell? ⟨W4.heap.size, 1, none⟩ = some (.bool d) := by rw [hwC]; simp
      have F4 : FS w wC ρ4 rb wb mb s4 m4 k4 (.slice sa sd.length cs) sd := (HF.out.step R4 x4).new KC
      have sC : wC.heap.size = W4.heap.size + 1 := by rw [hwC]; simp
      have HN3 : Hid (¬ (Value.slice sa sd.length cs).ownBlock = some wr.heap.size) := fun e => by have := owns_lt' OWR.out _ e; omega
      have HN4 : Hid (¬ (Value.slice sa sd.length cs).ownBlock = some W4.heap.size) := fun e => by have := owns_lt' OWR.out _ e; have := x4.keeps.size; omega
      have c0 := F4.rs.c0
      have cc0 : ∀ ob, (W4.alloc ob).cell? ⟨rb, 0, none⟩ = some (.pointer (some ⟨mb, 0, none⟩)) := fun ob => ((Keeps.refl (fun _ => False) W4).alloc ob).cell R4.c0 (fun e => e)
      have hlg := slog F4.rs (by omega)
      have HR : Hid (m4.log.length ≤ k4) := by have := F4.rs.lg; show m4.log.length ≤ k4; split at this <;> omega
      have H4 : Hid (FS w wC ρ4 rb wb mb s4 m4 k4 (.slice sa sd.length cs) sd) := F4
      have hml : m.log.length ≤ k := by have := HF.out.rs.lg; split at this <;> omega
      have NOD : Hid (er ≠ 0 → d = false) := hdo.nod
      obtain ⟨kd, oa_, ob_, oc_, ov_, sh_⟩ := qo
      simp only [] at q0 q1 q2 q3 z0 hrw HW
      clear p0 p1 p2 p3 g0 g1 g2 g3 g4 g5 g6 g7 hdo hop F4 R4 x4 HF
      rcases Int.lt_or_le kd 8 with h8 | h8
      · have e1 : decide (8 ≤ kd) = false := decide_eq_false (by omega)
        have e2 : (kd == 9) = false := beq_eq_false_iff_ne.2 (by omega)
        have e3 : decide (kd = 9) = false := decide_eq_false (by omega)
        have hlen : m4.log.length = m.log.length := hrw.2 (by omega)
        rw [hlen] at hlg
        have HL : Hid (m4.log.length = m.log.length) := hlen
        clear hrw hlen
        clear HDO HOP HW HN3 HN4
        go_wp2_with fail
        rw [← hwC]
        clear hwC z0 cc0
        refine hlg.mono ?_
        clear hlg
        rintro e w5 ⟨al, cl, rfl, k5⟩
        have F5 := H4.out.new k5
        have q05 := k5.cell q0 (fun e => e)
        have t15 := k5.cell t1 (fun e => e)
        clear H4 q0 q1 q2 q3 t0 t1 c0
        go_wp2_with fail
        go_roundw
        case rel => exact ⟨i + 1, ρ4, s4, m4, k4, sd, by omega, by omega, by omega, by go_num, by rw [HL.out], F5, G4⟩
        case measure => simp [intOf]; omega
      rcases Int.lt_or_le 14 kd with h14 | h14
      · have e1 : decide (8 ≤ kd) = true := decide_eq_true h8
        have e1' : decide (kd ≤ 14) = false := decide_eq_false (by omega)
        have e2 : (kd == 9) = false := beq_eq_false_iff_ne.2 (by omega)
        have e3 : decide (kd = 9) = false := decide_eq_false (by omega)
        have hlen : m4.log.length = m.log.length := hrw.2 (by omega)
        rw [hlen] at hlg
        have HL : Hid (m4.log.length = m.log.length) := hlen
        clear hrw hlen
        clear HDO HOP HW HN3 HN4
        go_wp2_with fail
        rw [← hwC]
        clear hwC z0 cc0
        refine hlg.mono ?_
        clear hlg
        rintro e w5 ⟨al, cl, rfl, k5⟩
        have F5 := H4.out.new k5
        have q05 := k5.cell q0 (fun e => e)
        have t15 := k5.cell t1 (fun e => e)
        clear H4 q0 q1 q2 q3 t0 t1 c0
        go_wp2_with fail
        go_roundw
        case rel => exact ⟨i + 1, ρ4, s4, m4, k4, sd, by omega, by omega, by omega, by go_num, by rw [HL.out], F5, G4⟩
        case measure => simp [intOf]; omega
      have e1 : decide (8 ≤ kd) = true := decide_eq_true h8
      have e1' : decide (kd ≤ 14) = true := decide_eq_true h14
      by_cases he : er = 0
      · subst he
        have hlen : m4.log.length = m.log.length + 1 := hrw.1 ⟨⟨h8, h14⟩, (by first | trivial | rfl)⟩
        rw [hlen] at hlg
        have HL : Hid (m4.log.length = m.log.length + 1) := hlen
        clear hrw hlen
        by_cases h9 : kd = 9
        · subst h9
          cases d with
          | false =>
            clear HDO HOP HW HN3 HN4
            go_wp2_with fail
            rw [← hwC]
            clear hwC z0 cc0
            refine hlg.mono ?_
            clear hlg
            rintro e w5 ⟨al, cl, rfl, k5⟩
            have F5 := H4.out.new k5
            have q05 := k5.cell q0 (fun e => e)
            have t15 := k5.cell t1 (fun e => e)
            clear H4 q0 q1 q2 q3 t0 t1 c0
            go_wp2_with fail
            go_roundw
            case rel => exact ⟨i + 1, ρ4, s4, m4, k4, sd, by omega, by omega, by omega, by go_num, by rw [HL.out]; go_num, F5, G4⟩
            case measure => simp [intOf]; omega
          | true =>
            obtain ⟨x, y, z, ex, ey, ez, hx, hob, hv, hv', G5, hne⟩ := HDO.out.took I1.out rfl GN.out
            have hx4 : x < s4.objs.length := by rw [hob]; exact hx
            simp only [] at ex ey ez
            subst ex ey ez
            obtain rfl : was = (y : Int) := by rw [HW.out x rfl hx, ← hv, HOP.out.val]
            have HG5 : Hid (Gn s4 (sd ++ [(y : Int)])) := G5
            have HNE : Hid (∀ g, g ∈ sd ++ [(y : Int)] → g ≠ (z : Int)) := hne
            have HV : Hid (m4.val (s4.ob x) = (z : Int)) := hv'
            clear HDO HOP HW G5 hne hv hv' hob G4
            go_wp2_with fail
            rw [← hwC]
            clear hwC z0 cc0
            refine hlg.mono ?_
            clear hlg
            rintro e w5 ⟨al, cl, rfl, k5⟩
            have F5 := H4.out.new k5
            have q05 := k5.cell q0 (fun e => e)
            have q15 := k5.cell q1 (fun e => e)
            have q25 := k5.cell q2 (fun e => e)
            have q35 := k5.cell q3 (fun e => e)
            have t15 := k5.cell t1 (fun e => e)
            have hcf := cellOf_ok F5.rs hx4
            rw [HV.out] at hcf
            have O5 : Hid (w5.ownsRow w.heap.size 3 1 (.slice sa sd.length cs) sd.length (fl ic sd)) := F5.ow
            have H5 : Hid (FS w w5 ρ4 rb wb mb s4 m4 k4 (.slice sa sd.length cs) sd) := F5
            have h63 : sd.length + 1 ≤ maxLen := by unfold maxLen; omega
            have hby : (sd.length + 1) * 8 ≤ 140737488355328 := by omega
            have lw : w.heap.size ≤ w5.heap.size := H5.out.kp.size
            clear H4 q0 q1 q2 q3 t0 t1 c0 F5
            go_wp2_with (first | (go_at_call 34; refine hcf.mono ?_; clear hcf; rintro e w' ⟨rfl, rfl⟩) | (at_builtin; refine wpList_append_lies _ rfl _ _ _ rfl w.heap.size 3 i8 _ 1 8 underO hi8 hy0 hy1 hy2 rfl (by decide) (.slice sa sd.length cs) sd.length (fl ic sd) rfl (O5.out.alloc _) ⟨w5.heap.size, 0, none⟩ 1 1 [.int .i64 (y : Int)] rfl rfl (World.news_of_block (cs := #[.int .i64 (y : Int)]) (t := 3) (fr := (0, 0)) (heap_alloc_new w5 _)) (by simp [Value.oneCell']) (by omega) h63 hby (by simp; omega) _ rfl ?_))
            intro gg cap1 w6 hown1 hgrow hat hlt1
            have KL : Keeps (fun _ => False) w5 (w5.alloc (.cells #[.int .i64 (y : Int)] 3)) := (Keeps.refl _ w5).alloc _
            have F6 := H5.out.app (y : Int) KL hgrow hown1 (hat.imp id (fun e => by omega))
            obtain ⟨a6, c6, e6, hs6⟩ := F6.slice
            injection e6 with e61 e62 e63
            subst e61 e63
            have HS6 : Hid (∀ x, x < (sd ++ [(y : Int)]).length → w6.cell? ⟨gg, x, none⟩ = some (.int .i64 ((sd ++ [(y : Int)]).getD x 0))) := fun x hx => by
              obtain ⟨g', e1, _, c, _⟩ := hs6 x hx
              cases e1
              exact c
            have H6 : Hid (FS w w6 ρ4 rb wb mb s4 m4 k4 (.slice (some ⟨gg, 0, none⟩) (sd.length + 1) cap1) (sd ++ [(y : Int)])) := F6
            clear hs6 F6 hgrow hat hlt1 hown1 O5 H5 q05 q15 q25 q35 t15 e62 KL
            go_wp2_with fail
            go_loopw [14] (fun iv W => ∃ t : Nat, t ≤ sd.length + 1 ∧ iv = .int .i64 (t : Int) ∧ W = w6) (fun iv _ => sd.length + 1 - (intOf iv).toNat)
            case atStart => exact ⟨0, Nat.zero_le _, rfl, rfl⟩
            case round =>
              obtain ⟨t, ht, rfl, rfl⟩ := hrel
              by_cases hlt2 : t < sd.length + 1
              · have hltI2 : (t : Int) < (sd.length : Int) + 1 := by omega
                have hltI3 : (t : Int) < ((sd.length + 1 : Nat) : Int) := by omega
                have ct := HS6.out t (by simp; omega)
                have nt : (sd ++ [(y : Int)]).getD t 0 ≠ (z : Int) := HNE.out _ (by
                  have hl' : t < (sd ++ [(y : Int)]).length := by simp; omega
                  rw [List.getD_eq_getElem?_getD, List.getElem?_eq_getElem hl']
                  exact List.getElem_mem hl')
                generalize (sd ++ [(y : Int)]).getD t 0 = gt at ct nt
                have v1 : (gt == (z : Int)) = false := beq_eq_false_iff_ne.2 nt
                have v2 : decide (gt = (z : Int)) = false := decide_eq_false nt
                go_wp2_with fail
                go_roundw
                case rel => exact ⟨t + 1, by omega, by go_num, (by first | trivial | rfl)⟩
                case measure => simp [intOf]; omega
              · have hltI2 : ¬ (t : Int) < (sd.length : Int) + 1 := by omega
                obtain rfl : t = sd.length + 1 := by omega
                go_wp2_with fail
                go_roundw
                case rel => exact ⟨i + 1, ρ4, s4, m4, k4, sd ++ [(y : Int)], by omega, by omega, by simp; omega, by go_num, by rw [HL.out]; go_num, by simpa using H6.out, HG5⟩
                case measure => simp [intOf]; omega
        · have e2 : (kd == 9) = false := beq_eq_false_iff_ne.2 h9
          have e3 : decide (kd = 9) = false := decide_eq_false h9
          clear HDO HOP HW HN3 HN4
          go_wp2_with fail
          rw [← hwC]
          clear hwC z0 cc0
          refine hlg.mono ?_
          clear hlg
          rintro e w5 ⟨al, cl, rfl, k5⟩
          have F5 := H4.out.new k5
          have q05 := k5.cell q0 (fun e => e)
          have t15 := k5.cell t1 (fun e => e)
          clear H4 q0 q1 q2 q3 t0 t1 c0
          go_wp2_with fail
          go_roundw
          case rel => exact ⟨i + 1, ρ4, s4, m4, k4, sd, by omega, by omega, by omega, by go_num, by rw [HL.out]; go_num, F5, G4⟩
          case measure => simp [intOf]; omega
      · have w1_ : (er == 0) = false := beq_eq_false_iff_ne.2 he
        have w2_ : decide (er = 0) = false := decide_eq_false he
        have hlen : m4.log.length = m.log.length := hrw.2 (fun q => he q.2)
        rw [hlen] at hlg
        have HL : Hid (m4.log.length = m.log.length) := hlen
        obtain rfl : d = false := NOD.out he
        clear hrw hlen
        by_cases h9 : kd = 9
        · subst h9
          clear HDO HOP HW HN3 HN4
          go_wp2_with fail
          rw [← hwC]
          clear hwC z0 cc0
          refine hlg.mono ?_
          clear hlg
          rintro e w5 ⟨al, cl, rfl, k5⟩
          have F5 := H4.out.new k5
          have q05 := k5.cell q0 (fun e => e)
          have t15 := k5.cell t1 (fun e => e)
          clear H4 q0 q1 q2 q3 t0 t1 c0
          go_wp2_with fail
          go_roundw
          case rel => exact ⟨i + 1, ρ4, s4, m4, k4, sd, by omega, by omega, by omega, by go_num, by rw [HL.out], F5, G4⟩
          case measure => simp [intOf]; omega
        · have e2 : (kd == 9) = false := beq_eq_false_iff_ne.2 h9
          have e3 : decide (kd = 9) = false := decide_eq_false h9
          clear HDO HOP HW HN3 HN4
          go_wp2_with fail
          rw [← hwC]
          clear hwC z0 cc0
          refine hlg.mono ?_
          clear hlg
          rintro e w5 ⟨al, cl, rfl, k5⟩
          have F5 := H4.out.new k5
          have q05 := k5.cell q0 (fun e => e)
          have t15 := k5.cell t1 (fun e => e)
          clear H4 q0 q1 q2 q3 t0 t1 c0
          go_wp2_with fail
          go_roundw
          case rel => exact ⟨i + 1, ρ4, s4, m4, k4, sd, by omega, by omega, by omega, by go_num, by rw [HL.out], F5, G4⟩
          case measure => simp [intOf]; omega
    · have hltI : ¬ (i : Int) < (l.length : Int) := by omega
      have KF := F.kp
      clear F hsl
      go_wp2_with fail
      go_ret
      exact ⟨rfl, KF.below (Nat.le_refl _) (fun _ _ e => e)⟩
end Go.Proofs.Ytdldhblhbbgloaa
