import Derived.Test.YtmcchconnfoffabCmS1
import Derived.Test.YtmcchconnfoffabCmX
namespace Go.Proofs.Ytmcchconnfoffab
open Go.RowKit Go.Maps Go.Deep
set_option maxHeartbeats 3200000 in
set_option maxRecDepth 1000000 in
theorem asked_any {w : World} {am aq : Option Addr} {ms : List Mk} {qs : List Ak} (hm : ML w am ms) (hq : QL w aq qs) (_hmo : ∀ q ∈ ms, q.ok) (hqo : ∀ q ∈ qs, q.ok) (hml : (ms.length + 2) * 16 ≤ 140737488355328) (hql : qs.length ≤ 9223372036854775807) (cm cq : Nat) (held : Int) :
    Calls Try.prog 12 #[.slice am ms.length cm, .slice aq qs.length cq, .int .i64 held] w fun e w' => e = .returned (.bool true) ∧ Keeps (fun _ => False) w w' := by
  have hn : Calls Try.prog 14 #[.int .i64 0, .int .i64 9] w fun e w' => ∃ b, e = .returned (.tuple #[.pointer (some ⟨b, 0, none⟩), .int .i64 0]) ∧ w.heap.size ≤ b ∧ Mg w' b 0 9 ∧ Keeps (fun _ => False) w w' := new0 w ⟨by omega, by omega⟩
  go_enter Try.func12, Try.ntmps12
  go_wp2_with (first | (go_at_call 14; refine hn.mono ?_; clear hn; rintro e w1 ⟨b, rfl, hb, M, k1⟩) | (go_at_call 15; refine (num_any _ _).mono ?_; rintro e w2 ⟨rfl, rfl⟩))
  have A0 := AK.start k1 M
  clear k1 M hb
  go_loopw [9, 10, 36] (fun va vk iv W => ∃ (j : Nat) (l : List Mn), j ≤ ms.length ∧ iv = .int .i64 (j : Int) ∧ 1 ≤ l.length ∧ l.length ≤ j + 1 ∧ AK w W va vk l) (fun _ _ iv _ => ms.length - (intOf iv).toNat)
  case atStart => exact ⟨0, _, Nat.zero_le _, rfl, by simp, by simp, A0⟩
  case round =>
    obtain ⟨j, l, hj, rfl, hl1, hl2, A⟩ := hrel
    clear A0
    by_cases hlt : j < ms.length
    · have hltI : (j : Int) < (ms.length : Int) := by omega
      obtain ⟨bm, off, rfl, hbm, hcm⟩ := (hm.keep A.keeps).some (by omega)
      obtain ⟨d0, d1⟩ := hcm j hlt
      generalize ms.getD j mk0 = q at *
      clear hcm
      by_cases hok : okMk q
      · obtain ⟨k0, kk, kp⟩ := hok
        obtain ⟨kd, p⟩ := q
        simp only at k0 kk kp d0 d1
        obtain ⟨k, rfl⟩ := Int.eq_ofNat_of_zero_le k0
        have hk5 : k < 5 := by omega
        clear k0 kk
        go_wp2_with fail
        refine (made_ok _ hk5 kp).mono ?_
        rintro e w3 ⟨mb, rfl, hmb, M3, k3⟩
        have A3 := A.new (((Keeps.refl _ wr).alloc _).trans k3)
        have e0 := k3.cell (p := ⟨wr.heap.size, 0, none⟩) (v := .int .i64 (k : Int)) (by simp) id
        have e1 := k3.cell (p := ⟨wr.heap.size, 1, none⟩) (v := .int .i64 p) (by simp) id
        simp at hmb
        have ln1 : u9.ownBlock ≠ some mb := fun e => by have := owns_lt' A.oa _ e; omega
        have ln2 : u10.ownBlock ≠ some mb := fun e => by have := owns_lt' A.ok _ e; omega
        have ln3 : ¬ u9.ownBlock = some wr.heap.size := fun e => by have := owns_lt' A.oa _ e; omega
        obtain ⟨va', w5, hr5, o5, k5, g5⟩ := ptr_run A3.oa (by omega) (x := .pointer (some ⟨mb, 0, none⟩)) rfl
        have f0 := k5.cell e0 ln3
        have f1 := k5.cell e1 ln3
        obtain ⟨vk', w6, hr6, o6, k6, g6⟩ := mk_run (k5.owns A3.ok (fun g e1 e2 => A3.ne g e2 e1)) (by omega) (k : Int) p
        have A6 := A3.add (m := ⟨mb, k, p⟩) M3 ln1 ln2 o5 k5 g5 o6 k6 g6
        clear A A3 M3 k3 e0 e1 ln1 ln2 ln3 o5 k5 g5 o6 k6 g6 hmb d0 d1 hk5 kp
        go_wp2_with (first | (at_builtin; refine wpList_append_run rfl _ _ _ rfl _ _ va' w5 rfl rfl hr5 ?_; clear hr5) | (at_builtin; refine wpList_append_run rfl _ _ _ rfl _ _ vk' w6 rfl rfl hr6 ?_; clear hr6))
        go_roundw
        case rel => exact ⟨j + 1, _, by omega, by go_num, by simp, by simp; omega, A6⟩
        case measure => simp [intOf]; omega
      · have hmade := made_no (wr.alloc (.cells #[.int .i64 q.kind, .int .i64 q.pat] 52)) hok
        obtain ⟨kd, p⟩ := q
        simp only at d0 d1 hmade
        clear hok
        go_wp2_with fail
        refine hmade.mono ?_
        clear hmade
        rintro e w3 ⟨rfl, k3⟩
        have A3 := A.new (((Keeps.refl _ wr).alloc _).trans k3)
        clear A k3 d0 d1
        go_wp2_with fail
        go_roundw
        case rel => exact ⟨j + 1, l, by omega, by go_num, hl1, by omega, A3⟩
        case measure => simp [intOf]; omega
    · have hge : decide ((j : Int) < (ms.length : Int)) = false := by simp; omega
      have hgn : decide (j < ms.length) = false := by simp; omega
      have hll : l.length ≤ 9223372036854775807 := by omega
      clear hm hml hl2
      obtain ⟨wo, rfl⟩ : ∃ wo, wo = wr := ⟨_, rfl⟩
      go_wp2_with fail
      go_loopw [60] (fun iv W => ∃ i : Nat, i ≤ qs.length ∧ iv = .int .i64 (i : Int) ∧ AK w W u9 u10 l) (fun iv _ => qs.length - (intOf iv).toNat)
      case atStart => exact ⟨0, Nat.zero_le _, rfl, A⟩
      case round =>
        obtain ⟨i, hi, rfl, A2⟩ := hrel
        clear A
        by_cases hit : i < qs.length
        · have hitI : (i : Int) < (qs.length : Int) := by omega
          obtain ⟨bq, oq, rfl, hbq, hcq⟩ := (hq.keep A2.keeps).some (by omega)
          obtain ⟨d0, d1, d2, d3, d4, d5, d6, d7, d8⟩ := hcq i hit
          have hqk := (hqo (qs.getD i ak0) (by rw [List.getD_eq_getElem?_getD, List.getElem?_eq_getElem hit]; exact List.getElem_mem _)).2
          generalize qs.getD i ak0 = a at *
          obtain ⟨man, mine, theirs, born, enemy, flag, tries, waited, draw⟩ := a
          simp only at d0 d1 d2 d3 d4 d5 d6 d7 d8 hqk
          clear hcq hq hqo
          obtain ⟨w5, hw5⟩ : ∃ w5, w5 = wr.alloc (.cells #[.int .i64 man, .int .i64 mine, .int .i64 theirs, .int .i64 born, .int .i64 enemy, .bool flag, .int .i64 tries, .int .i64 waited, .int .i64 draw] 56) := ⟨_, rfl⟩
          have A5 : AK w w5 u9 u10 l := by rw [hw5]; exact A2.new ((Keeps.refl _ wr).alloc _)
          have c0 : w5.cell? ⟨wr.heap.size, 0, none⟩ = some (.int .i64 man) := by rw [hw5]; simp
          have c1 : w5.cell? ⟨wr.heap.size, 1, none⟩ = some (.int .i64 mine) := by rw [hw5]; simp
          have c2 : w5.cell? ⟨wr.heap.size, 2, none⟩ = some (.int .i64 theirs) := by rw [hw5]; simp
          have c3 : w5.cell? ⟨wr.heap.size, 3, none⟩ = some (.int .i64 born) := by rw [hw5]; simp
          have c4 : w5.cell? ⟨wr.heap.size, 4, none⟩ = some (.int .i64 enemy) := by rw [hw5]; simp
          have c5 : w5.cell? ⟨wr.heap.size, 5, none⟩ = some (.bool flag) := by rw [hw5]; simp
          have c6 : w5.cell? ⟨wr.heap.size, 6, none⟩ = some (.int .i64 tries) := by rw [hw5]; simp
          have c7 : w5.cell? ⟨wr.heap.size, 7, none⟩ = some (.int .i64 waited) := by rw [hw5]; simp
          have c8 : w5.cell? ⟨wr.heap.size, 8, none⟩ = some (.int .i64 draw) := by rw [hw5]; simp
          obtain ⟨qi, hqi, hpick⟩ := pick_any w5 (i := man) (n := l.length) (by omega) hll
          obtain ⟨ga, ca, gk, ck, rfl, rfl, x0, x1, x2, Mq⟩ := A5.at hqi
          generalize l.getD qi mn0 = mn at *
          obtain ⟨mb, mk, mp⟩ := mn
          simp only [mptr] at x0 x1 x2 Mq
          clear A2
          have q0 : (0 : Int) ≤ (qi : Int) := by omega
          have q1 : (qi : Int) < (l.length : Int) := by omega
          go_wp2_with (go_at_call 20; rw [← hw5]; refine hpick.mono ?_; clear hpick hw5 d0 d1 d2 d3 d4 d5 d6 d7 d8; rintro e w6 ⟨rfl, rfl⟩)
          obtain ⟨⟨va, vt, vn⟩, hV⟩ : ∃ V, judgev mk mp (Cf.norm ⟨mine, theirs, born, enemy, flag, tries, waited, draw⟩) = V := ⟨_, rfl⟩
          have hj := fun W (M : Mg W mb mk mp) => judge_x M hqk hV
          have hrj := fun W => rjudge_x W Mq.1 Mq.2.1 hqk hV
          clear hV hqk c0
          have R6 := R3.mk1 w6 rfl
          have n0 := World.new_ne w6 _ x0
          have n1 := World.new_ne w6 _ c1
          have n2 := World.new_ne w6 _ c2
          have n3 := World.new_ne w6 _ c3
          have n4 := World.new_ne w6 _ c4
          have n5 := World.new_ne w6 _ c5
          have n6 := World.new_ne w6 _ c6
          have n7 := World.new_ne w6 _ c7
          have n8 := World.new_ne w6 _ c8
          go_region_held3 (fun w' => w'.cell? ⟨ga, qi, none⟩ = some (.pointer (some ⟨mb, 0, none⟩)) ∧ w'.cell? ⟨wr.heap.size, 1, none⟩ = some (.int .i64 mine) ∧ w'.cell? ⟨wr.heap.size, 2, none⟩ = some (.int .i64 theirs) ∧ w'.cell? ⟨wr.heap.size, 3, none⟩ = some (.int .i64 born) ∧ w'.cell? ⟨wr.heap.size, 4, none⟩ = some (.int .i64 enemy) ∧ w'.cell? ⟨wr.heap.size, 5, none⟩ = some (.bool flag) ∧ w'.cell? ⟨wr.heap.size, 6, none⟩ = some (.int .i64 tries) ∧ w'.cell? ⟨wr.heap.size, 7, none⟩ = some (.int .i64 waited) ∧ w'.cell? ⟨wr.heap.size, 8, none⟩ = some (.int .i64 draw)) (go_keep) (first | (go_at_call 10; refine (hj _ (Mq.keep ((Keeps.refl _ w6).drew))).mono ?_; rintro e w7 ⟨rfl, k7⟩; have k8 : Keeps (fun _ => False) w6 w7 := ((Keeps.refl _ w6).drew).trans k7; clear k7; have y0 := k8.cell x0 id; have y1 := k8.cell c1 id; have y2 := k8.cell c2 id; have y3 := k8.cell c3 id; have y4 := k8.cell c4 id; have y5 := k8.cell c5 id; have y6 := k8.cell c6 id; have y7 := k8.cell c7 id; have y8 := k8.cell c8 id) | (go_at_call 10; refine (hj _ (Mq.keep (((Keeps.refl _ w6).alloc _).drew))).mono ?_; rintro e w7 ⟨rfl, k7⟩; obtain ⟨s0, s1, s2, z0, z1, z2⟩ := (R6.keep ((Keeps.refl _ _).drew)).keep k7; have k8 : Keeps (fun _ => False) w6 w7 := (((Keeps.refl _ w6).alloc _).drew).trans k7; clear k7; have y0 := k8.cell x0 id; have y1 := k8.cell c1 id; have y2 := k8.cell c2 id; have y3 := k8.cell c3 id; have y4 := k8.cell c4 id; have y5 := k8.cell c5 id; have y6 := k8.cell c6 id; have y7 := k8.cell c7 id; have y8 := k8.cell c8 id))
          all_goals first
            | (obtain ⟨W8, hW8⟩ : ∃ W8, W8 = w7.alloc (.cells #[.bool va, .bool vt, .int .i64 vn] 28) := ⟨_, rfl⟩
               rw [← hW8]
               have V8 : VB W8 w7.heap.size ⟨va, vt, vn⟩ := by rw [hW8]; exact VB.mk w7 ⟨va, vt, vn⟩
               have K8 : Keeps (fun _ => False) w6 W8 := by rw [hW8]; exact k8.alloc _
               obtain ⟨vb, hvb⟩ : ∃ vb, vb = w7.heap.size := ⟨_, rfl⟩
               rw [← hvb] at V8 ⊢
               clear hW8 hvb)
            | (obtain ⟨W8, hW8⟩ : ∃ W8, W8 = ((w7.setCell ⟨w6.heap.size, 0, none⟩ (.bool va)).setCell ⟨w6.heap.size, 1, none⟩ (.bool vt)).setCell ⟨w6.heap.size, 2, none⟩ (.int .i64 vn) := ⟨_, rfl⟩
               rw [← hW8]
               have V8 : VB W8 w6.heap.size ⟨va, vt, vn⟩ := by
                 rw [hW8]
                 refine ⟨?_, ?_, ?_⟩ <;> go_simp
               have K8 : Keeps (fun _ => False) w6 W8 := by rw [hW8]; exact end3 k8 (Nat.le_refl _) _ _ _
               obtain ⟨vb, hvb⟩ : ∃ vb, vb = w6.heap.size := ⟨_, rfl⟩
               rw [← hvb] at V8 ⊢
               clear hW8 hvb)
          all_goals
            have A8 := A5.new K8
            have x1' := K8.cell x1 id
            obtain ⟨v0, v1, v2⟩ := V8
            have X1 := ks_cell (K8.cell x1 id)
            have X2 := ks_cell (K8.cell x2 id)
            have X3 := ks_cell v0
            have X4 := ks_cell v1
            have X5 := ks_cell v2
            have g1 := ks_cell (K8.cell c1 id)
            have g2 := ks_cell (K8.cell c2 id)
            have g3 := ks_cell (K8.cell c3 id)
            have g4 := ks_cell (K8.cell c4 id)
            have g5 := ks_cell (K8.cell c5 id)
            have g6 := ks_cell (K8.cell c6 id)
            have g7 := ks_cell (K8.cell c7 id)
            have g8 := ks_cell (K8.cell c8 id)
            have hrk : ∀ U : KS W8, _ := fun U => hrj U.val
            have hNE : Nonempty (KS W8) := ⟨⟨W8, Keeps.refl _ W8⟩⟩
            clear A5 K8 x0 x1 x2 c1 c2 c3 c4 c5 c6 c7 c8 v0 v1 v2 Mq hj hrj R6 n0 n1 n2 n3 n4 n5 n6 n7 n8 k8
            cases hh1 : (held != 5)
            · go_wp2_with fail
              refine wp_region_ks (by kernel_rfl) (by kernel_rfl) ?_
              repeat (go_big_quiet_step ((go_at_call 21; refine (hrk _).mono ?_; rintro e w9 ⟨rfl, k9⟩; exact ⟨rfl, ⟨_, (KS.property _).trans k9⟩, rfl⟩)))
              refine wpQuiet_nil ?_
              rintro _ ⟨U, rfl⟩
              have A9 := A8.new U.property
              clear X1 X2 X3 X4 X5 g1 g2 g3 g4 g5 g6 g7 g8 hrk hNE A8 x1'
              generalize U.val = wu at *
              go_wp2_with fail
              go_roundw
              case rel => exact ⟨i + 1, by omega, by go_num, A9⟩
              case measure => simp [intOf]; omega
            · cases hh2 : (held != (mk : Int))
              · go_wp2_with fail
                refine wp_region_ks (by kernel_rfl) (by kernel_rfl) ?_
                repeat (go_big_quiet_step ((go_at_call 21; refine (hrk _).mono ?_; rintro e w9 ⟨rfl, k9⟩; exact ⟨rfl, ⟨_, (KS.property _).trans k9⟩, rfl⟩)))
                refine wpQuiet_nil ?_
                rintro _ ⟨U, rfl⟩
                have A9 := A8.new U.property
                clear X1 X2 X3 X4 X5 g1 g2 g3 g4 g5 g6 g7 g8 hrk hNE A8 x1'
                generalize U.val = wu at *
                go_wp2_with fail
                go_roundw
                case rel => exact ⟨i + 1, by omega, by go_num, A9⟩
                case measure => simp [intOf]; omega
              · go_wp2_with fail
                go_roundw
                case rel => exact ⟨i + 1, by omega, by go_num, A8⟩
                case measure => simp [intOf]; omega
        · have hge2 : decide ((i : Int) < (qs.length : Int)) = false := by simp; omega
          have hgn2 : decide (i < qs.length) = false := by simp; omega
          go_wp2_with fail
          go_ret
          exact ⟨rfl, A2.keeps⟩
end Go.Proofs.Ytmcchconnfoffab
