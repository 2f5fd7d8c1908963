import Derived.Test.YtagplkgjdaojnaaTabPw
namespace Go.Proofs.Ytagplkgjdaojnaa
open Go.RowKit
attribute [local go_sem] Oper.semAt_some

theorem zero_tv (w : World) : TV (w.alloc (.cells #[.slice none 0 0, .map none, .slice none 0 0] 50)) ⟨w.heap.size, .slice none 0 0, none, .slice none 0 0⟩ [] := by
  refine ⟨?_, ?_, ?_, fun o ho => ?_, World.ownsRow_nil _ _ _ _, World.ownsRow_nil _ _ _ _, .inl ⟨rfl, rfl⟩, Gd.nil, fun e => (by cases e), fun e => (by cases e), fun g e => (by cases e), fun e => (by cases e), fun g e => (by cases e)⟩
  · simp
  · simp
  · simp
  · simp
theorem nil_blk {tb k : Nat} (h : (⟨tb, .slice none 0 0, none, .slice none 0 0⟩ : Tk).Blk k) : k = tb := by
  rcases h with e | e | e | e
  · exact e
  · cases e
  · cases e
  · cases e
theorem nil_rblk {rb k : Nat} (h : RBlk rb (.slice none 0 0) k) : k = rb := by
  rcases h with e | e
  · exact e
  · cases e

set_option maxHeartbeats 12800000 in
set_option maxRecDepth 1000000 in
theorem plays_walk {w : World} {a0 : Option Addr} {l : List Ac} (hl : AL w a0 l) (hok : ∀ q ∈ l, q.ok) (hb : l.length ≤ 4398046511104) (cap0 : Nat) :
    Calls Try.prog 7 #[.slice a0 l.length cap0] w fun e w' => e = .returned (.bool true) ∧ Below w.heap.size w w' := by
  have C1 := new_any (w.alloc (.cells #[.slice none 0 0, .map none, .slice none 0 0] 50))
  rw [World.size_alloc] at C1
  have hpe := ev_peq
  go_enter Try.func7, Try.ntmps7
  go_wp2_with fail
  refine C1.mono ?_
  rintro e w1 ⟨rfl, h1, k1⟩
  clear C1
  have s1 : w.heap.size + 1 < w1.heap.size := h1.tlt
  have C2 := rnew_any (w1.alloc (.cells #[.pointer (some ⟨w.heap.size + 1, 0, none⟩), .pointer (some ⟨w.heap.size, 0, none⟩)] 22))
  rw [World.size_alloc] at C2
  go_wp2_with fail
  refine C2.mono ?_
  rintro e w3 ⟨rfl, h3, k3⟩
  clear C2
  have s3 : w1.heap.size + 1 < w3.heap.size := h3.lt (.inl rfl)
  have C3 := rnew_any w3
  go_wp2_with fail
  refine C3.mono ?_
  rintro e w4 ⟨rfl, h4, k4⟩
  clear C3
  have s4 : w3.heap.size < w4.heap.size := h4.lt (.inl rfl)
  have k34 := k3.trans k4
  have kz : Keeps (fun _ => False) w (w.alloc (.cells #[.slice none 0 0, .map none, .slice none 0 0] 50)) := (Keeps.refl _ w).alloc _
  have k14 : Keeps (fun _ => False) w1 w4 := ((Keeps.refl _ w1).alloc _).trans k34
  obtain ⟨ρ0, hps⟩ := PS.start2 (w := w) (W1 := w1) (W4 := w4) (tb0 := w.heap.size + 1) (tb1 := w.heap.size) (rb0 := w1.heap.size + 1) (rb1 := w3.heap.size)
    ⟨h1.new k14, h3.new k4, fun k e e' => by have x1 : k = w.heap.size + 1 := nil_blk e; have x2 : k = w1.heap.size + 1 := nil_rblk e'; omega⟩ ⟨((zero_tv w).new k1).new k14, h4, fun k e e' => by have x1 : k = w.heap.size := nil_blk e; have x2 : k = w3.heap.size := nil_rblk e'; omega⟩ (kz.trans k1) k34 (Nat.le_refl _) (by omega) s1 (by omega) s3 s4
  have H0 : Ps w (w4.alloc (.cells #[.pointer (some ⟨w1.heap.size + 1, 0, none⟩), .pointer (some ⟨w3.heap.size, 0, none⟩)] 52)) w1.heap.size 2 w4.heap.size 2 2 0 [⟨⟨w.heap.size + 1, .slice none 0 0, none, .slice none 0 0⟩, w1.heap.size + 1, .slice none 0 0, []⟩, ⟨⟨w.heap.size, .slice none 0 0, none, .slice none 0 0⟩, w3.heap.size, .slice none 0 0, []⟩] := ⟨⟨ρ0, hps⟩, rfl, fun p hp => by simp at hp; rcases hp with rfl | rfl <;> simp⟩
  obtain ⟨px, _, _, _, cx, _⟩ := H0.at_ (q := 0) (by omega)
  clear hps h1 h3 h4 k1 k3 k4 k34 k14 kz
  go_wp2_with fail
  go_loopw [4, 5, 6] (fun va vb iv W => ∃ (i N gl cl gt ct : Nat) (ps : List Pr), va = .slice (some ⟨gl, 0, none⟩) N cl ∧ vb = .slice (some ⟨gt, 0, none⟩) N ct ∧ iv = .int .i64 (i : Int) ∧ i ≤ l.length ∧ 2 ≤ N ∧ N ≤ i + 2 ∧ Ps w W gl cl gt ct N i ps) (fun _ _ iv _ => l.length - (intOf iv).toNat)
  case atStart => exact ⟨0, 2, _, 2, _, 2, _, rfl, rfl, rfl, Nat.zero_le _, Nat.le_refl _, Nat.le_refl _, H0⟩
  case round =>
    clear H0 cx
    obtain ⟨i, N, gl, cl, gt, ct, ps, rfl, rfl, rfl, hil, hN2, hNi, hP⟩ := hrel
    have hi0 : (0 : Int) ≤ (i : Int) := by omega
    by_cases hlt : i < l.length
    · have hltI : (i : Int) < (l.length : Int) := by omega
      have hl3 := hl.keep hP.kp (fun _ _ e => e)
      obtain ⟨b0, off, rfl, hb0, hc0⟩ := hl3.some (by omega)
      obtain ⟨d0, d1, d2, d3⟩ := hc0 i hlt
      have hq := hok (aa l i) (by unfold aa; rw [List.getD_eq_getElem?_getD, List.getElem?_eq_getElem hlt]; exact List.getElem_mem _)
      generalize aa l i = q at *
      obtain ⟨kd, who, ob, ver⟩ := q
      obtain ⟨qk, qw, qo, qv⟩ := hq
      simp only at d0 d1 d2 d3 qk qo qv
      obtain ⟨qi, hqN, hqw⟩ := who_of who (l := N) (by omega) (by omega)
      have hqi0 : (0 : Int) ≤ (qi : Int) := by omega
      have hqiN : (qi : Int) < (N : Int) := by omega
      have hNI : ¬ (N : Int) = 0 := by omega
      clear hc0 hl3
      obtain ⟨w5, hw5⟩ : ∃ w5, Hid (w5 = wr.alloc (.cells #[.int .i64 kd, .int .i64 who, .int .i64 ob, .int .i64 ver] 34)) := ⟨_, rfl⟩
      have k5 : Keeps (fun _ => False) wr w5 := by rw [hw5.out]; exact (Keeps.refl _ wr).alloc _
      have hP5 := hP.new k5
      have hN9 : N ≤ 4398046511300 := by omega
      have hN0 : (0 : Int) ≤ (N : Int) := by omega
      have hNlt : (N : Int) < (N : Int) + 1 := by omega
      have hNs : (N : Int) + 1 - 1 = (N : Int) := by omega
      by_cases k0 : kd = 0
      · subst k0
        clear hP
        go_wp2_with fail
        rw [← hw5.out]
        refine (new_any w5).mono ?_
        rintro e w6 ⟨rfl, hT6, k6⟩
        obtain ⟨g1, c1, W7, r7, k7, n7, _, hadd⟩ := hP5.add hN9 k6 hT6 (fun k e => by have := nil_blk e; omega) (by simp)
        simp only at r7
        have HADD := (show Hid _ from hadd)
        clear hadd hT6 k6 k7 n7 hP5 k5
        go_wp2_with ((at_builtin; refine wpList_append_run rfl _ _ _ rfl _ _ (.slice (some ⟨g1, 0, none⟩) (N + 1) c1) W7 rfl rfl r7 ?_; clear r7))
        refine (rnew_any W7).mono ?_
        rintro e w8 ⟨rfl, hR8, k8⟩
        obtain ⟨g2, c2, W9, r9, hP9, n9⟩ := HADD.out w8 _ _ k8 hR8 (fun k e => by have := nil_rblk e; omega)
        have HP9 : Hid (Ps w W9 g1 c1 g2 c2 (N + 1) i (ps ++ [⟨⟨w5.heap.size, .slice none 0 0, none, .slice none 0 0⟩, W7.heap.size, .slice none 0 0, []⟩])) := hP9
        clear HADD hR8 k8 hP9
        go_wp2_with ((at_builtin; refine wpList_append_run rfl _ _ _ rfl _ _ (.slice (some ⟨g2, 0, none⟩) (N + 1) c2) W9 rfl rfl r9 ?_; clear r9))
        go_roundw
        case rel => exact ⟨i + 1, N + 1, g1, c1, g2, c2, _, rfl, rfl, by go_num, by omega, by omega, by omega, HP9.out.mono (Nat.le_succ _)⟩
        case measure => simp [intOf]; omega
      · have k0b : (kd == 0) = false := by simpa using k0
        obtain ⟨p, hpq, hpI, hpB, cgl, cgt, ngl, ngt⟩ := hP5.at_ hqN
        by_cases k1 : kd = 1
        · subst k1
          have C := copy_any hpI.t (by omega)
          have cgl' : (wr.alloc (.cells #[.int .i64 1, .int .i64 who, .int .i64 ob, .int .i64 ver] 34)).cell? ⟨gl, qi, none⟩ = some (.pointer (some ⟨p.T.tb, 0, none⟩)) := by rw [← hw5.out]; exact cgl
          clear hP k0
          go_wp2_with fail
          rw [← hw5.out]
          refine C.mono ?_
          rintro e w6 ⟨T6, rfl, hT6, k6, hB6⟩
          clear C cgl'
          obtain ⟨g1, c1, W7, r7, k7, n7, hcp, hadd⟩ := hP5.add hN9 k6 hT6 hB6 hpB
          obtain ⟨cgt7, hpI7⟩ := hcp qi p hpq
          have C8 := rcopy_any hpI7.r (by omega)
          have HADD := (show Hid _ from hadd)
          clear hadd hT6 k6 k7 n7 hP5 k5 hcp hpI hpI7 hB6 cgl cgt
          go_wp2_with ((at_builtin; refine wpList_append_run rfl _ _ _ rfl _ _ (.slice (some ⟨g1, 0, none⟩) (N + 1) c1) W7 rfl rfl r7 ?_; clear r7))
          refine C8.mono ?_
          rintro e w8 ⟨vr8, rfl, hR8, k8, hB8⟩
          clear C8
          obtain ⟨g2, c2, W9, r9, hP9, n9⟩ := HADD.out w8 _ _ k8 hR8 hB8
          have HP9 := (show Hid _ from hP9)
          clear HADD hR8 k8 hP9 hB8
          go_wp2_with ((at_builtin; refine wpList_append_run rfl _ _ _ rfl _ _ (.slice (some ⟨g2, 0, none⟩) (N + 1) c2) W9 rfl rfl r9 ?_; clear r9))
          go_roundw
          case rel => exact ⟨i + 1, N + 1, g1, c1, g2, c2, _, rfl, rfl, by go_num, by omega, by omega, by omega, HP9.out.mono (Nat.le_succ _)⟩
          case measure => simp [intOf]; omega
        · have k1b : (kd == 1) = false := by simpa using k1
          have kd5 : Keeps (fun _ => False) w5 w5.drew := (Keeps.refl _ w5).drew
          have C := played_any (kd := kd) (hpI.new kd5) (by omega) who qo qv
          have x0 : w5.cell? ⟨wr.heap.size, 0, none⟩ = some (.int .i64 kd) := by rw [hw5.out]; simp
          have x1 : w5.cell? ⟨wr.heap.size, 1, none⟩ = some (.int .i64 who) := by rw [hw5.out]; simp
          have x2 : w5.cell? ⟨wr.heap.size, 2, none⟩ = some (.int .i64 ob) := by rw [hw5.out]; simp
          have x3 : w5.cell? ⟨wr.heap.size, 3, none⟩ = some (.int .i64 ver) := by rw [hw5.out]; simp
          have nop : ¬ p.Blk wr.heap.size := fun e => by
            obtain ⟨p', hpq', hpI', _⟩ := hP.at_ hqN
            rw [hpq] at hpq'
            cases hpq'
            have := hpI'.lt e
            omega
          have hP5d := hP5.new kd5
          clear hP k0 k1 hpI k5
          go_wp2_with fail
          rw [← hw5.out]
          clear hw5
          go_region_held3 (fun w' => w'.cell? ⟨wr.heap.size, 0, none⟩ = some (.int .i64 kd) ∧ w'.cell? ⟨wr.heap.size, 1, none⟩ = some (.int .i64 who) ∧ w'.cell? ⟨wr.heap.size, 2, none⟩ = some (.int .i64 ob) ∧ w'.cell? ⟨wr.heap.size, 3, none⟩ = some (.int .i64 ver) ∧ w'.cell? ⟨gl, qi, none⟩ = some (.pointer (some ⟨p.T.tb, 0, none⟩)) ∧ w'.cell? ⟨gt, qi, none⟩ = some (.pointer (some ⟨p.rb, 0, none⟩))) (go_keep) ((go_at_call 22; (with_reducible refine C.mono ?_); rintro e w6 ⟨rfl, p6, hI6, hP6⟩; clear C; have y0 := hP6.kp.cell x0 nop; have y1 := hP6.kp.cell x1 nop; have y2 := hP6.kp.cell x2 nop; have y3 := hP6.kp.cell x3 nop; have y4 := hP6.kp.cell cgl ngl; have y5 := hP6.kp.cell cgt ngt))
          rename_i hHeld
          have hP7 := hP5d.play hpq hI6 hP6
          obtain ⟨M, hM⟩ : ∃ M, N = M + 1 := ⟨N - 1, by omega⟩
          obtain ⟨pm, _, _, _, cm, _⟩ := hP7.at_ (q := M) (by omega)
          have HP7 := (show Hid _ from hP7)
          clear hHeld hP5d hP5 hI6 hP6 hP7 x0 x1 x2 x3 y0 y1 y2 y3 y4 y5 cgl cgt kd5
          subst hM
          have hM0 : (0 : Int) ≤ (M : Int) := by omega
          have hM1 : (M : Int) < (M : Int) + 1 := by omega
          have hM2 : (M : Int) + 1 - 1 = (M : Int) := by omega
          go_wp2_with fail
          go_roundw
          case rel => exact ⟨i + 1, M + 1, gl, cl, gt, ct, _, rfl, rfl, by go_num, by omega, by omega, by omega, HP7.out⟩
          case measure => simp [intOf]; omega
    · have hI : ¬ (i : Int) < (l.length : Int) := by omega
      have hPB : Ps w wr gl cl gt ct N (i + 1) ps := hP.mono (Nat.le_succ _)
      clear hP
      have hi9 : i ≤ 4398046511104 := by omega
      go_wp2_with fail
      obtain ⟨wo, rfl⟩ : ∃ wo, wo = wr := ⟨_, rfl⟩
      go_loopw [9] (fun kv W => ∃ (k : Nat) (ps' : List Pr), kv = .int .i64 (k : Int) ∧ k ≤ N ∧ Hid (∀ q p, k ≤ q → ps'[q]? = some p → p.rs.length ≤ i + 1) ∧ Ps w W gl cl gt ct N (i + 2) ps') (fun kv _ => N - (intOf kv).toNat)
      case atStart => exact ⟨0, ps, rfl, Nat.zero_le _, (fun q p _ hp => hPB.bd p (List.mem_of_getElem? hp)), hPB.mono (Nat.le_succ _)⟩
      case round =>
        clear hPB
        obtain ⟨k, ps', rfl, hkN, hbk, hP⟩ := hrel
        have hk0 : (0 : Int) ≤ (k : Int) := by omega
        by_cases hlt2 : k < N
        · have hltI : (k : Int) < (N : Int) := by omega
          obtain ⟨p, hpq, hpI, _, cgl, cgt, ngl, ngt⟩ := hP.at_ hlt2
          have hpB := hbk.out k p (Nat.le_refl _) hpq
          have kd : Keeps (fun _ => False) wr wr.drew := (Keeps.refl _ wr).drew
          have CL1 := fun W (K : Keeps (fun _ => False) wr W) m => list_any (hpI.new K).t (hpI.new K).r (by omega) m
          have CP := fun W (K : Keeps (fun _ => False) wr W) => played_any (kd := 2) (hpI.new K) (by omega) 0 (n := -77) (v := (k : Int)) (by constructor <;> decide) (by constructor <;> omega)
          have hPn := fun W (K : Keeps (fun _ => False) wr W) => hP.new K
          go_wp2_with fail
          go_region_held3 (fun w' => w'.cell? ⟨gl, k, none⟩ = some (.pointer (some ⟨p.T.tb, 0, none⟩)) ∧ w'.cell? ⟨gt, k, none⟩ = some (.pointer (some ⟨p.rb, 0, none⟩))) (go_keep) (first | (go_at_call 23; (with_reducible refine (CL1 _ kd _).mono ?_); rintro e w5 ⟨rfl, k5⟩; clear CL1; have K5 := kd.trans k5; have y0 := K5.cell cgl (fun e => e); have y1 := K5.cell cgt (fun e => e)) | (go_at_call 22; (with_reducible refine (CP _ K5).mono ?_); rintro e w6 ⟨rfl, p6, hI6, hP6⟩; clear CP; have z0 := hP6.kp.cell y0 ngl; have z1 := hP6.kp.cell y1 ngt; have CL2 := list_any hI6.t hI6.r (by have := hP6.ln; omega) 5; rw [hP6.tb, hP6.rb] at CL2) | (go_at_call 23; (with_reducible refine CL2.mono ?_); rintro e w7 ⟨rfl, k7⟩; clear CL2; have t0 := k7.cell z0 (fun e => e); have t1 := k7.cell z1 (fun e => e)))
          rename_i hHeld
          have hP7 := ((hPn _ K5).play hpq hI6 hP6).new k7
          have HP7 : Hid (Ps w w7 gl cl gt ct N (i + 2) (ps'.set k p6)) := ⟨hP7.psx, hP7.nn, fun x hx => by
            rcases List.mem_or_eq_of_mem_set hx with a | a
            · exact hP.bd x a
            · subst a; have := hP6.ln; omega⟩
          have HBK : Hid (∀ q x, k + 1 ≤ q → (ps'.set k p6)[q]? = some x → x.rs.length ≤ i + 1) := fun q x hq hx => by
            rw [List.getElem?_set, if_neg (by omega)] at hx
            exact hbk.out q x (by omega) hx
          clear hHeld hP7 hPn hP hpI hI6 hP6 k7 k5 K5 y0 y1 z0 z1 t0 t1 cgl cgt hbk kd
          go_wp2_with fail
          go_roundw
          case rel => exact ⟨k + 1, ps'.set k p6, by go_num, by omega, HBK, HP7.out⟩
          case measure => simp [intOf]; omega
        · have hI2 : ¬ (k : Int) < (N : Int) := by omega
          have K9 := hP.kp
          clear hP hbk
          go_wp2_with fail
          go_ret
          exact ⟨rfl, K9.below (Nat.le_refl _) (fun _ _ e => e)⟩
end Go.Proofs.Ytagplkgjdaojnaa
