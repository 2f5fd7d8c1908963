import Derived.Test.YtgcfckbmmdajhaaLkN
namespace Go.Proofs.Ytgcfckbmmdajhaa
open Go.RowKit
set_option maxHeartbeats 1000000 in
set_option maxRecDepth 100000 in
theorem obo_any {w : World} {a : Option Addr} {cap : Nat} {q : List Ak} (hq : ASL w a q) (hq64 : ∀ x ∈ q, A64 x) (hn : q.length ≤ 5864062014805) (wrong bz : Int) (hbz : I64 bz) : Calls Try.prog 3 #[.slice a q.length cap, .int .i64 wrong, .int .i64 bz] w fun e w' => e = .returned (.bool true) ∧ Below w.heap.size w w' := by
  have hh := head_any w
  have HQ : Hid (ASL w a q) := hq
  have H64 : Hid (∀ x ∈ q, A64 x) := hq64
  have HBZ : Hid (I64 bz) := hbz
  clear hq hq64 hbz
  generalize hN : q.length = N at *
  have HN : Hid (q.length = N) := hN
  clear hN
  go_enter Try.func3, Try.ntmps3
  refine wp_seq_k (fun KK hKK => ?_)
  have hKH : Hid _ := hKK
  clear hKK
  go_wp2_with fail
  refine hKH.out _ _ ?_
  clear hKH KK
  refine wp_seq_k (fun KK hKK => ?_)
  have hKH : Hid _ := hKK
  clear hKK
  go_wp2_with (go_at_call 4; refine hh.mono ?_; clear hh; rintro e w1 ⟨rfl, K1⟩)
  refine hKH.out _ _ ?_
  clear hKH KK
  obtain ⟨W1, hW1⟩ : ∃ W1, W1 = w1.alloc (.cells #[.slice none 0 0] 27) := ⟨_, rfl⟩
  have k1 : Keeps (fun _ => False) w1 W1 := by rw [hW1]; exact (Keeps.refl _ w1).alloc _
  have hb0 : CL W1 w1.heap.size [.slice none 0 0] := by rw [hW1]; exact CL.made w1 [.slice none 0 0] 27
  have z1 : W1.heap.size = w1.heap.size + 1 := by rw [hW1]; simp
  have HW1 : Hid (W1 = w1.alloc (.cells #[.slice none 0 0] 27)) := hW1
  clear hW1
  refine wp_seq_k (fun KK hKK => ?_)
  have hKH : Hid _ := hKK
  clear hKK
  go_wp2_with fail
  refine hKH.out _ _ ?_
  clear hKH KK
  rw [← HW1.out]
  clear HW1
  have HO0 : Hid (OBS w1 0 W1 [] [] (.slice none 0 0) (.slice none 0 0) (.slice none 0 0)) := ⟨rfl, (fun i hi => absurd hi (Nat.not_lt_zero _)), (fun k hk => absurd hk (Nat.not_lt_zero _)), (fun x hx => by cases hx), ⟨hb0, World.ownsRow_nil _ _ _ _, by omega, by omega⟩, ⟨List.nodup_nil, fun x => Iff.rfl⟩, World.ownsRow_nil _ _ _ _, World.ownsRow_nil _ _ _ _, k1⟩
  clear k1 hb0 z1
  refine wp_seq_k (fun KK hKK => ?_)
  have hKH : Hid _ := hKK
  clear hKK
  go_wp2_with fail
  refine hKH.out _ _ ?_
  clear hKH KK
  refine wp_seq_k (fun KK hKK => ?_)
  have hKH : Hid _ := hKK
  clear hKK
  go_wp2_with fail
  refine hKH.out _ _ ?_
  clear hKH KK
  refine wp_seq_k (fun KK hKK => ?_)
  have hKH : Hid _ := hKK
  clear hKK
  go_wp2_with fail
  go_loopg [8, 9, 10] 8 (fun g v8 v9 iv Wr => ∃ (i : Nat) (l : List Cl) (U : List Int) (v : Value), i + g = 8 ∧ i ≤ N ∧ iv = .int .i64 (i : Int) ∧ OBS w1 i Wr l U v v8 v9)
  case atStart => exact ⟨0, [], [], _, by omega, by omega, rfl, HO0.out⟩
  case round =>
    obtain ⟨i, l, U, v, hig, hiN, rfl, hOB⟩ := hrel
    obtain ⟨a8, c8, rfl, -, -⟩ := csl_of hOB.a8
    obtain ⟨a9, c9, rfl, -⟩ := own_slice hOB.a9
    have HOB : Hid (OBS w1 i wr l U v (.slice a8 i c8) (.slice a9 i c9)) := hOB
    have HEND : Hid (∀ (hi : i ≤ 8), True) := fun _ => trivial
    clear hOB HO0
    by_cases hrun : i < 8 ∧ i < N
    · obtain ⟨hi8, hlt⟩ := hrun
      obtain ⟨g, rfl⟩ : ∃ g, gk = g + 1 := ⟨gk - 1, by omega⟩
      have g1 : decide ((i : Int) < 8) = true := decide_eq_true (by omega)
      have g2 : decide (i < 8) = true := decide_eq_true (by omega)
      have m1a : decide ((i : Int) < (N : Int)) = true := decide_eq_true (by omega)
      have m2a : decide (i < N) = true := decide_eq_true (by omega)
      have m3a : (i : Int) < (N : Int) := by omega
      have m4a : (0 : Int) ≤ (i : Int) := by omega
      have m5a : IntKind.i64.wrap ((i : Int) + 1) = (i : Int) + 1 := by rw [IntKind.wrap_i64]; omega
      have hiq : i < q.length := by rw [HN.out]; exact hlt
      obtain ⟨b, off, e3, hc3⟩ := HQ.out i hiq
      subst e3
      have HAK : Hid (A64 (q.getD i ak0)) := H64.out _ (by rw [List.getD_eq_getElem?_getD, List.getElem?_eq_getElem hiq]; exact List.getElem_mem hiq)
      have Kw := K1.trans HOB.out.k
      have c0 : wr.cell? ⟨b, off + i * 3, none⟩ = some (.int .i64 (q.getD i ak0).kind) := Kw.cell (hc3 0 _ rfl) (fun e => e)
      have q1 : wr.cell? ⟨b, off + i * 3 + 1, none⟩ = some (.int .i64 (q.getD i ak0).key) := Kw.cell (hc3 1 _ rfl) (fun e => e)
      have q2 : wr.cell? ⟨b, off + i * 3 + 2, none⟩ = some (.int .i64 (q.getD i ak0).other) := Kw.cell (hc3 2 _ rfl) (fun e => e)
      clear hc3 hiq Kw
      obtain ⟨kd, hkd⟩ : ∃ kd, kd = (q.getD i ak0).kind := ⟨_, rfl⟩
      obtain ⟨ky, hky⟩ : ∃ ky, ky = (q.getD i ak0).key := ⟨_, rfl⟩
      obtain ⟨ot, hot⟩ : ∃ ot, ot = (q.getD i ak0).other := ⟨_, rfl⟩
      have HAK2 : Hid (I64 ky ∧ I64 ot) := by rw [hky, hot]; exact ⟨HAK.out.k, HAK.out.o⟩
      rw [← hkd] at c0
      rw [← hky] at q1
      rw [← hot] at q2
      clear hkd hky hot HAK
      by_cases hk1 : kd < 1
      · have t1 : decide (kd < 1) = true := decide_eq_true hk1
        refine wp_seq_k (fun KK hKK => ?_)
        have hKH : Hid _ := hKK
        clear hKK
        go_wp2_with fail
        refine hKH.out _ _ ?_
        clear hKH KK
        refine wp_seq_k (fun KK hKK => ?_)
        have hKR : Hid _ := hKK
        clear hKK
        refine wp_block ?_
        refine wp_seq_k (fun KK hKK => ?_)
        have hKH : Hid _ := hKK
        clear hKK
        go_wp2_with fail
        refine hKH.out _ _ ?_
        clear hKH KK
        refine wp_seq_k (fun KK hKK => ?_)
        have hKH : Hid _ := hKK
        clear hKK
        go_wp2_with fail
        refine hKH.out _ _ ?_
        clear hKH KK
        refine ob_B HOB.out hlt hi8 (by omega) (by omega) q1 q2 HAK2.out ?_
        rintro W' l' U' v' b8 b9 d8 d9 y12 y13 y14 y47 y48 y49 y50 y51 y52 y53 y54 y55 y56 y57 y58 y59 y60 y61 y62 y63 y64 y65 y66 y67 y68 y69 y70 y71 y72 y73 y74 y75 y76 y77 y78 y79 y80 y81 y82 y83 y84 hOB'
        refine hKR.out _ _ ?_
        clear hKR KK
        go_wp2_with fail
        go_roundg g
        case measure => omega
        case rel => exact ⟨i + 1, l', U', v', by omega, by omega, by go_num, hOB'⟩
      · have t1 : decide (kd < 1) = false := decide_eq_false hk1
        by_cases hk6 : 6 < kd
        · have t2 : decide (kd > 6) = true := decide_eq_true hk6
          have t3 : decide (6 < kd) = true := decide_eq_true hk6
          refine wp_seq_k (fun KK hKK => ?_)
          have hKH : Hid _ := hKK
          clear hKK
          go_wp2_with fail
          refine hKH.out _ _ ?_
          clear hKH KK
          refine wp_seq_k (fun KK hKK => ?_)
          have hKR : Hid _ := hKK
          clear hKK
          refine wp_block ?_
          refine wp_seq_k (fun KK hKK => ?_)
          have hKH : Hid _ := hKK
          clear hKK
          go_wp2_with fail
          refine hKH.out _ _ ?_
          clear hKH KK
          refine wp_seq_k (fun KK hKK => ?_)
          have hKH : Hid _ := hKK
          clear hKK
          go_wp2_with fail
          refine hKH.out _ _ ?_
          clear hKH KK
          refine ob_B HOB.out hlt hi8 (by omega) (by omega) q1 q2 HAK2.out ?_
          rintro W' l' U' v' b8 b9 d8 d9 y12 y13 y14 y47 y48 y49 y50 y51 y52 y53 y54 y55 y56 y57 y58 y59 y60 y61 y62 y63 y64 y65 y66 y67 y68 y69 y70 y71 y72 y73 y74 y75 y76 y77 y78 y79 y80 y81 y82 y83 y84 hOB'
          refine hKR.out _ _ ?_
          clear hKR KK
          go_wp2_with fail
          go_roundg g
          case measure => omega
          case rel => exact ⟨i + 1, l', U', v', by omega, by omega, by go_num, hOB'⟩
        · have t2 : decide (kd > 6) = false := decide_eq_false hk6
          have t3 : decide (6 < kd) = false := decide_eq_false hk6
          refine wp_seq_k (fun KK hKK => ?_)
          have hKH : Hid _ := hKK
          clear hKK
          go_wp2_with fail
          refine hKH.out _ _ ?_
          clear hKH KK
          refine wp_seq_k (fun KK hKK => ?_)
          have hKR : Hid _ := hKK
          clear hKK
          refine wp_block ?_
          refine wp_seq_k (fun KK hKK => ?_)
          have hKH : Hid _ := hKK
          clear hKK
          go_wp2_with fail
          refine hKH.out _ _ ?_
          clear hKH KK
          refine wp_seq_k (fun KK hKK => ?_)
          have hKH : Hid _ := hKK
          clear hKK
          go_wp2_with fail
          refine hKH.out _ _ ?_
          clear hKH KK
          refine ob_B HOB.out hlt hi8 (by omega) (by omega) q1 q2 HAK2.out ?_
          rintro W' l' U' v' b8 b9 d8 d9 y12 y13 y14 y47 y48 y49 y50 y51 y52 y53 y54 y55 y56 y57 y58 y59 y60 y61 y62 y63 y64 y65 y66 y67 y68 y69 y70 y71 y72 y73 y74 y75 y76 y77 y78 y79 y80 y81 y82 y83 y84 hOB'
          refine hKR.out _ _ ?_
          clear hKR KK
          go_wp2_with fail
          go_roundg g
          case measure => omega
          case rel => exact ⟨i + 1, l', U', v', by omega, by omega, by go_num, hOB'⟩
    · have hOB := HOB.out
      have hi8 : i ≤ 8 := by omega
      have HX : Hid (¬ (i < 8 ∧ i < N)) := hrun
      by_cases hiN2 : i < N
      · have j1 : decide ((i : Int) < (N : Int)) = true := decide_eq_true (by omega)
        have j2 : decide (i < N) = true := decide_eq_true hiN2
        have g1 : decide ((i : Int) < 8) = false := decide_eq_false (by omega)
        have g2 : decide (i < 8) = false := decide_eq_false (by omega)
        clear hOB hrun hiN2 hi8
        go_wp2_with fail
        refine hKH.out _ _ ?_
        have hOB := HOB.out
        exact ob_1 HBZ.out hOB.n (by omega) hOB.o hOB.g hOB.c hOB.s hOB.u hOB.a8 hOB.a9 (Nat.le_trans K1.size (Nat.le_succ _)) (K1.trans hOB.k)
      · have j1 : decide ((i : Int) < (N : Int)) = false := decide_eq_false (by omega)
        have j2 : decide (i < N) = false := decide_eq_false hiN2
        clear hOB hrun hiN2 hi8
        go_wp2_with fail
        refine hKH.out _ _ ?_
        have hOB := HOB.out
        exact ob_1 HBZ.out hOB.n (by omega) hOB.o hOB.g hOB.c hOB.s hOB.u hOB.a8 hOB.a9 (Nat.le_trans K1.size (Nat.le_succ _)) (K1.trans hOB.k)
theorem obo_all {w : World} {a : Option Addr} {cap : Nat} {q : List Ak} (hq : ASL w a q) (hq64 : ∀ x ∈ q, A64 x) (hn : q.length ≤ 5864062014805) (_ : q.length ≤ cap) (wrong : Int) (_ : I64 wrong) (bz : Int) (hbz : I64 bz) : Calls Try.prog 3 #[.slice a q.length cap, .int .i64 wrong, .int .i64 bz] w fun e w' => e = .returned (.bool true) ∧ Below w.heap.size w w' := obo_any hq hq64 hn wrong bz hbz
end Go.Proofs.Ytgcfckbmmdajhaa
