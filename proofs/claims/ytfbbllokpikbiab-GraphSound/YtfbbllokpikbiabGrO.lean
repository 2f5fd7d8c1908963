import Derived.Test.YtfbbllokpikbiabGrN
namespace Go.Proofs.Ytfbbllokpikbiab
open Go.RowKit Go.Deep
attribute [local go_sem] Oper.semAt_some run_store_nf run_store_f
theorem iIt : (Try.prog.info? 76).map (·.size) = some 2 := by kernel_rfl
set_option maxHeartbeats 1500000 in
set_option maxRecDepth 100000 in
theorem oneByOne_any {w : World} {a : Option Addr} {cap n : Nat} {g : List Eg} (hl : EL w a (g.map Eg.ed)) (hb : Bln g n) (hn : n ≤ 4096) (hlen : g.length ≤ 4398046511104) : Calls Try.prog 28 #[.int .i64 (n : Int), .slice a g.length cap] w (OnP g n w) := by
  have HL : Hid (EL w a (g.map Eg.ed)) := hl
  have HB : Hid (Bln g n) := hb
  have HLEN : Hid (g.length ≤ 4398046511104) := hlen
  have HP : Hid (∀ v L w', w'.ownsRow w.heap.size 3 1 v L.length (pvs L) → OrdL g n L → (∀ u, ¬ Fre g n L u) → Keeps (fun _ => False) w w' → OnP g n w (.returned v) w') := fun v L w' h1 h2 h3 h4 => ⟨v, L, rfl, h1, h2, h3, h4⟩
  go_enter Try.func28, Try.ntmps28
  go_wp2_with fail
  refine wp_region_held_drew (S := fun _ => True) (by kernel_rfl) trivial (fun hHeld => ?_)
  refine wpAnyH_take (i := 0) (v := ?_) rfl (by kernel_rfl) (by kernel_rfl) (by kernel_rfl) (fun _ _ _ h => h) (Or.inl ⟨by rfl, ?_⟩) (by assumption) ?_
  rotate_left
  · intro wx hSw; clear hSw; go_simp <;> with_reducible rfl
  (try simp only [List.getElem_toArray]); (try simp only [List.getElem_cons_succ]); (try simp only [List.getElem_cons_zero]); (try simp only [Act.put]); (try simp only [List.setIfInBounds_toArray]); (repeat first | simp only [List.set_cons_succ] | simp only [List.set_cons_zero])
  refine wpAnyH_take (i := 2) (v := ?_) rfl (by kernel_rfl) (by kernel_rfl) (by kernel_rfl) (fun _ _ _ h => h) (Or.inl ⟨by rfl, ?_⟩) (by assumption) ?_
  rotate_left
  · intro wx hSw; clear hSw; go_simp <;> with_reducible rfl
  (try simp only [List.getElem_toArray]); (try simp only [List.getElem_cons_succ]); (try simp only [List.getElem_cons_zero]); (try simp only [Act.put]); (try simp only [List.setIfInBounds_toArray]); (repeat first | simp only [List.set_cons_succ] | simp only [List.set_cons_zero])
  refine ob_start hl hb hn hlen (fun w1 o hO => ?_) 6 false false false false false false undef undef undef undef undef undef 0 0 0 0 0 0 0 _ rfl rfl ⟨(Keeps.refl _ w).drew, (fun q => by cases q), (fun q => by cases q), (fun q => by cases q), (fun q => by cases q), (fun q => by cases q), (fun q => by cases q), (fun q => by cases q), (fun q => by cases q), (fun q => by cases q), (fun q => by cases q), (fun q => by cases q), (fun q => by cases q), (fun q => by cases q), (fun q => by cases q), (fun q => by cases q), (fun q => by cases q)⟩
  clear hHeld hl hb hlen
  obtain ⟨mb, lo, hi, A, pa, pr, qb⟩ := o
  have HO1 : Hid (OS w w1 g n ⟨mb, lo, hi, A, pa, pr, qb⟩ [] [qb] (tc (g.take 0)) (.slice none 0 0) []) := by show OS _ _ _ _ _ _ _ _ _ _; rw [tc0]; exact hO
  clear hO
  simp only [obF]
  obtain ⟨N, hN⟩ : ∃ N, N = g.length := ⟨_, rfl⟩
  rw [← hN]
  have HN : Hid (g.length = N) := hN.symm
  have hlen : N ≤ 4398046511104 := by rw [hN]; exact HLEN.out
  clear hN HLEN
  go_wp2_with fail
  go_loopw [25] (fun iv Wr => ∃ (i : Nat), iv = .int .i64 (i : Int) ∧ i ≤ N ∧ OS w Wr g n ⟨mb, lo, hi, A, pa, pr, qb⟩ [] [qb] (tc (g.take i)) (.slice none 0 0) []) (fun iv _ => N - (intOf iv).toNat)
  case atStart => exact ⟨0, rfl, Nat.zero_le _, HO1.out⟩
  case round =>
    obtain ⟨i, rfl, hiN, hos⟩ := hrel
    have HOS : Hid (OS w wr g n ⟨mb, lo, hi, A, pa, pr, qb⟩ [] [qb] (tc (g.take i)) (.slice none 0 0) []) := hos
    have kr := hos.k
    clear hos HO1
    by_cases hlt : i < N
    · have j1 : decide ((i : Int) < (N : Int)) = true := decide_eq_true (by omega)
      have j2 : decide (i < N) = true := decide_eq_true hlt
      have j3 : (i : Int) < (N : Int) := by omega
      have j4 : (0 : Int) ≤ (i : Int) := by omega
      have hwi : IntKind.i64.wrap ((i : Int) + 1) = (i : Int) + 1 := by rw [IntKind.wrap_i64]; omega
      have hil : i < g.length := by rw [HN.out]; exact hlt
      obtain ⟨b, off, rfl, hc⟩ := HL.out i (by rw [List.length_map]; exact hil)
      rw [(eg_at hil).1] at hc
      have hR := run_ed (W := wr) (fun j v e => kr.cell (hc j v e) (fun e => e))
      have HTK : Hid (g.take (i + 1) = g.take i ++ [g.getD i eg0]) := take_eg hil
      have hct := (HB.out _ (eg_at hil).2).2
      have hyl := tc_le (g.take i) (g.getD i eg0).t
      rw [List.length_take] at hyl
      clear hc hil
      generalize g.getD i eg0 = c at *
      have hOC := all_oneCell_ed c.ed
      obtain ⟨cu, ct, ck, co⟩ := c
      dsimp only at hct hyl
      obtain ⟨y, hy⟩ : ∃ y, y = tc (g.take i) ct := ⟨_, rfl⟩
      rw [← hy] at hyl
      have HNX : Hid (∀ w5 w6, Keeps (fun _ => False) wr w5 → FB w6 A n (upV (nms (tc (g.take i))) ct (.int .i64 ((y : Int) + 1))) → Keeps (fun k => k = A) w5 w6 → OS w w6 g n ⟨mb, lo, hi, A, pa, pr, qb⟩ [] [qb] (tc (g.take (i + 1))) (.slice none 0 0) []) := fun w5 w6 k5 hf k6 => (HOS.out.keep k5).put (hf.congr (fun p hp => by
        have e := nms_up (d := tc (g.take i)) (x := ct) (k := y + 1) p
        rw [hy] at e ⊢
        have e2 := tc_up (g.take i) ⟨cu, ct, ck, co⟩ p
        dsimp only at e2
        rw [HTK.out]
        show upV _ _ (.int .i64 ((tc (g.take i) ct : Int) + 1)) p = _
        have e3 : (.int .i64 (((tc (g.take i) ct + 1 : Nat) : Int)) : Value) = .int .i64 ((tc (g.take i) ct : Int) + 1) := by congr 1
        rw [← e3, e]
        unfold nms
        rw [e2])) k6
      have HY : Hid (∀ w5, Keeps (fun _ => False) wr w5 → CL w5 wr.heap.size (Eg.ed ⟨cu, ct, ck, co⟩).cells → w5.cell? ⟨pa, 0, none⟩ = some (.slice (some ⟨A, 0, none⟩) n n) ∧ w5.cell? ⟨wr.heap.size, 1, none⟩ = some (.int .i64 (ct : Int)) ∧ w5.cell? ⟨A, ct, none⟩ = some (.int .i64 (y : Int)) ∧ FB w5 A n (nms (tc (g.take i)))) := fun w5 k5 hI => by
        have h := HOS.out.keep k5
        exact ⟨h.pa.c 0 _ rfl, hI.c 1 _ rfl, by rw [hy]; exact h.a.c ct hct, h.a⟩
      clear hy kr
      have n1 : (0 : Int) ≤ (ct : Int) := by omega
      have n2 : (ct : Int) < (n : Int) := by omega
      have hwy : IntKind.i64.wrap ((y : Int) + 1) = (y : Int) + 1 := by rw [IntKind.wrap_i64]; omega
      obtain ⟨W4, hW4⟩ : ∃ W4, W4 = wr.alloc (.cells #[.int .i64 0, .int .i64 0, .int .i64 0, .int .i64 0] 30) := ⟨_, rfl⟩
      have k4 : Keeps (fun _ => False) wr W4 := by rw [hW4]; exact (Keeps.refl _ wr).alloc _
      have hU4 : CL W4 wr.heap.size ed0.cells := by rw [hW4]; exact CL.made wr ed0.cells _
      have HW4 : Hid (W4 = wr.alloc (.cells #[.int .i64 0, .int .i64 0, .int .i64 0, .int .i64 0] 30)) := hW4
      clear hW4
      go_wp2_with (first | (refine wpList_load_runL rfl 30 _ rfl ⟨b, off + i * 4, none⟩ rfl _ hR ?_; clear hR) | (rw [← HW4.out]; clear HW4; refine wpList_store_cl rfl 30 _ _ rfl wr.heap.size 0 4 _ rfl rfl rfl hU4 (by show 4 ≤ 4; decide) iEd hOC ?_; intro w5 hc5 k5 hsz5; clear hsz5; have hI5 : CL w5 wr.heap.size (Eg.ed ⟨cu, ct, ck, co⟩).cells := hc5; clear hc5; have K45 : Keeps (fun _ => False) wr w5 := k4.trans' k5 (fun _ _ e => e) (fun i hi e => (by have e : i = wr.heap.size := e; omega)); clear k4 k5 hU4; obtain ⟨c5, q5, y5, hF5⟩ := HY.out w5 K45 hI5) | (refine wpList_store_fi rfl rfl _ _ rfl A ct rfl ((y : Int) + 1) rfl hF5 hct ?_; intro w6 hf6 k6 hz6; clear hz6 hF5 y5 q5 c5))
      go_roundw
      case rel => exact ⟨i + 1, by go_num, by omega, HNX.out w5 w6 K45 hf6 k6⟩
      case measure => simp [intOf]; omega
    · have j1 : decide ((i : Int) < (N : Int)) = false := decide_eq_false (by omega)
      have j2 : decide (i < N) = false := decide_eq_false hlt
      have HO2 : Hid (OS w wr g n ⟨mb, lo, hi, A, pa, pr, qb⟩ [] [qb] (tc g) (.slice none 0 0) [] ∧ Qs [] (fun u => u < 0 ∧ tc g u = 0)) := by
        have h := HOS.out
        rw [List.take_of_length_le (by rw [HN.out]; omega)] at h
        exact ⟨h, Qs.nil (fun v e => by omega)⟩
      clear HOS kr
      go_wp2_with fail
      go_loopw [38] (fun iv Wr => ∃ (i : Nat) (xs : List It) (F : List Nat), iv = .int .i64 (i : Int) ∧ i ≤ n ∧ OS w Wr g n ⟨mb, lo, hi, A, pa, pr, qb⟩ xs F (tc g) (.slice none 0 0) [] ∧ Qs xs (fun u => u < i ∧ tc g u = 0)) (fun iv _ => n - (intOf iv).toNat)
      case atStart => exact ⟨0, [], [qb], rfl, Nat.zero_le _, HO2.out.1, HO2.out.2⟩
      case round =>
        obtain ⟨i2, xs, F, rfl, hi2, hos, hqs⟩ := hrel
        clear HO2
        by_cases hl2 : i2 < n
        · have m1 : decide ((i2 : Int) < (n : Int)) = true := decide_eq_true (by omega)
          have m2 : decide (i2 < n) = true := decide_eq_true hl2
          have m3 : (i2 : Int) < (n : Int) := by omega
          have m4 : (0 : Int) ≤ (i2 : Int) := by omega
          have hwi : IntKind.i64.wrap ((i2 : Int) + 1) = (i2 : Int) + 1 := by rw [IntKind.wrap_i64]; omega
          have hcm := comes_any hos hqs (fun u hu => by omega) hn hl2 (fun e => by omega)
          dsimp only at hcm
          have HQX : Hid (∀ ys, Qs ys (fun u => (u < i2 ∧ tc g u = 0) ∨ (u = i2 ∧ tc g i2 = 0)) → Qs ys (fun u => u < i2 + 1 ∧ tc g u = 0)) := fun ys h => h.congr (fun u => by
            constructor
            · rintro (⟨a, b⟩ | ⟨rfl, b⟩)
              · exact ⟨by omega, b⟩
              · exact ⟨by omega, b⟩
            · rintro ⟨a, b⟩
              by_cases e : u = i2
              · exact .inr ⟨e, e ▸ b⟩
              · exact .inl ⟨by omega, b⟩)
          clear hos hqs
          go_wp2_with (go_at_call 42; refine hcm.mono ?_; clear hcm; rintro e w2 ⟨rfl, ys, F2, hos2, hqs2, -⟩)
          go_roundw
          case rel => exact ⟨i2 + 1, ys, F2, by go_num, by omega, hos2, HQX.out ys hqs2⟩
          case measure => simp [intOf]; omega
        · have m1 : decide ((i2 : Int) < (n : Int)) = false := decide_eq_false (by omega)
          have m2 : decide (i2 < n) = false := decide_eq_false hl2
          have HH0 : Hid (OH w wr g n ⟨mb, lo, hi, A, pa, pr, qb⟩ (.slice none 0 0) [] xs F) := by
            have e : i2 = n := by omega
            rw [e] at hqs
            exact OH.start hos hqs
          clear hos hqs
          go_wp2_with fail
          go_loopg [12] n (fun gh lv Wr => ∃ (L : List Nat) (la : Option Addr) (lc : Nat) (xs : List It) (F : List Nat), lv = .slice la L.length lc ∧ gh + L.length = n ∧ OH w Wr g n ⟨mb, lo, hi, A, pa, pr, qb⟩ (.slice la L.length lc) L xs F)
          case atStart => exact ⟨[], none, 0, xs, F, rfl, rfl, HH0.out⟩
          case round =>
            obtain ⟨L, la, lc, xs3, F3, rfl, hgh, hH⟩ := hrel
            clear HH0
            have HH : Hid (OH w wr g n ⟨mb, lo, hi, A, pa, pr, qb⟩ (.slice la L.length lc) L xs3 F3) := hH
            have hle := len_any hH.s.q
            have c7 := hH.s.pr.c 0 _ rfl
            dsimp only at hle c7
            obtain ⟨q, hq⟩ : ∃ q, q = xs3.length := ⟨_, rfl⟩
            rw [← hq] at hle
            have HQL : Hid (q = xs3.length) := hq
            clear hq
            by_cases h0 : 0 < q
            · have d1 : decide ((q : Int) > 0) = true := decide_eq_true (by omega)
              have d2 : decide ((0 : Int) < (q : Int)) = true := decide_eq_true (by omega)
              have d3 : decide (0 < q) = true := decide_eq_true h0
              have htk := take_os hH.s hH.q (by rw [← HQL.out]; exact h0)
              dsimp only at htk
              have HX : Hid (∀ w2 (x : Nat) ys F4, OS w w2 g n ⟨mb, lo, hi, A, pa, pr, qb⟩ ys F4 (cnt g L) (.slice la L.length lc) L → Qs ys (fun u => Fre g n L u ∧ u ≠ x) → Fre g n L x → ∀ w3, Keeps (fun _ => False) w2 w3 → ∃ a5 c5 W5, (Builtin.append_ #[23, 23] 23 #[.slice la L.length lc, .slice (some ⟨w3.heap.size, 0, none⟩) 1 1]).run Try.prog (w3.alloc (.cells #[.int .i64 (x : Int)] 3)) = .ok (.slice a5 (L.length + 1) c5) W5 ∧ OI w W5 g n ⟨mb, lo, hi, A, pa, pr, qb⟩ (.slice a5 (L.length + 1) c5) L x 0 ys F4 ∧ (∃ ga gc, (Instr.lookup 50 (.map (some mb)) (.int .i64 (x : Int)) false).run Try.prog W5 = .ok (.slice ga (ldN g x).length gc) W5 ∧ PM W5 ga (ldN g x) ∧ ∀ b off, ga = some ⟨b, off, none⟩ → lo ≤ b ∧ b < hi) ∧ (∀ b u, w2.heap.size ≤ b → w3.cell? ⟨b, 1, none⟩ = some u → W5.cell? ⟨b, 1, none⟩ = some u)) := fun w2 x ys F4 hs hqs hx w3 k3 => by
                have hln := hH.o.len
                obtain ⟨a5, c5, W5, h1, h2, h3⟩ := app_os (hs.keep k3) (by omega) x
                have hI := OI.start h2 hx hqs
                exact ⟨a5, c5, W5, h1, hI, h2.l.q W5 (fun _ _ _ => rfl) x (by have := hx.1; omega), fun b u hb hc => h3.cell hc (fun e => by have := owns_lt' hs.r b e; omega)⟩
              have HORD : Hid (OrdL g n L) := hH.o
              clear hH
              go_wp2_with (first | (go_at_call 44; refine hle.mono ?_; clear hle; rintro e wn ⟨rfl, hwn⟩; rw [hwn]; clear hwn wn) | (go_at_call 45; refine htk.mono ?_; clear htk c7; rintro e w2 ⟨x, ys, F4, rfl, hos2, hqs2, hfx, hfl⟩; obtain ⟨W6, hW6⟩ : ∃ W6, W6 = w2.alloc (.cells #[.int .i64 0, .int .i64 0] 76) := ⟨_, rfl⟩; have k6 : Keeps (fun _ => False) w2 W6 := (by rw [hW6]; exact (Keeps.refl _ w2).alloc _); have hU6 : CL W6 w2.heap.size [.int .i64 0, .int .i64 0] := (by rw [hW6]; exact CL.made w2 [.int .i64 0, .int .i64 0] _); have HW6 : Hid (W6 = w2.alloc (.cells #[.int .i64 0, .int .i64 0] 76)) := hW6; clear hW6; have HFX : Hid (Fre g n L x ∧ ∀ u, Fre g n L u → x ≤ u) := ⟨hfx, hfl⟩; have HT2 : Hid (OS w w2 g n ⟨mb, lo, hi, A, pa, pr, qb⟩ ys F4 (cnt g L) (.slice la L.length lc) L ∧ Qs ys (fun u => Fre g n L u ∧ u ≠ x)) := ⟨hos2, hqs2⟩; clear hos2 hqs2 hfx hfl) | (rw [← HW6.out]; clear HW6; refine wpList_store_cl rfl 76 _ _ rfl w2.heap.size 0 2 _ rfl rfl rfl hU6 (by show 2 ≤ 2; decide) iIt (by simp [Value.oneCell']) ?_; intro w3 hc3 k3 hz3; clear hz3; have hI3 : CL w3 w2.heap.size [.int .i64 (x : Int), .int .i64 (x : Int)] := hc3; clear hc3; have K3 : Keeps (fun _ => False) w2 w3 := k6.trans' k3 (fun _ _ e => e) (fun i hi e => (by have e : i = w2.heap.size := e; omega)); clear k6 k3 hU6; obtain ⟨a5, c5, W5, hr5, hI5, ⟨ga, gc, hlk5, hpm5, hgb5⟩, hst5⟩ := HX.out w2 x ys F4 HT2.out.1 HT2.out.2 HFX.out.1 w3 K3; have i1 := hI3.c 1 _ rfl; have i2 : W5.cell? ⟨w2.heap.size, 1, none⟩ = some (.int .i64 (x : Int)) := hst5 _ _ (Nat.le_refl _) i1; have HI5 : Hid (OI w W5 g n ⟨mb, lo, hi, A, pa, pr, qb⟩ (.slice a5 (L.length + 1) c5) L x 0 ys F4) := hI5; have HPM : Hid (PM W5 ga (ldN g x) ∧ ∀ b off, ga = some ⟨b, off, none⟩ → lo ≤ b ∧ b < hi) := ⟨hpm5, hgb5⟩; clear hI5 hpm5 hgb5 hI3 HX HT2 hst5) | (at_builtin; refine wpList_append_tL rfl _ _ _ rfl _ _ _ W5 rfl rfl hr5 ?_; clear hr5))
              have hLM := ldN_len g x
              obtain ⟨M, hM⟩ : ∃ M, M = (ldN g x).length := ⟨_, rfl⟩
              rw [← hM] at hLM
              rw [← hM]
              have HM : Hid (M = (ldN g x).length) := hM
              clear hM
              have hLM2 : M ≤ 4398046511104 := by have := HN.out; omega
              clear hLM
              go_loopw [63] (fun jv Wx => ∃ (j : Nat) (zs : List It) (G : List Nat), jv = .int .i64 (j : Int) ∧ j ≤ M ∧ OI w Wx g n ⟨mb, lo, hi, A, pa, pr, qb⟩ (.slice a5 (L.length + 1) c5) L x j zs G ∧ Ag lo hi W5 Wx) (fun jv _ => M - (intOf jv).toNat)
              case atStart => exact ⟨0, ys, F4, rfl, Nat.zero_le _, HI5.out, Ag.refl _ _ _⟩
              case round =>
                obtain ⟨j, zs, G, rfl, hjM, hOI, hAg⟩ := hrel
                clear HI5
                by_cases hlj : j < M
                · have o1 : decide ((j : Int) < (M : Int)) = true := decide_eq_true (by omega)
                  have o2 : decide (j < M) = true := decide_eq_true hlj
                  have o3 : (j : Int) < (M : Int) := by omega
                  have o4 : (0 : Int) ≤ (j : Int) := by omega
                  have hwj : IntKind.i64.wrap ((j : Int) + 1) = (j : Int) + 1 := by rw [IntKind.wrap_i64]; omega
                  have hjL : j < (ldN g x).length := by rw [← HM.out]; exact hlj
                  obtain ⟨b, off, rfl, hc⟩ := (HPM.out.1.ag HPM.out.2 hAg) j hjL
                  have hxn : (ldN g x).getD j 0 < n := by
                    obtain ⟨e, he, -, h2⟩ := mem_ldN.1 (getD_memN hjL)
                    rw [← h2]
                    exact (HB.out e he).2
                  have hnx := cJ_next (L := L) hjL ((ldN g x).getD j 0)
                  rw [if_pos rfl] at hnx
                  have hcl : cJ g L x (j + 1) ((ldN g x).getD j 0) ≤ 8796093022208 := by
                    unfold cJ
                    have h1 := cnt_le g (L ++ [x]) ((ldN g x).getD j 0)
                    have h2 := List.count_le_length (a := (ldN g x).getD j 0) (l := (ldN g x).drop (j + 1))
                    rw [List.length_drop] at h2
                    have := HM.out
                    have := HN.out
                    omega
                  have c6 := hOI.s.pa.c 0 _ rfl
                  dsimp only at c6
                  have hFa := hOI.s.a
                  dsimp only at hFa
                  have y0 : wr.cell? ⟨A, (ldN g x).getD j 0, none⟩ = some (.int .i64 ((cJ g L x (j + 1) ((ldN g x).getD j 0) : Int) + 1)) := by
                    have h := hFa.c _ hxn
                    unfold nms at h
                    rw [hnx] at h
                    exact h
                  have HCM : Hid (∀ w4, FB w4 A n (upV (nms (cJ g L x j)) ((ldN g x).getD j 0) (.int .i64 (cJ g L x (j + 1) ((ldN g x).getD j 0) : Int))) → Keeps (fun k => k = A) wr w4 → Calls Try.prog 42 #[.int .i64 (((ldN g x).getD j 0 : Nat) : Int), .pointer (some ⟨pa, 0, none⟩), .pointer (some ⟨pr, 0, none⟩)] w4 fun e w' => e = .returned (.tuple #[]) ∧ ∃ zs' G', OI w w' g n ⟨mb, lo, hi, A, pa, pr, qb⟩ (.slice a5 (L.length + 1) c5) L x (j + 1) zs' G' ∧ Ag lo hi W5 w') := fun w4 hf k4 => by
                    have hs4 : OS w w4 g n ⟨mb, lo, hi, A, pa, pr, qb⟩ zs G (cJ g L x (j + 1)) (.slice a5 (L.length + 1) c5) (L ++ [x]) := hOI.s.put (hf.congr (fun p _ => by
                      rw [nms_up]
                      unfold nms
                      rw [cJ_up hjL])) k4
                    have hag4 : Ag lo hi wr w4 := Ag.of k4 hOI.s.l.s (fun b h1 h2 e => by
                      have e : b = A := e
                      exact hOI.s.d2.1 ⟨by rw [← e]; exact h1, by rw [← e]; exact h2⟩)
                    refine (comes_any hs4 hOI.q (fun u hu => hu.1) hn hxn (fun e => by omega)).mono ?_
                    rintro e w' ⟨rfl, zs', G', h1, h2, h3⟩
                    exact ⟨rfl, zs', G', OI.next hjL HORD.out HFX.out.1 hxn h1 h2, (hAg.trans hag4).trans h3⟩
                  clear hnx hOI hAg hjL
                  generalize (ldN g x).getD j 0 = z at *
                  generalize cJ g L x (j + 1) z = y at *
                  have n1 : (0 : Int) ≤ (z : Int) := by omega
                  have n2 : (z : Int) < (n : Int) := by omega
                  have hwy : IntKind.i64.wrap ((y : Int) + 1 - 1) = (y : Int) := by rw [IntKind.wrap_i64]; omega
                  go_wp2_with (first | (refine wpList_store_fi rfl rfl _ _ rfl A z rfl (y : Int) rfl hFa hxn ?_; intro w4 hf4 k4 hz4; clear hz4 hFa y0; have hcm := HCM.out w4 hf4 k4; clear HCM) | (go_at_call 42; refine hcm.mono ?_; clear hcm; rintro e w6 ⟨rfl, zs', G', hOI2, hAg2⟩))
                  go_roundw
                  case rel => exact ⟨j + 1, zs', G', by go_num, by omega, hOI2, hAg2⟩
                  case measure => simp [intOf]; omega
                · have o1 : decide ((j : Int) < (M : Int)) = false := decide_eq_false (by omega)
                  have o2 : decide (j < M) = false := decide_eq_false hlj
                  have HEN : Hid (OH w wr g n ⟨mb, lo, hi, A, pa, pr, qb⟩ (.slice a5 (L.length + 1) c5) (L ++ [x]) zs G) := hOI.done (by rw [← HM.out]; omega) HORD.out HFX.out.1 HFX.out.2
                  have hln := HEN.out.o.len
                  rw [List.length_append] at hln
                  have hln : L.length + 1 ≤ n := hln
                  clear hOI hAg
                  go_wp2_with fail
                  go_roundg (gk - 1)
                  case measure => omega
                  case rel => exact ⟨L ++ [x], a5, c5, zs, G, by rw [List.length_append]; rfl, by rw [List.length_append]; show gk - 1 + (L.length + 1) = n; omega, by rw [List.length_append]; exact HEN.out⟩
            · have d1 : decide ((q : Int) > 0) = false := decide_eq_false (by omega)
              have d2 : decide ((0 : Int) < (q : Int)) = false := decide_eq_false (by omega)
              have d3 : decide (0 < q) = false := decide_eq_false h0
              have HPX : Hid (OnP g n w (.returned (.slice la L.length lc)) wr) := HP.out _ L wr hH.s.r hH.o (fun u hu => by
                have := hH.q.a u hu
                have e : xs3 = [] := List.length_eq_zero_iff.1 (by rw [← HQL.out]; omega)
                rw [e] at this
                cases this) hH.s.k
              clear hH
              go_wp2_with (go_at_call 44; refine hle.mono ?_; clear hle; rintro e wn ⟨rfl, hwn⟩; rw [hwn]; clear hwn wn)
              go_ret
              exact HPX.out
end Go.Proofs.Ytfbbllokpikbiab
