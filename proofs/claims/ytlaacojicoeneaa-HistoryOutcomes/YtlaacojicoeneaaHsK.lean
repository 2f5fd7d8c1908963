import Derived.Test.YtlaacojicoeneaaHsJ
namespace Go.Proofs.Ytlaacojicoeneaa
open Go.RowKit
theorem Rl.wide {l : List Rw} {i : Nat} {f g : Nat → Int} (h : Rl l i f g) (hB : Bd i f) (hi : i ≤ 4611686018427387904) : ∀ o, o < 14 → g o + 1 ≤ 9223372036854775807 ∧ -9223372036854775808 ≤ g o := fun o ho => by
  by_cases h1 : o < 6
  · rcases h.las o h1 with e | ⟨j, hj, e, -⟩
    · rw [e.1]; omega
    · rw [e]; omega
  · by_cases h2 : o < 12
    · have := h.cnt (o - 6) (by omega)
      rw [show 6 + (o - 6) = o by omega] at this
      rw [← this]
      have := hB ((o - 6) * 5 + 4) (by omega)
      omega
    · rcases (by omega : o = 12 ∨ o = 13) with rfl | rfl
      · rw [← h.att]
        have := hB 31 (by omega)
        omega
      · rw [← h.beg]
        have := hB 30 (by omega)
        omega
theorem placed_any (w : World) {gb : Nat} {f g : Nat → Int} (hB : IB w gb 14 g) {a : Option Addr} {l : List Rw} {cap i : Nat} (hl : RSL w a l) (r : Rw) (hR : Rl l i f g) (hb : Bd i f) (hi : i < l.length) (hn : l.length ≤ 4611686018427387904) : Calls Try.prog 27 #[.pointer (some ⟨gb, 0, none⟩), .slice a l.length cap, .agg r.cells.toArray] w fun e w' => e = .returned (.bool (plD l g r)) ∧ Keeps (fun _ => False) w w' := by
  have hG := hR.wide hb (by omega)
  unfold plD
  by_cases h0 : r.kind = 0
  · rw [if_pos h0]
    exact placed_stutter w hB hl r h0
  rw [if_neg h0]
  by_cases ha : r.thread < 0 ∨ 6 ≤ r.thread
  · rw [if_pos ha]
    exact placed_away w hB hl r h0 ha
  rw [if_neg ha]
  have et : r.thread = (r.thread.toNat : Int) := by omega
  have ht : r.thread.toNat < 6 := by omega
  generalize r.thread.toNat = t at *
  rcases hR.las t ht with ⟨a1, a2, a3⟩ | ⟨j, hj, a1, a2, a3, a4, a5⟩
  · rw [if_pos a1]
    exact placed_none w hB hl r t h0 et ht hG a1
  · rw [if_neg (by omega), a1, Int.toNat_natCast]
    have hq : (l.getD j rw0).job + 1 ≤ 9223372036854775807 ∧ -9223372036854775808 ≤ (l.getD j rw0).job ∧ (l.getD j rw0).try_ + 1 ≤ 9223372036854775807 ∧ -9223372036854775808 ≤ (l.getD j rw0).try_ := by
      rw [← a3, ← a4]
      have b1 := hb (t * 5 + 1) (by omega)
      have b2 := hb (t * 5 + 2) (by omega)
      omega
    by_cases h1 : r.kind = 1
    · exact placed_1 w hB hl r t h1 hG et ht j a1 (by omega) hq
    by_cases h2 : r.kind = 2
    · exact placed_2 w hB hl r t h2 hG et ht j a1 (by omega) hq
    by_cases h17 : r.kind = 17
    · exact placed_17 w hB hl r t h17 hG et ht j a1 (by omega) hq
    exact placed_x w hB hl r t ⟨h0, h1, h2, h17⟩ hG et ht j a1 (by omega) hq
theorem pl_away {l : List Rw} {g : Nat → Int} {r : Rw} (h : plD l g r = true) (hk : r.kind ≠ 0) : 0 ≤ r.thread ∧ r.thread < 6 := by
  unfold plD at h
  rw [if_neg hk] at h
  by_cases ha : r.thread < 0 ∨ 6 ≤ r.thread
  · rw [if_pos ha] at h; cases h
  · omega
theorem rkeep_any (w : World) {gb : Nat} {g f : Nat → Int} (hK : IB w gb 14 g) (r : Rw) (i : Int) (hB : ∀ i, i < 14 → g i + 1 ≤ 9223372036854775807 ∧ -9223372036854775808 ≤ g i) (hf : fitP f r r.thread.toNat = true) : Calls Try.prog 30 #[.pointer (some ⟨gb, 0, none⟩), .agg r.cells.toArray, .int .i64 i] w fun e w' => e = .returned (.tuple #[]) ∧ IB w' gb 14 (kpD g r r.thread.toNat i) ∧ Keeps (fun k => k = gb) w w' := by
  by_cases hk : r.kind = 0
  · exact rkeep_0 w hK r _ i hk
  have ha := fit_away hf hk
  have et : r.thread = (r.thread.toNat : Int) := by omega
  have hl : r.thread.toNat < 6 := by omega
  unfold fitP at hf
  rw [if_neg hk, if_neg (by omega)] at hf
  by_cases h1 : r.kind = 1
  · rw [if_pos h1] at hf
    simp only [Bool.and_eq_true, sil_iff] at hf
    exact rkeep_1 w hK r _ i h1 hf.2.2.1 et hl hB
  by_cases h2 : r.kind = 2
  · rw [if_neg h1, if_pos h2] at hf
    simp only [Bool.and_eq_true, sil_iff] at hf
    exact rkeep_2 w hK r _ i h2 hf.2.2.1 et hl hB
  exact rkeep_x w hK r _ i ⟨hk, h1, h2⟩ et hl hB
set_option maxHeartbeats 1000000 in
set_option maxRecDepth 100000 in
theorem rcheck_any {w : World} {a : Option Addr} {cap : Nat} {l : List Rw} (hl : RSL w a l) (hlen : l.length ≤ 4611686018427387904) : Calls Try.prog 12 #[.slice a l.length cap] w fun e w' => e = .returned (.tuple #[.int .i64 (ansP (fstP l 0 (f0 6))).1, .int .i64 (ansP (fstP l 0 (f0 6))).2]) ∧ Keeps (fun _ => False) w w' := by
  have hplA := fun W gb f g i r (h1 : IB W gb 14 g) (h2 : RSL W a l) (h3 : Rl l i f g) h4 h5 => placed_any W h1 (cap := cap) h2 r h3 h4 h5 hlen
  have HPLA : Hid _ := hplA
  clear hplA
  generalize hN : l.length = N at *
  generalize hA : fstP l 0 (f0 6) = A
  have HA : Hid (fstP (l.drop 0) 0 (f0 6) = A) := hA
  clear hA
  have hnk := book_any w
  go_enter Try.func12, Try.ntmps12
  go_wp2_with (go_at_call 26; refine hnk.mono ?_; clear hnk; rintro e w1 ⟨rfl, hK1, k1⟩)
  go_loopw [5] (fun iv Wr => ∃ (k : Nat) (f g : Nat → Int), iv = .int .i64 (k : Int) ∧ k ≤ N ∧ Hid (fstP (l.drop k) k f = A) ∧ Bd k f ∧ Rl l k f g ∧ IB Wr w.heap.size 14 g ∧ Keeps (fun _ => False) w Wr) (fun iv _ => N - (intOf iv).toNat)
  case atStart => exact ⟨0, f0 6, g0 6, rfl, Nat.zero_le _, HA, f0_bd, Rl.start l, hK1, k1⟩
  case round =>
    obtain ⟨k, f, g, rfl, hk, HF, hB, hRl, hK, kr⟩ := hrel
    clear HA hK1 k1
    by_cases hlt : k < N
    · have l1 : decide ((k : Int) < (N : Int)) = true := decide_eq_true (by omega)
      have l2 : (k : Int) < (N : Int) := by omega
      have l4 : decide (k < N) = true := decide_eq_true hlt
      have hl' := hl
      obtain ⟨b, off, rfl, hc⟩ := hl k (by omega)
      have hR := run_rwAt (W := wr) (fun j v e => kr.cell (hc j v e) (fun e => e))
      have hD : l.drop k = l.getD k rw0 :: l.drop (k + 1) := by
        rw [List.drop_eq_getElem_cons (by omega), List.getD_eq_getElem?_getD, List.getElem?_eq_getElem (by omega)]; rfl
      have HF2 := HF.out
      rw [hD] at HF2
      clear hD HF hc
      generalize hrr : l.getD k rw0 = r at *
      have hfd := fit_doc hRl r
      have hbw := hRl.wide hB (by omega)
      have HPL : Hid (∀ W, Keeps (fun _ => False) wr W → Calls Try.prog 27 #[.pointer (some ⟨w.heap.size, 0, none⟩), .slice (some ⟨b, off, none⟩) N cap, .agg r.cells.toArray] W fun e w' => e = .returned (.bool (plD l g r)) ∧ Keeps (fun _ => False) W w') := fun W kk => HPLA.out W _ _ _ _ r (hK.keep (by decide) kk (fun e => e)) (hl'.keep (kr.trans kk)) hRl hB hlt
      have hen := fun W => ended_any W r
      have HTD : Hid (∀ W, plD l g r = true → Keeps (fun _ => False) wr W → Calls Try.prog 29 #[.pointer (some ⟨w.heap.size, 0, none⟩), .agg r.cells.toArray] W fun e w' => e = .returned (.bool (readD r (g (6 + r.thread.toNat)))) ∧ Keeps (fun _ => False) W w') := fun W hp kk => rtold_any W (hK.keep (by decide) kk (fun e => e)) r r.thread.toNat (fun ho => by
        have h0 : r.kind ≠ 0 := fun e => by rw [e] at ho; cases ho
        have := pl_away hp h0
        omega)
      have HKP : Hid (∀ W, fitP f r r.thread.toNat = true → Keeps (fun _ => False) wr W → Calls Try.prog 30 #[.pointer (some ⟨w.heap.size, 0, none⟩), .agg r.cells.toArray, .int .i64 (k : Int)] W fun e w' => e = .returned (.tuple #[]) ∧ IB w' w.heap.size 14 (kpD g r r.thread.toNat (k : Int)) ∧ Keeps (fun k => k = w.heap.size) W w') := fun W hf kk => rkeep_any W (hK.keep (by decide) kk (fun e => e)) r _ hbw hf
      have hnext : fitP f r r.thread.toNat = true → Rl l (k + 1) (folP f r r.thread.toNat) (kpD g r r.thread.toNat (k : Int)) ∧ Bd (k + 1) (folP f r r.thread.toNat) := fun hf => by
        refine ⟨hRl.next hrr hf, ?_⟩
        by_cases hk0 : r.kind = 0
        · unfold folP
          rw [if_pos hk0]
          exact hB.more
        · exact fol_bd hf (by have := fit_away hf hk0; omega) hB
      have HNX : Hid _ := hnext
      clear hnext hbw hl' hrr
      obtain ⟨W4, hW4⟩ : ∃ W4, W4 = wr.alloc (.cells #[.int .i64 0, .int .i64 0, .int .i64 0, .int .i64 0, .int .i64 0, .int .i64 0, .int .i64 0, .int .i64 0, .int .i64 0, .int .i64 0, .int .i64 0, .int .i64 0, .int .i64 0, .bool false, .bool false, .bool false, .int .i64 0, .bool false, .int .i64 0, .int .i64 0, .bool false, .bool false, .int .i64 0, .int .i64 0, .bool false, .int .i64 0] 39) := ⟨_, rfl⟩
      have k4 : Keeps (fun _ => False) wr W4 := by rw [hW4]; exact (Keeps.refl _ wr).alloc _
      have hU4 : CL W4 wr.heap.size rw0.cells := by rw [hW4]; exact CL.made wr rw0.cells _
      have hOC := all_oneCell_rw r
      have hne : ¬ w.heap.size = wr.heap.size := fun e => by have := hK.lt (by decide); omega
      have HW4 : Hid (W4 = wr.alloc (.cells #[.int .i64 0, .int .i64 0, .int .i64 0, .int .i64 0, .int .i64 0, .int .i64 0, .int .i64 0, .int .i64 0, .int .i64 0, .int .i64 0, .int .i64 0, .int .i64 0, .int .i64 0, .bool false, .bool false, .bool false, .int .i64 0, .bool false, .int .i64 0, .int .i64 0, .bool false, .bool false, .int .i64 0, .int .i64 0, .bool false, .int .i64 0] 39)) := hW4
      clear hW4
      have HF3 : Hid (fstP (r :: l.drop (k + 1)) k f = A) := HF2
      clear HF2
      have HBad : Hid (fitP f r r.thread.toNat = false → A = some k) := fun hf => by
        rw [← HF3.out]
        unfold fstP
        rw [if_pos (.inr hf)]
      by_cases hs : r.step = (k : Int)
      · have s1 : (r.step != (k : Int)) = false := by simp [hs]
        unfold docOK at hfd
        generalize hn1 : decide (r.kind < 0) = n1 at *
        generalize hn2 : decide (17 < r.kind) = n2 at *
        cases n1
        rotate_left
        · have eA := HBad.out (by rw [hfd]; rfl)
          subst eA
          go_wp2_with (first | (refine wpList_load_run rfl 39 _ rfl ⟨b, off + k * 26, none⟩ rfl _ hR ?_; clear hR) | (rw [← HW4.out]; clear HW4; refine wpList_store_cl rfl 39 _ _ rfl wr.heap.size 0 26 _ rfl rfl rfl hU4 (by show 26 ≤ 26; decide) iRw hOC ?_; intro w5 hc5 k5 hsz5; clear hsz5; have hI5 : CL w5 wr.heap.size r.cells := hc5; clear hc5; have K45 : Keeps (fun _ => False) wr w5 := k4.trans' k5 (fun _ _ e => e) (fun i hi e => (by have e : i = wr.heap.size := e; omega)); have hK5 := hK.keep (by decide) K45 (fun e => e); have c0 := hI5.c 0 _ rfl; have c5 := hI5.c 5 _ rfl; have HR5 := run_rw hI5; have hpl := HPL.out w5 K45))
          go_ret2
          exact ⟨rfl, kr.trans K45⟩
        cases n2
        rotate_left
        · have eA := HBad.out (by rw [hfd]; rfl)
          subst eA
          go_wp2_with (first | (refine wpList_load_run rfl 39 _ rfl ⟨b, off + k * 26, none⟩ rfl _ hR ?_; clear hR) | (rw [← HW4.out]; clear HW4; refine wpList_store_cl rfl 39 _ _ rfl wr.heap.size 0 26 _ rfl rfl rfl hU4 (by show 26 ≤ 26; decide) iRw hOC ?_; intro w5 hc5 k5 hsz5; clear hsz5; have hI5 : CL w5 wr.heap.size r.cells := hc5; clear hc5; have K45 : Keeps (fun _ => False) wr w5 := k4.trans' k5 (fun _ _ e => e) (fun i hi e => (by have e : i = wr.heap.size := e; omega)); have hK5 := hK.keep (by decide) K45 (fun e => e); have c0 := hI5.c 0 _ rfl; have c5 := hI5.c 5 _ rfl; have HR5 := run_rw hI5; have hpl := HPL.out w5 K45))
          go_ret2
          exact ⟨rfl, kr.trans K45⟩
        generalize hpv : plD l g r = pv at *
        cases pv
        · have eA := HBad.out (by rw [hfd]; rfl)
          subst eA
          go_wp2_with (first | (refine wpList_load_run rfl 39 _ rfl ⟨b, off + k * 26, none⟩ rfl _ hR ?_; clear hR) | (rw [← HW4.out]; clear HW4; refine wpList_store_cl rfl 39 _ _ rfl wr.heap.size 0 26 _ rfl rfl rfl hU4 (by show 26 ≤ 26; decide) iRw hOC ?_; intro w5 hc5 k5 hsz5; clear hsz5; have hI5 : CL w5 wr.heap.size r.cells := hc5; clear hc5; have K45 : Keeps (fun _ => False) wr w5 := k4.trans' k5 (fun _ _ e => e) (fun i hi e => (by have e : i = wr.heap.size := e; omega)); have hK5 := hK.keep (by decide) K45 (fun e => e); have c0 := hI5.c 0 _ rfl; have c5 := hI5.c 5 _ rfl; have HR5 := run_rw hI5; have hpl := HPL.out w5 K45) | (refine wpList_load_runG (by rfl) 39 _ rfl ⟨wr.heap.size, 0, none⟩ rfl _ HR5 ?_; clear HR5) | (go_at_call 27; refine hpl.mono ?_; clear hpl; rintro e w6 ⟨rfl, k6⟩; have HR6 := run_rw (hI5.keep (by show 0 < 26; decide) k6 (fun e => e))))
          go_ret2
          exact ⟨rfl, (kr.trans K45).trans k6⟩
        generalize hev : endD r = ev at *
        cases ev
        · have eA := HBad.out (by rw [hfd]; rfl)
          subst eA
          go_wp2_with (first | (refine wpList_load_run rfl 39 _ rfl ⟨b, off + k * 26, none⟩ rfl _ hR ?_; clear hR) | (rw [← HW4.out]; clear HW4; refine wpList_store_cl rfl 39 _ _ rfl wr.heap.size 0 26 _ rfl rfl rfl hU4 (by show 26 ≤ 26; decide) iRw hOC ?_; intro w5 hc5 k5 hsz5; clear hsz5; have hI5 : CL w5 wr.heap.size r.cells := hc5; clear hc5; have K45 : Keeps (fun _ => False) wr w5 := k4.trans' k5 (fun _ _ e => e) (fun i hi e => (by have e : i = wr.heap.size := e; omega)); have hK5 := hK.keep (by decide) K45 (fun e => e); have c0 := hI5.c 0 _ rfl; have c5 := hI5.c 5 _ rfl; have HR5 := run_rw hI5; have hpl := HPL.out w5 K45) | (refine wpList_load_runG (by rfl) 39 _ rfl ⟨wr.heap.size, 0, none⟩ rfl _ HR5 ?_; clear HR5) | (go_at_call 27; refine hpl.mono ?_; clear hpl; rintro e w6 ⟨rfl, k6⟩; have HR6 := run_rw (hI5.keep (by show 0 < 26; decide) k6 (fun e => e))) | (refine wpList_load_runG (by rfl) 39 _ rfl ⟨wr.heap.size, 0, none⟩ rfl _ HR6 ?_; clear HR6) | (go_at_call 28; refine (hen w6).mono ?_; clear hen; rintro e w7 ⟨rfl, k7⟩; have HR7 := run_rw (hI5.keep (by show 0 < 26; decide) (k6.trans k7) (fun e => e))))
          go_ret2
          exact ⟨rfl, ((kr.trans K45).trans k6).trans k7⟩
        replace HTD : Hid (∀ W, Keeps (fun _ => False) wr W → Calls Try.prog 29 #[.pointer (some ⟨w.heap.size, 0, none⟩), .agg r.cells.toArray] W fun e w' => e = .returned (.bool (readD r (g (6 + r.thread.toNat)))) ∧ Keeps (fun _ => False) W w') := fun W kk => HTD.out W rfl kk
        generalize readD r (g (6 + r.thread.toNat)) = rv at *
        cases rv
        · have eA := HBad.out (by rw [hfd]; rfl)
          clear HKP
          subst eA
          go_wp2_with (first | (refine wpList_load_run rfl 39 _ rfl ⟨b, off + k * 26, none⟩ rfl _ hR ?_; clear hR) | (rw [← HW4.out]; clear HW4; refine wpList_store_cl rfl 39 _ _ rfl wr.heap.size 0 26 _ rfl rfl rfl hU4 (by show 26 ≤ 26; decide) iRw hOC ?_; intro w5 hc5 k5 hsz5; clear hsz5; have hI5 : CL w5 wr.heap.size r.cells := hc5; clear hc5; have K45 : Keeps (fun _ => False) wr w5 := k4.trans' k5 (fun _ _ e => e) (fun i hi e => (by have e : i = wr.heap.size := e; omega)); have hK5 := hK.keep (by decide) K45 (fun e => e); have c0 := hI5.c 0 _ rfl; have c5 := hI5.c 5 _ rfl; have HR5 := run_rw hI5; have hpl := HPL.out w5 K45) | (refine wpList_load_runG (by rfl) 39 _ rfl ⟨wr.heap.size, 0, none⟩ rfl _ HR5 ?_; clear HR5) | (go_at_call 27; refine hpl.mono ?_; clear hpl; rintro e w6 ⟨rfl, k6⟩; have HR6 := run_rw (hI5.keep (by show 0 < 26; decide) k6 (fun e => e))) | (refine wpList_load_runG (by rfl) 39 _ rfl ⟨wr.heap.size, 0, none⟩ rfl _ HR6 ?_; clear HR6) | (go_at_call 28; refine (hen w6).mono ?_; clear hen; rintro e w7 ⟨rfl, k7⟩; have HR7 := run_rw (hI5.keep (by show 0 < 26; decide) (k6.trans k7) (fun e => e)); have htd := HTD.out w7 ((K45.trans k6).trans k7)) | (refine wpList_load_runG (by rfl) 39 _ rfl ⟨wr.heap.size, 0, none⟩ rfl _ HR7 ?_; clear HR7) | (go_at_call 29; refine htd.mono ?_; clear htd; rintro e w8 ⟨rfl, k8⟩; have HR8 := run_rw (hI5.keep (by show 0 < 26; decide) ((k6.trans k7).trans k8) (fun e => e))))
          go_ret2
          exact ⟨rfl, (((kr.trans K45).trans k6).trans k7).trans k8⟩
        have hfit : fitP f r r.thread.toNat = true := by rw [hfd]; rfl
        clear HBad
        have HF4 : Hid (fstP (l.drop (k + 1)) (k + 1) (folP f r r.thread.toNat) = A) := by
          show _ = _
          rw [← HF3.out]
          conv => rhs; unfold fstP
          rw [if_neg (by rw [hfit]; simp [hs])]
        obtain ⟨hRn, hBn⟩ := HNX.out hfit
        replace HKP : Hid (∀ W, Keeps (fun _ => False) wr W → Calls Try.prog 30 #[.pointer (some ⟨w.heap.size, 0, none⟩), .agg r.cells.toArray, .int .i64 (k : Int)] W fun e w' => e = .returned (.tuple #[]) ∧ IB w' w.heap.size 14 (kpD g r r.thread.toNat (k : Int)) ∧ Keeps (fun k => k = w.heap.size) W w') := fun W kk => HKP.out W hfit kk
        clear HF3 HNX
        go_wp2_with (first | (refine wpList_load_run rfl 39 _ rfl ⟨b, off + k * 26, none⟩ rfl _ hR ?_; clear hR) | (rw [← HW4.out]; clear HW4; refine wpList_store_cl rfl 39 _ _ rfl wr.heap.size 0 26 _ rfl rfl rfl hU4 (by show 26 ≤ 26; decide) iRw hOC ?_; intro w5 hc5 k5 hsz5; clear hsz5; have hI5 : CL w5 wr.heap.size r.cells := hc5; clear hc5; have K45 : Keeps (fun _ => False) wr w5 := k4.trans' k5 (fun _ _ e => e) (fun i hi e => (by have e : i = wr.heap.size := e; omega)); have hK5 := hK.keep (by decide) K45 (fun e => e); have c0 := hI5.c 0 _ rfl; have c5 := hI5.c 5 _ rfl; have HR5 := run_rw hI5; have hpl := HPL.out w5 K45) | (refine wpList_load_runG (by rfl) 39 _ rfl ⟨wr.heap.size, 0, none⟩ rfl _ HR5 ?_; clear HR5) | (go_at_call 27; refine hpl.mono ?_; clear hpl; rintro e w6 ⟨rfl, k6⟩; have HR6 := run_rw (hI5.keep (by show 0 < 26; decide) k6 (fun e => e))) | (refine wpList_load_runG (by rfl) 39 _ rfl ⟨wr.heap.size, 0, none⟩ rfl _ HR6 ?_; clear HR6) | (go_at_call 28; refine (hen w6).mono ?_; clear hen; rintro e w7 ⟨rfl, k7⟩; have HR7 := run_rw (hI5.keep (by show 0 < 26; decide) (k6.trans k7) (fun e => e)); have htd := HTD.out w7 ((K45.trans k6).trans k7)) | (refine wpList_load_runG (by rfl) 39 _ rfl ⟨wr.heap.size, 0, none⟩ rfl _ HR7 ?_; clear HR7) | (go_at_call 29; refine htd.mono ?_; clear htd; rintro e w8 ⟨rfl, k8⟩; have HR8 := run_rw (hI5.keep (by show 0 < 26; decide) ((k6.trans k7).trans k8) (fun e => e)); have hkp := HKP.out w8 (((K45.trans k6).trans k7).trans k8)) | (refine wpList_load_run rfl 39 _ rfl ⟨wr.heap.size, 0, none⟩ rfl _ HR8 ?_; clear HR8) | (go_at_call 30; refine hkp.mono ?_; clear hkp; rintro e w9 ⟨rfl, hK9, k9⟩))
        have K9 : Keeps (fun _ => False) w w9 := (((kr.trans K45).trans k6).trans k7).trans k8 |>.trans' k9 (fun _ _ e => e) (fun i hi e => by have e : i = w.heap.size := e; omega)
        go_roundw
        case rel => exact ⟨k + 1, _, _, by go_num, by omega, HF4, hBn, hRn, hK9, K9⟩
        case measure => simp [intOf]; omega
      · have s1 : (r.step != (k : Int)) = true := by simp [hs]
        have eA : A = some k := by
          rw [← HF3.out]
          unfold fstP
          rw [if_pos (.inl hs)]
        subst eA
        clear HF3 HBad HNX
        go_wp2_with (first | (refine wpList_load_run rfl 39 _ rfl ⟨b, off + k * 26, none⟩ rfl _ hR ?_; clear hR) | (rw [← HW4.out]; clear HW4; refine wpList_store_cl rfl 39 _ _ rfl wr.heap.size 0 26 _ rfl rfl rfl hU4 (by show 26 ≤ 26; decide) iRw hOC ?_; intro w5 hc5 k5 hsz5; clear hsz5; have hI5 : CL w5 wr.heap.size r.cells := hc5; clear hc5; have K45 : Keeps (fun _ => False) wr w5 := k4.trans' k5 (fun _ _ e => e) (fun i hi e => (by have e : i = wr.heap.size := e; omega)); have hK5 := hK.keep (by decide) K45 (fun e => e); have c0 := hI5.c 0 _ rfl; have c5 := hI5.c 5 _ rfl; have HR5 := run_rw hI5; have hpl := HPL.out w5 K45))
        go_ret2
        exact ⟨rfl, kr.trans K45⟩
    · have eA : A = none := by
        rw [← HF.out, List.drop_of_length_le (by omega)]
        rfl
      subst eA
      have l1 : decide ((k : Int) < (N : Int)) = false := decide_eq_false (by omega)
      have l4 : decide (k < N) = false := decide_eq_false hlt
      clear HF
      go_wp2
      go_ret2
      exact ⟨rfl, kr⟩
end Go.Proofs.Ytlaacojicoeneaa
