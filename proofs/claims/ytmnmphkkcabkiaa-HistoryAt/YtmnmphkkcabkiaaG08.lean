import Derived.Test.YtmnmphkkcabkiaaG07
import Derived.Deep.AppendSrc
import Derived.Deep.RegionHeldLaw
import Derived.Test.YtmnmphkkcabkiaaG01
namespace Go.Proofs.Ytmnmphkkcabkiaa
open Go.RowKit
theorem Rl.wide {l : List Rw} {i : Nat} {f g : Nat → Int} (h : Rl l i f g) (hB : Bd i f) (hi : i ≤ 4611686018427387904) : ∀ o, o < 14 → g o + 1 ≤ 9223372036854775807 ∧ -9223372036854775808 ≤ g o := fun o ho => by
  by_cases h1 : o < 6
  · rcases h.las o h1 with e | ⟨j, hj, e, -⟩
    · rw [e.1]; omega
    · rw [e]; omega
  · by_cases h2 : o < 12
    · have := h.cnt (o - 6) (by omega)
      rw [show 6 + (o - 6) = o by omega] at this
      rw [← this]
      have := hB ((o - 6) * 5 + 4) (by omega)
      omega
    · rcases (by omega : o = 12 ∨ o = 13) with rfl | rfl
      · rw [← h.att]
        have := hB 31 (by omega)
        omega
      · rw [← h.beg]
        have := hB 30 (by omega)
        omega
theorem placed_any (w : World) {gb : Nat} {f g : Nat → Int} (hB : IB w gb 14 g) {a : Option Addr} {l : List Rw} {cap i : Nat} (hl : RSL w a l) (r : Rw) (hR : Rl l i f g) (hb : Bd i f) (hi : i < l.length) (hn : l.length ≤ 4611686018427387904) : Calls Try.prog 47 #[.pointer (some ⟨gb, 0, none⟩), .slice a l.length cap, .agg r.cells.toArray] w fun e w' => e = .returned (.bool (plD l g r)) ∧ Keeps (fun _ => False) w w' := by
  have hG := hR.wide hb (by omega)
  unfold plD
  by_cases h0 : r.kind = 0
  · rw [if_pos h0]
    exact placed_stutter w hB hl r h0
  rw [if_neg h0]
  by_cases ha : r.thread < 0 ∨ 6 ≤ r.thread
  · rw [if_pos ha]
    exact placed_away w hB hl r h0 ha
  rw [if_neg ha]
  have et : r.thread = (r.thread.toNat : Int) := by omega
  have ht : r.thread.toNat < 6 := by omega
  generalize r.thread.toNat = t at *
  rcases hR.las t ht with ⟨a1, a2, a3⟩ | ⟨j, hj, a1, a2, a3, a4, a5⟩
  · rw [if_pos a1]
    exact placed_none w hB hl r t h0 et ht hG a1
  · rw [if_neg (by omega), a1, Int.toNat_natCast]
    have hq : (l.getD j rw0).job + 1 ≤ 9223372036854775807 ∧ -9223372036854775808 ≤ (l.getD j rw0).job ∧ (l.getD j rw0).try_ + 1 ≤ 9223372036854775807 ∧ -9223372036854775808 ≤ (l.getD j rw0).try_ := by
      rw [← a3, ← a4]
      have b1 := hb (t * 5 + 1) (by omega)
      have b2 := hb (t * 5 + 2) (by omega)
      omega
    by_cases h1 : r.kind = 1
    · exact placed_1 w hB hl r t h1 hG et ht j a1 (by omega) hq
    by_cases h2 : r.kind = 2
    · exact placed_2 w hB hl r t h2 hG et ht j a1 (by omega) hq
    by_cases h17 : r.kind = 17
    · exact placed_17 w hB hl r t h17 hG et ht j a1 (by omega) hq
    exact placed_x w hB hl r t ⟨h0, h1, h2, h17⟩ hG et ht j a1 (by omega) hq
theorem pl_away {l : List Rw} {g : Nat → Int} {r : Rw} (h : plD l g r = true) (hk : r.kind ≠ 0) : 0 ≤ r.thread ∧ r.thread < 6 := by
  unfold plD at h
  rw [if_neg hk] at h
  by_cases ha : r.thread < 0 ∨ 6 ≤ r.thread
  · rw [if_pos ha] at h; cases h
  · omega
theorem rkeep_any (w : World) {gb : Nat} {g f : Nat → Int} (hK : IB w gb 14 g) (r : Rw) (i : Int) (hB : ∀ i, i < 14 → g i + 1 ≤ 9223372036854775807 ∧ -9223372036854775808 ≤ g i) (hf : fitP f r r.thread.toNat = true) : Calls Try.prog 50 #[.pointer (some ⟨gb, 0, none⟩), .agg r.cells.toArray, .int .i64 i] w fun e w' => e = .returned (.tuple #[]) ∧ IB w' gb 14 (kpD g r r.thread.toNat i) ∧ Keeps (fun k => k = gb) w w' := by
  by_cases hk : r.kind = 0
  · exact rkeep_0 w hK r _ i hk
  have ha := fit_away hf hk
  have et : r.thread = (r.thread.toNat : Int) := by omega
  have hl : r.thread.toNat < 6 := by omega
  unfold fitP at hf
  rw [if_neg hk, if_neg (by omega)] at hf
  by_cases h1 : r.kind = 1
  · rw [if_pos h1] at hf
    simp only [Bool.and_eq_true, sil_iff] at hf
    exact rkeep_1 w hK r _ i h1 hf.2.2.1 et hl hB
  by_cases h2 : r.kind = 2
  · rw [if_neg h1, if_pos h2] at hf
    simp only [Bool.and_eq_true, sil_iff] at hf
    exact rkeep_2 w hK r _ i h2 hf.2.2.1 et hl hB
  exact rkeep_x w hK r _ i ⟨hk, h1, h2⟩ et hl hB
set_option maxHeartbeats 1000000 in
set_option maxRecDepth 100000 in
theorem rcheck_any {w : World} {a : Option Addr} {cap : Nat} {l : List Rw} (hl : RSL w a l) (hlen : l.length ≤ 4611686018427387904) : Calls Try.prog 33 #[.slice a l.length cap] w fun e w' => e = .returned (.tuple #[.int .i64 (ansP (fstP l 0 (f0 6))).1, .int .i64 (ansP (fstP l 0 (f0 6))).2]) ∧ Keeps (fun _ => False) w w' := by
  have hplA := fun W gb f g i r (h1 : IB W gb 14 g) (h2 : RSL W a l) (h3 : Rl l i f g) h4 h5 => placed_any W h1 (cap := cap) h2 r h3 h4 h5 hlen
  have HPLA : Hid _ := hplA
  clear hplA
  generalize hN : l.length = N at *
  generalize hA : fstP l 0 (f0 6) = A
  have HA : Hid (fstP (l.drop 0) 0 (f0 6) = A) := hA
  clear hA
  have hnk := book_any w
  go_enter Try.func33, Try.ntmps33
  go_wp2_with (go_at_call 46; refine hnk.mono ?_; clear hnk; rintro e w1 ⟨rfl, hK1, k1⟩)
  go_loopw [5] (fun iv Wr => ∃ (k : Nat) (f g : Nat → Int), iv = .int .i64 (k : Int) ∧ k ≤ N ∧ Hid (fstP (l.drop k) k f = A) ∧ Bd k f ∧ Rl l k f g ∧ IB Wr w.heap.size 14 g ∧ Keeps (fun _ => False) w Wr) (fun iv _ => N - (intOf iv).toNat)
  case atStart => exact ⟨0, f0 6, g0 6, rfl, Nat.zero_le _, HA, f0_bd, Rl.start l, hK1, k1⟩
  case round =>
    obtain ⟨k, f, g, rfl, hk, HF, hB, hRl, hK, kr⟩ := hrel
    clear HA hK1 k1
    by_cases hlt : k < N
    · have l1 : decide ((k : Int) < (N : Int)) = true := decide_eq_true (by omega)
      have l2 : (k : Int) < (N : Int) := by omega
      have l4 : decide (k < N) = true := decide_eq_true hlt
      have hl' := hl
      obtain ⟨b, off, rfl, hc⟩ := hl k (by omega)
      have hR := run_rwAt (W := wr) (fun j v e => kr.cell (hc j v e) (fun e => e))
      have hD : l.drop k = l.getD k rw0 :: l.drop (k + 1) := by
        rw [List.drop_eq_getElem_cons (by omega), List.getD_eq_getElem?_getD, List.getElem?_eq_getElem (by omega)]; rfl
      have HF2 := HF.out
      rw [hD] at HF2
      clear hD HF hc
      generalize hrr : l.getD k rw0 = r at *
      have hfd := fit_doc hRl r
      have hbw := hRl.wide hB (by omega)
      have HPL : Hid (∀ W, Keeps (fun _ => False) wr W → Calls Try.prog 47 #[.pointer (some ⟨w.heap.size, 0, none⟩), .slice (some ⟨b, off, none⟩) N cap, .agg r.cells.toArray] W fun e w' => e = .returned (.bool (plD l g r)) ∧ Keeps (fun _ => False) W w') := fun W kk => HPLA.out W _ _ _ _ r (hK.keep (by decide) kk (fun e => e)) (hl'.keep (kr.trans kk)) hRl hB hlt
      have hen := fun W => ended_any W r
      have HTD : Hid (∀ W, plD l g r = true → Keeps (fun _ => False) wr W → Calls Try.prog 49 #[.pointer (some ⟨w.heap.size, 0, none⟩), .agg r.cells.toArray] W fun e w' => e = .returned (.bool (readD r (g (6 + r.thread.toNat)))) ∧ Keeps (fun _ => False) W w') := fun W hp kk => rtold_any W (hK.keep (by decide) kk (fun e => e)) r r.thread.toNat (fun ho => by
        have h0 : r.kind ≠ 0 := fun e => by rw [e] at ho; cases ho
        have := pl_away hp h0
        omega)
      have HKP : Hid (∀ W, fitP f r r.thread.toNat = true → Keeps (fun _ => False) wr W → Calls Try.prog 50 #[.pointer (some ⟨w.heap.size, 0, none⟩), .agg r.cells.toArray, .int .i64 (k : Int)] W fun e w' => e = .returned (.tuple #[]) ∧ IB w' w.heap.size 14 (kpD g r r.thread.toNat (k : Int)) ∧ Keeps (fun k => k = w.heap.size) W w') := fun W hf kk => rkeep_any W (hK.keep (by decide) kk (fun e => e)) r _ hbw hf
      have hnext : fitP f r r.thread.toNat = true → Rl l (k + 1) (folP f r r.thread.toNat) (kpD g r r.thread.toNat (k : Int)) ∧ Bd (k + 1) (folP f r r.thread.toNat) := fun hf => by
        refine ⟨hRl.next hrr hf, ?_⟩
        by_cases hk0 : r.kind = 0
        · unfold folP
          rw [if_pos hk0]
          exact hB.more
        · exact fol_bd hf (by have := fit_away hf hk0; omega) hB
      have HNX : Hid _ := hnext
      clear hnext hbw hl' hrr
      obtain ⟨W4, hW4⟩ : ∃ W4, W4 = wr.alloc (.cells #[.int .i64 0, .int .i64 0, .int .i64 0, .int .i64 0, .int .i64 0, .int .i64 0, .int .i64 0, .int .i64 0, .int .i64 0, .int .i64 0, .int .i64 0, .int .i64 0, .int .i64 0, .bool false, .bool false, .bool false, .int .i64 0, .bool false, .int .i64 0, .int .i64 0, .bool false, .bool false, .int .i64 0, .int .i64 0, .bool false, .int .i64 0] 50) := ⟨_, rfl⟩
      have k4 : Keeps (fun _ => False) wr W4 := by rw [hW4]; exact (Keeps.refl _ wr).alloc _
      have hU4 : CL W4 wr.heap.size rw0.cells := by rw [hW4]; exact CL.made wr rw0.cells _
      have hOC := all_oneCell_rw r
      have hne : ¬ w.heap.size = wr.heap.size := fun e => by have := hK.lt (by decide); omega
      have HW4 : Hid (W4 = wr.alloc (.cells #[.int .i64 0, .int .i64 0, .int .i64 0, .int .i64 0, .int .i64 0, .int .i64 0, .int .i64 0, .int .i64 0, .int .i64 0, .int .i64 0, .int .i64 0, .int .i64 0, .int .i64 0, .bool false, .bool false, .bool false, .int .i64 0, .bool false, .int .i64 0, .int .i64 0, .bool false, .bool false, .int .i64 0, .int .i64 0, .bool false, .int .i64 0] 50)) := hW4
      clear hW4
      have HF3 : Hid (fstP (r :: l.drop (k + 1)) k f = A) := HF2
      clear HF2
      have HBad : Hid (fitP f r r.thread.toNat = false → A = some k) := fun hf => by
        rw [← HF3.out]
        unfold fstP
        rw [if_pos (.inr hf)]
      by_cases hs : r.step = (k : Int)
      · have s1 : (r.step != (k : Int)) = false := by simp [hs]
        unfold docOK at hfd
        generalize hn1 : decide (r.kind < 0) = n1 at *
        generalize hn2 : decide (17 < r.kind) = n2 at *
        cases n1
        rotate_left
        · have eA := HBad.out (by rw [hfd]; rfl)
          subst eA
          go_wp2_with (first | (refine wpList_load_run rfl 50 _ rfl ⟨b, off + k * 26, none⟩ rfl _ hR ?_; clear hR) | (rw [← HW4.out]; clear HW4; refine wpList_store_cl rfl 50 _ _ rfl wr.heap.size 0 26 _ rfl rfl rfl hU4 (by show 26 ≤ 26; decide) iRw hOC ?_; intro w5 hc5 k5 hsz5; clear hsz5; have hI5 : CL w5 wr.heap.size r.cells := hc5; clear hc5; have K45 : Keeps (fun _ => False) wr w5 := k4.trans' k5 (fun _ _ e => e) (fun i hi e => (by have e : i = wr.heap.size := e; omega)); have hK5 := hK.keep (by decide) K45 (fun e => e); have c0 := hI5.c 0 _ rfl; have c5 := hI5.c 5 _ rfl; have HR5 := run_rw hI5; have hpl := HPL.out w5 K45))
          go_ret2
          exact ⟨rfl, kr.trans K45⟩
        cases n2
        rotate_left
        · have eA := HBad.out (by rw [hfd]; rfl)
          subst eA
          go_wp2_with (first | (refine wpList_load_run rfl 50 _ rfl ⟨b, off + k * 26, none⟩ rfl _ hR ?_; clear hR) | (rw [← HW4.out]; clear HW4; refine wpList_store_cl rfl 50 _ _ rfl wr.heap.size 0 26 _ rfl rfl rfl hU4 (by show 26 ≤ 26; decide) iRw hOC ?_; intro w5 hc5 k5 hsz5; clear hsz5; have hI5 : CL w5 wr.heap.size r.cells := hc5; clear hc5; have K45 : Keeps (fun _ => False) wr w5 := k4.trans' k5 (fun _ _ e => e) (fun i hi e => (by have e : i = wr.heap.size := e; omega)); have hK5 := hK.keep (by decide) K45 (fun e => e); have c0 := hI5.c 0 _ rfl; have c5 := hI5.c 5 _ rfl; have HR5 := run_rw hI5; have hpl := HPL.out w5 K45))
          go_ret2
          exact ⟨rfl, kr.trans K45⟩
        generalize hpv : plD l g r = pv at *
        cases pv
        · have eA := HBad.out (by rw [hfd]; rfl)
          subst eA
          go_wp2_with (first | (refine wpList_load_run rfl 50 _ rfl ⟨b, off + k * 26, none⟩ rfl _ hR ?_; clear hR) | (rw [← HW4.out]; clear HW4; refine wpList_store_cl rfl 50 _ _ rfl wr.heap.size 0 26 _ rfl rfl rfl hU4 (by show 26 ≤ 26; decide) iRw hOC ?_; intro w5 hc5 k5 hsz5; clear hsz5; have hI5 : CL w5 wr.heap.size r.cells := hc5; clear hc5; have K45 : Keeps (fun _ => False) wr w5 := k4.trans' k5 (fun _ _ e => e) (fun i hi e => (by have e : i = wr.heap.size := e; omega)); have hK5 := hK.keep (by decide) K45 (fun e => e); have c0 := hI5.c 0 _ rfl; have c5 := hI5.c 5 _ rfl; have HR5 := run_rw hI5; have hpl := HPL.out w5 K45) | (refine wpList_load_runG (by rfl) 50 _ rfl ⟨wr.heap.size, 0, none⟩ rfl _ HR5 ?_; clear HR5) | (go_at_call 47; refine hpl.mono ?_; clear hpl; rintro e w6 ⟨rfl, k6⟩; have HR6 := run_rw (hI5.keep (by show 0 < 26; decide) k6 (fun e => e))))
          go_ret2
          exact ⟨rfl, (kr.trans K45).trans k6⟩
        generalize hev : endD r = ev at *
        cases ev
        · have eA := HBad.out (by rw [hfd]; rfl)
          subst eA
          go_wp2_with (first | (refine wpList_load_run rfl 50 _ rfl ⟨b, off + k * 26, none⟩ rfl _ hR ?_; clear hR) | (rw [← HW4.out]; clear HW4; refine wpList_store_cl rfl 50 _ _ rfl wr.heap.size 0 26 _ rfl rfl rfl hU4 (by show 26 ≤ 26; decide) iRw hOC ?_; intro w5 hc5 k5 hsz5; clear hsz5; have hI5 : CL w5 wr.heap.size r.cells := hc5; clear hc5; have K45 : Keeps (fun _ => False) wr w5 := k4.trans' k5 (fun _ _ e => e) (fun i hi e => (by have e : i = wr.heap.size := e; omega)); have hK5 := hK.keep (by decide) K45 (fun e => e); have c0 := hI5.c 0 _ rfl; have c5 := hI5.c 5 _ rfl; have HR5 := run_rw hI5; have hpl := HPL.out w5 K45) | (refine wpList_load_runG (by rfl) 50 _ rfl ⟨wr.heap.size, 0, none⟩ rfl _ HR5 ?_; clear HR5) | (go_at_call 47; refine hpl.mono ?_; clear hpl; rintro e w6 ⟨rfl, k6⟩; have HR6 := run_rw (hI5.keep (by show 0 < 26; decide) k6 (fun e => e))) | (refine wpList_load_runG (by rfl) 50 _ rfl ⟨wr.heap.size, 0, none⟩ rfl _ HR6 ?_; clear HR6) | (go_at_call 48; refine (hen w6).mono ?_; clear hen; rintro e w7 ⟨rfl, k7⟩; have HR7 := run_rw (hI5.keep (by show 0 < 26; decide) (k6.trans k7) (fun e => e))))
          go_ret2
          exact ⟨rfl, ((kr.trans K45).trans k6).trans k7⟩
        replace HTD : Hid (∀ W, Keeps (fun _ => False) wr W → Calls Try.prog 49 #[.pointer (some ⟨w.heap.size, 0, none⟩), .agg r.cells.toArray] W fun e w' => e = .returned (.bool (readD r (g (6 + r.thread.toNat)))) ∧ Keeps (fun _ => False) W w') := fun W kk => HTD.out W rfl kk
        generalize readD r (g (6 + r.thread.toNat)) = rv at *
        cases rv
        · have eA := HBad.out (by rw [hfd]; rfl)
          clear HKP
          subst eA
          go_wp2_with (first | (refine wpList_load_run rfl 50 _ rfl ⟨b, off + k * 26, none⟩ rfl _ hR ?_; clear hR) | (rw [← HW4.out]; clear HW4; refine wpList_store_cl rfl 50 _ _ rfl wr.heap.size 0 26 _ rfl rfl rfl hU4 (by show 26 ≤ 26; decide) iRw hOC ?_; intro w5 hc5 k5 hsz5; clear hsz5; have hI5 : CL w5 wr.heap.size r.cells := hc5; clear hc5; have K45 : Keeps (fun _ => False) wr w5 := k4.trans' k5 (fun _ _ e => e) (fun i hi e => (by have e : i = wr.heap.size := e; omega)); have hK5 := hK.keep (by decide) K45 (fun e => e); have c0 := hI5.c 0 _ rfl; have c5 := hI5.c 5 _ rfl; have HR5 := run_rw hI5; have hpl := HPL.out w5 K45) | (refine wpList_load_runG (by rfl) 50 _ rfl ⟨wr.heap.size, 0, none⟩ rfl _ HR5 ?_; clear HR5) | (go_at_call 47; refine hpl.mono ?_; clear hpl; rintro e w6 ⟨rfl, k6⟩; have HR6 := run_rw (hI5.keep (by show 0 < 26; decide) k6 (fun e => e))) | (refine wpList_load_runG (by rfl) 50 _ rfl ⟨wr.heap.size, 0, none⟩ rfl _ HR6 ?_; clear HR6) | (go_at_call 48; refine (hen w6).mono ?_; clear hen; rintro e w7 ⟨rfl, k7⟩; have HR7 := run_rw (hI5.keep (by show 0 < 26; decide) (k6.trans k7) (fun e => e)); have htd := HTD.out w7 ((K45.trans k6).trans k7)) | (refine wpList_load_runG (by rfl) 50 _ rfl ⟨wr.heap.size, 0, none⟩ rfl _ HR7 ?_; clear HR7) | (go_at_call 49; refine htd.mono ?_; clear htd; rintro e w8 ⟨rfl, k8⟩; have HR8 := run_rw (hI5.keep (by show 0 < 26; decide) ((k6.trans k7).trans k8) (fun e => e))))
          go_ret2
          exact ⟨rfl, (((kr.trans K45).trans k6).trans k7).trans k8⟩
        have hfit : fitP f r r.thread.toNat = true := by rw [hfd]; rfl
        clear HBad
        have HF4 : Hid (fstP (l.drop (k + 1)) (k + 1) (folP f r r.thread.toNat) = A) := by
          show _ = _
          rw [← HF3.out]
          conv => rhs; unfold fstP
          rw [if_neg (by rw [hfit]; simp [hs])]
        obtain ⟨hRn, hBn⟩ := HNX.out hfit
        replace HKP : Hid (∀ W, Keeps (fun _ => False) wr W → Calls Try.prog 50 #[.pointer (some ⟨w.heap.size, 0, none⟩), .agg r.cells.toArray, .int .i64 (k : Int)] W fun e w' => e = .returned (.tuple #[]) ∧ IB w' w.heap.size 14 (kpD g r r.thread.toNat (k : Int)) ∧ Keeps (fun k => k = w.heap.size) W w') := fun W kk => HKP.out W hfit kk
        clear HF3 HNX
        go_wp2_with (first | (refine wpList_load_run rfl 50 _ rfl ⟨b, off + k * 26, none⟩ rfl _ hR ?_; clear hR) | (rw [← HW4.out]; clear HW4; refine wpList_store_cl rfl 50 _ _ rfl wr.heap.size 0 26 _ rfl rfl rfl hU4 (by show 26 ≤ 26; decide) iRw hOC ?_; intro w5 hc5 k5 hsz5; clear hsz5; have hI5 : CL w5 wr.heap.size r.cells := hc5; clear hc5; have K45 : Keeps (fun _ => False) wr w5 := k4.trans' k5 (fun _ _ e => e) (fun i hi e => (by have e : i = wr.heap.size := e; omega)); have hK5 := hK.keep (by decide) K45 (fun e => e); have c0 := hI5.c 0 _ rfl; have c5 := hI5.c 5 _ rfl; have HR5 := run_rw hI5; have hpl := HPL.out w5 K45) | (refine wpList_load_runG (by rfl) 50 _ rfl ⟨wr.heap.size, 0, none⟩ rfl _ HR5 ?_; clear HR5) | (go_at_call 47; refine hpl.mono ?_; clear hpl; rintro e w6 ⟨rfl, k6⟩; have HR6 := run_rw (hI5.keep (by show 0 < 26; decide) k6 (fun e => e))) | (refine wpList_load_runG (by rfl) 50 _ rfl ⟨wr.heap.size, 0, none⟩ rfl _ HR6 ?_; clear HR6) | (go_at_call 48; refine (hen w6).mono ?_; clear hen; rintro e w7 ⟨rfl, k7⟩; have HR7 := run_rw (hI5.keep (by show 0 < 26; decide) (k6.trans k7) (fun e => e)); have htd := HTD.out w7 ((K45.trans k6).trans k7)) | (refine wpList_load_runG (by rfl) 50 _ rfl ⟨wr.heap.size, 0, none⟩ rfl _ HR7 ?_; clear HR7) | (go_at_call 49; refine htd.mono ?_; clear htd; rintro e w8 ⟨rfl, k8⟩; have HR8 := run_rw (hI5.keep (by show 0 < 26; decide) ((k6.trans k7).trans k8) (fun e => e)); have hkp := HKP.out w8 (((K45.trans k6).trans k7).trans k8)) | (refine wpList_load_run rfl 50 _ rfl ⟨wr.heap.size, 0, none⟩ rfl _ HR8 ?_; clear HR8) | (go_at_call 50; refine hkp.mono ?_; clear hkp; rintro e w9 ⟨rfl, hK9, k9⟩))
        have K9 : Keeps (fun _ => False) w w9 := (((kr.trans K45).trans k6).trans k7).trans k8 |>.trans' k9 (fun _ _ e => e) (fun i hi e => by have e : i = w.heap.size := e; omega)
        go_roundw
        case rel => exact ⟨k + 1, _, _, by go_num, by omega, HF4, hBn, hRn, hK9, K9⟩
        case measure => simp [intOf]; omega
      · have s1 : (r.step != (k : Int)) = true := by simp [hs]
        have eA : A = some k := by
          rw [← HF3.out]
          unfold fstP
          rw [if_pos (.inl hs)]
        subst eA
        clear HF3 HBad HNX
        go_wp2_with (first | (refine wpList_load_run rfl 50 _ rfl ⟨b, off + k * 26, none⟩ rfl _ hR ?_; clear hR) | (rw [← HW4.out]; clear HW4; refine wpList_store_cl rfl 50 _ _ rfl wr.heap.size 0 26 _ rfl rfl rfl hU4 (by show 26 ≤ 26; decide) iRw hOC ?_; intro w5 hc5 k5 hsz5; clear hsz5; have hI5 : CL w5 wr.heap.size r.cells := hc5; clear hc5; have K45 : Keeps (fun _ => False) wr w5 := k4.trans' k5 (fun _ _ e => e) (fun i hi e => (by have e : i = wr.heap.size := e; omega)); have hK5 := hK.keep (by decide) K45 (fun e => e); have c0 := hI5.c 0 _ rfl; have c5 := hI5.c 5 _ rfl; have HR5 := run_rw hI5; have hpl := HPL.out w5 K45))
        go_ret2
        exact ⟨rfl, kr.trans K45⟩
    · have eA : A = none := by
        rw [← HF.out, List.drop_of_length_le (by omega)]
        rfl
      subst eA
      have l1 : decide ((k : Int) < (N : Int)) = false := decide_eq_false (by omega)
      have l4 : decide (k < N) = false := decide_eq_false hlt
      clear HF
      go_wp2
      go_ret2
      exact ⟨rfl, kr⟩
end Go.Proofs.Ytmnmphkkcabkiaa

namespace Go.Proofs.Ytmnmphkkcabkiaa
open Go.RowKit
theorem add_at (b o j : Nat) : (⟨b, o, none⟩ : Addr).add j = ⟨b, o + j, none⟩ := by
  unfold Addr.add; split <;> simp_all
def rcl (l : List Rw) : List Value := l.flatMap Rw.cells
theorem rw_len (r : Rw) : r.cells.length = 26 := rfl
theorem rcl_len : ∀ l : List Rw, (rcl l).length = l.length * 26
  | [] => rfl
  | r :: l => by
    show (r.cells ++ rcl l).length = _
    rw [List.length_append, rw_len, rcl_len l, List.length_cons]
    omega
theorem rcl_get : ∀ (l : List Rw) (i j : Nat) (v : Value), i < l.length → (l.getD i rw0).cells[j]? = some v → (rcl l)[i * 26 + j]? = some v
  | [], _, _, _, h, _ => by simp at h
  | q :: l, 0, j, v, _, hv => by
    have hv : q.cells[j]? = some v := hv
    have hj : j < q.cells.length := (List.getElem?_eq_some_iff.1 hv).1
    show (q.cells ++ rcl l)[0 * 26 + j]? = some v
    rw [Nat.zero_mul, Nat.zero_add, List.getElem?_append_left hj]; exact hv
  | q :: l, i + 1, j, v, h, hv => by
    have hv : (l.getD i rw0).cells[j]? = some v := hv
    have h' : i < l.length := by simpa using h
    show (q.cells ++ rcl l)[(i + 1) * 26 + j]? = some v
    rw [List.getElem?_append_right (by rw [rw_len]; omega), rw_len, show (i + 1) * 26 + j - 26 = i * 26 + j by omega]
    exact rcl_get l i j v h' hv
theorem rcl_back : ∀ (l : List Rw) (k : Nat) (v : Value), (rcl l)[k]? = some v → k / 26 < l.length ∧ (l.getD (k / 26) rw0).cells[k % 26]? = some v
  | [], _, _, h => by simp [rcl] at h
  | q :: l, k, v, h => by
    have h : (q.cells ++ rcl l)[k]? = some v := h
    by_cases hk : k < 26
    · rw [List.getElem?_append_left (by rw [rw_len]; exact hk)] at h
      have e1 : k / 26 = 0 := by omega
      have e2 : k % 26 = k := by omega
      rw [e1, e2]
      exact ⟨by simp, h⟩
    · rw [List.getElem?_append_right (by rw [rw_len]; omega), rw_len] at h
      obtain ⟨h1, h2⟩ := rcl_back l (k - 26) v h
      have e1 : k / 26 = (k - 26) / 26 + 1 := by omega
      have e2 : k % 26 = (k - 26) % 26 := by omega
      rw [e1, e2]
      exact ⟨by simpa using h1, h2⟩
theorem one_rcl (l : List Rw) : ∀ v ∈ rcl l, v.oneCell' = true := fun v hv => by
  obtain ⟨r, _, hr⟩ := List.mem_flatMap.1 hv
  have := all_oneCell_rw r
  rw [Array.all_eq_true'] at this
  exact this v (by simpa using hr)
theorem rsl_of_owns {W : World} {base n : Nat} {v : Value} {l : List Rw} (h : W.ownsRow base 50 26 v n (rcl l)) (hn : l.length = n) : ∃ a cap, v = .slice a n cap ∧ RSL W a l := by
  rcases h.2 with ⟨rfl, h0⟩ | ⟨g, cap, cur, rfl, _⟩
  · have hz : n = 0 := by first | exact h0.1 | omega
    subst hz
    exact ⟨none, 0, rfl, fun i hi => by omega⟩
  · refine ⟨_, cap, rfl, fun i hi => ⟨g, 0, rfl, fun j v hv => ?_⟩⟩
    have e := rcl_get l i j v hi hv
    have hc := h.cells (g := g) rfl (i * 26 + j) v e
    rw [add_at] at hc
    rw [Nat.zero_add] at hc ⊢
    exact hc
theorem uRows : Try.prog.underlying 23 = some (.slice 50) := by kernel_rfl
theorem iRows : ∃ i, Try.prog.info? 50 = some i ∧ i.zero = some (.agg rw0.cells.toArray) ∧ i.size = 26 ∧ i.bytes = 192 := by
  have h : (Try.prog.info? 50).map (fun i => (i.zero, i.size, i.bytes)) = some (some (.agg rw0.cells.toArray), 26, 192) := by kernel_rfl
  cases hi : Try.prog.info? 50 with
  | none => rw [hi] at h; cases h
  | some i =>
    rw [hi] at h
    simp only [Option.map_some] at h
    injection h with h
    injection h with h1 h2
    injection h2 with h2 h3
    exact ⟨i, rfl, h1, h2, h3⟩
theorem heap_new (W : World) (ob : Obj) : (W.alloc ob).heap[W.heap.size]? = some ob := (MapKept.heap_alloc W ob).1
set_option maxRecDepth 100000 in
theorem copy_r {W0 : World} {ao : Option Addr} {l : List Rw} (co : Nat) (hO : RSL W0 ao l) (hz : ao = none → co = 0) (hn : l.length * 192 ≤ 140737488355328) :
    ∃ v' W', (Builtin.append_ #[23, 23] 23 #[.slice (some ⟨W0.heap.size, 0, none⟩) 0 0, .slice ao l.length co]).run Try.prog (W0.alloc (.cells #[] 50)) = .ok v' W' ∧ W'.ownsRow W0.heap.size 50 26 v' l.length (rcl l) ∧ Keeps (fun _ => False) W0 W' := by
  obtain ⟨i0, hi0, hz0, hz1, hz2⟩ := iRows
  have k0 : Keeps (fun _ => False) W0 (W0.alloc (.cells #[] 50)) := (Keeps.refl _ W0).alloc _
  have o0 : (W0.alloc (.cells #[] 50)).ownsRow W0.heap.size 50 26 (.slice (some ⟨W0.heap.size, 0, none⟩) 0 0) 0 [] := ⟨rfl, .inr ⟨W0.heap.size, 0, #[], rfl, Nat.le_refl _, heap_new W0 _, Nat.le_refl _, by unfold maxLen; omega, rfl, rfl⟩⟩
  cases ao with
  | none =>
    have hl : l = [] := by
      cases l with
      | nil => rfl
      | cons x r => obtain ⟨b, off, e, _⟩ := hO 0 (by simp); cases e
    subst hl
    rw [hz rfl]
    exact ⟨_, _, run_append_owned_none (P := Try.prog) (w := W0.alloc (.cells #[] 50)) W0.heap.size 23 23 50 i0 26 uRows hi0 _ 0 [] o0, o0, k0⟩
  | some a =>
    have hsrc : ∀ j u, (rcl l)[j]? = some u → (W0.alloc (.cells #[] 50)).cell? (a.add j) = some u := fun j u e => by
      obtain ⟨h1, h2⟩ := rcl_back l j u e
      obtain ⟨b, off, ea, hc⟩ := hO _ h1
      injection ea with ea
      subst ea
      rw [add_at]
      have := hc _ _ h2
      rw [show off + j / 26 * 26 + j % 26 = off + j by omega] at this
      exact k0.cell this (fun e => e)
    obtain ⟨v', w', hr, ho, hgr, _, _⟩ := run_append_own_at (P := Try.prog) (w := W0.alloc (.cells #[] 50)) W0.heap.size 23 23 50 i0 _ 26 192 uRows hi0 hz0 hz1 hz2 rfl (by decide) _ 0 [] o0 a l.length co (rcl l) (rcl_len l) hsrc (one_rcl l) (by unfold maxLen; omega) (by omega) k0.size
    rw [Nat.zero_add, List.nil_append] at ho
    exact ⟨v', w', hr, ho, k0.trans' ((Keeps.refl _ _).grown hgr (S := fun i => i = W0.heap.size) (fun i _ e => by simp [Value.ownBlock] at e; exact e.symm)) (fun _ _ e => e) (fun i hi e => by omega)⟩
theorem wpList_append_run {P : Program} {w : World} {ops : Array Oper} {rest : List Oper} {o : Oper} {a : Act} {Q : Exit → Act → World → Prop} (hgd : o.guard = none) (s x : Operand) (t : TypeId)
    (ho : o.op = .call { callee := .builtin .append, args := #[s, x], argTypes := #[t, t] }) (v src v' : Value) (w' : World) (hs : a.eval s = v) (hx : a.eval x = src)
    (hr : (Builtin.append_ #[t, t] o.type #[v, src]).run P w = .ok v' w') (h : wpList P ops Q rest (a.put o.dst v') w') : wpList P ops Q (o :: rest) a w :=
  wpList_plain hgd fun _ hK => by
    unfold Oper.wp execOp
    simp only [ho, resolve, invoke, builtin, Sem.run_bind, Sem.run_pure, Result.andThen_ok, List.map_toArray, List.map_cons, List.map_nil, hs, hx, hr]
    exact hK _ _ h
set_option maxHeartbeats 1000000 in
set_option maxRecDepth 100000 in
theorem copied_any {w : World} {a : Option Addr} {cap : Nat} {l : List Rw} (hl : RSL w a l) (hz : a = none → cap = 0) (hn : l.length * 192 ≤ 140737488355328) : Calls Try.prog 10 #[.slice a l.length cap] w fun e w' => ∃ a' cap', e = .returned (.slice a' l.length cap') ∧ RSL w' a' l ∧ Keeps (fun _ => False) w w' := by
  obtain ⟨v', W', hr, ho, k⟩ := copy_r cap hl hz hn
  obtain ⟨a', cap', rfl, hl'⟩ := rsl_of_owns ho rfl
  generalize l.length = N at *
  go_enter Try.func10, Try.ntmps10
  go_wp2_with (refine wpList_append_run rfl _ _ _ rfl _ _ _ W' rfl rfl hr ?_; clear hr)
  go_ret
  exact ⟨a', cap', rfl, hl', k⟩
theorem num_any (w : World) (n : Int) : Calls Try.prog 13 #[.int .i64 n] w fun e w' => e = .returned (.int .i64 n) ∧ w' = w := by
  go_enter Try.func13, Try.ntmps13
  go_wp2
  go_ret
  exact ⟨rfl, rfl⟩
end Go.Proofs.Ytmnmphkkcabkiaa

namespace Go.Proofs.Ytmnmphkkcabkiaa
open Go.RowKit
attribute [local go_sem] Oper.semAt_some run_store_nf run_store_f
theorem iTx : (Try.prog.info? 42).map (·.size) = some 11 := by kernel_rfl
theorem run_tx {W : World} {b o : Nat} {t : Tv} {sv wv : Value} (hc : ∀ j v, (t.cells sv wv)[j]? = some v → W.cell? ⟨b, o + j, none⟩ = some v) : (loadVar 42 ⟨b, o, none⟩).run Try.prog W = .ok (.agg (t.cells sv wv).toArray) W :=
  run_loadVar_mid W b o 42 (t.cells sv wv) _ hc Try.underlying42 rfl (by rw [iTx]; rfl)
theorem run_txB {W : World} {b : Nat} {t : Tv} {sv wv : Value} (h : CL W b (t.cells sv wv)) : (loadVar 42 ⟨b, 0, none⟩).run Try.prog W = .ok (.agg (t.cells sv wv).toArray) W := run_tx (fun j v e => by rw [Nat.zero_add]; exact h.c j v e)
theorem one_tx (t : Tv) {sv wv : Value} (hs : sv.oneCell' = true) (hw : wv.oneCell' = true) : (t.cells sv wv).toArray.all (·.oneCell') = true := all_oneCell_toArray (by simp [Tv.cells, Value.oneCell'] at hs hw ⊢; exact ⟨hs, hw⟩)
def nilv : Value := .slice none 0 0
def tv0 : Tv := ⟨0, 0, 0, 0, 0, 0, 0, 0, 0, [], []⟩
def begD (r : Rw) (st : Int) : Tv := ⟨r.thread, r.job, r.try_, r.no, st, r.step, -1, -1, 0, [], []⟩
def sawD (r : Rw) : Sw := ⟨r.step, r.object, r.entry, r.kind == 3 && r.entry == -1, r.phase == 2, false, r.vN, r.vX, r.vD⟩
def wroD (r : Rw) : Wo := ⟨r.object, r.pN, r.pX, r.pD⟩
def addF (t : Tv) (r : Rw) : Tv := if t.fnl < 0 ∧ r.phase = 3 then { t with fnl := r.step } else t
def addE (t : Tv) (r : Rw) : Tv := if r.fin = 0 then t else { t with end_ := r.step, out := r.fin }
def addS (t : Tv) (r : Rw) : Tv := if r.told = true then { t with saws := t.saws ++ [sawD r] } else t
def addW (t : Tv) (r : Rw) : Tv := if r.puts = true then { t with wrs := putD t.wrs (wroD r) } else t
def addD (t : Tv) (r : Rw) : Tv := addW (addS (addE (addF t r) r) r) r
set_option maxHeartbeats 1000000 in
set_option maxRecDepth 100000 in
theorem begun_any (w : World) (r : Rw) (st : Int) : Calls Try.prog 34 #[.agg r.cells.toArray, .int .i64 st] w fun e w' => e = .returned (.agg ((begD r st).cells nilv nilv).toArray) ∧ Keeps (fun _ => False) w w' := by
  obtain ⟨w0, e0, k0, hb, hz⟩ := rw_box w r
  obtain ⟨W1, hW1⟩ : ∃ W1, W1 = w0.alloc (.cells #[.int .i64 0, .int .i64 0, .int .i64 0, .int .i64 0, .int .i64 0, .int .i64 0, .int .i64 0, .int .i64 0, .int .i64 0, .slice none 0 0, .slice none 0 0] 42) := ⟨_, rfl⟩
  have k1 : Keeps (fun _ => False) w0 W1 := by rw [hW1]; exact (Keeps.refl _ w0).alloc _
  have m1 : CL W1 (w.heap.size + 1) (tv0.cells nilv nilv) := by rw [hW1, ← hz]; exact CL.made w0 (tv0.cells nilv nilv) _
  have c0 := k1.cell hb.c0 (fun e => e)
  have c1 := k1.cell hb.c1 (fun e => e)
  have c2 := k1.cell hb.c2 (fun e => e)
  have c3 := k1.cell hb.c3 (fun e => e)
  have c4 := k1.cell hb.c4 (fun e => e)
  have hA := one_tx (begD r st) (sv := nilv) (wv := nilv) rfl rfl
  have K1 := k0.trans k1
  clear hb hz k0
  go_enter Try.func34, Try.ntmps34
  refine wp_seq_k (fun KK hKK => ?_)
  have hKH : Hid _ := hKK
  clear hKK
  go_wp2_with fail
  refine hKH.out _ _ ?_
  clear hKH KK
  rw [← e0, ← hW1]
  clear e0 hW1 k1
  go_wp2_with (refine wpList_store_cl rfl 42 _ _ rfl (w.heap.size + 1) 0 11 ((begD r st).cells nilv nilv).toArray rfl rfl rfl m1 (by show 11 ≤ 11; decide) iTx hA ?_; intro w5 hc5 k5 hsz5; have hI5 : CL w5 (w.heap.size + 1) ((begD r st).cells nilv nilv) := hc5; have hR2 := run_txB hI5; have K5 : Keeps (fun _ => False) w w5 := K1.trans' k5 (fun _ _ e => e) (fun i hi e => by have e : i = w.heap.size + 1 := e; omega))
  exact bodyPost_ret (v := .agg ((begD r st).cells nilv nilv).toArray) ((results_cell1 (p := 4) (ty := 42) rfl _ _ _).trans hR2) rfl ⟨rfl, K5⟩
end Go.Proofs.Ytmnmphkkcabkiaa

