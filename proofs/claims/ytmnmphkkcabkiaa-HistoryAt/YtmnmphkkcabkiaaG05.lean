import Derived.Test.YtmnmphkkcabkiaaG02
import Derived.Test.YtmnmphkkcabkiaaG03
import Derived.Test.YtmnmphkkcabkiaaG04
namespace Go.Proofs.Ytmnmphkkcabkiaa
open Go.RowKit
def Bd (n : Nat) (f : Nat → Int) : Prop := ∀ i, i < 32 → -1 ≤ f i ∧ f i ≤ (n : Int) + 3
theorem Bd.wide {n : Nat} {f : Nat → Int} (h : Bd n f) (hn : n ≤ 4611686018427387904) : ∀ i, i < 32 → f i + 1 ≤ 9223372036854775807 ∧ -9223372036854775808 ≤ f i := fun i hi => by
  have := h i hi
  omega
theorem Bd.more {n : Nat} {f : Nat → Int} (h : Bd n f) : Bd (n + 1) f := fun i hi => by
  have := h i hi
  omega
theorem Bd.up {n : Nat} {f : Nat → Int} (h : Bd n f) {o : Nat} {v : Int} (hv : -1 ≤ v ∧ v ≤ (n : Int) + 3) : Bd n (up f o v) := fun i hi => by
  unfold Go.Proofs.Ytmnmphkkcabkiaa.up
  split
  · exact hv
  · exact h i hi
theorem eq3_iff {a b c x y z : Int} : eq3 a b c x y z = true ↔ a = x ∧ b = y ∧ c = z := by
  simp [eq3, and_assoc]
theorem sil_iff {r : Rw} : sil r = true ↔ r.fin = 0 ∧ r.told = false ∧ r.puts = false := by
  simp [sil, and_assoc]
theorem fit_away {f : Nat → Int} {r : Rw} {th : Nat} (h : fitP f r th = true) (hk : r.kind ≠ 0) : 0 ≤ r.thread ∧ r.thread < 6 := by
  unfold fitP at h
  rw [if_neg hk] at h
  by_cases g : r.thread < 0 ∨ 6 ≤ r.thread
  · rw [if_pos g] at h; cases h
  · omega
theorem fit_bd {f : Nat → Int} {r : Rw} {th n : Nat} (h : fitP f r th = true) (hk : r.kind ≠ 0) (ht : th < 6) (hB : Bd n f) : (-1 ≤ r.job ∧ r.job ≤ (n : Int) + 4) ∧ (-1 ≤ r.try_ ∧ r.try_ ≤ (n : Int) + 4) ∧ (-1 ≤ r.no ∧ r.no ≤ (n : Int) + 4) := by
  have b1 := hB (th * 5 + 1) (by omega)
  have b2 := hB (th * 5 + 2) (by omega)
  have b3 := hB (th * 5 + 3) (by omega)
  have b4 := hB 31 (by omega)
  have ha := fit_away h hk
  unfold fitP at h
  rw [if_neg hk, if_neg (by omega)] at h
  repeat' split at h
  all_goals
    simp only [Bool.and_eq_true, eq3_iff] at h
    omega
theorem fol_bd {f : Nat → Int} {r : Rw} {th n : Nat} (h : fitP f r th = true) (ht : th < 6) (hB : Bd n f) : Bd (n + 1) (folP f r th) := by
  by_cases hk : r.kind = 0
  · unfold folP
    rw [if_pos hk]
    exact hB.more
  obtain ⟨h1, h2, h3⟩ := fit_bd h hk ht hB
  have b30 := hB 30 (by omega)
  have b31 := hB 31 (by omega)
  have b4 := hB (th * 5 + 4) (by omega)
  have hm := hB.more
  have e1 : Bd (n + 1) (fol1 f r th) := ((hm.up (by omega)).up (by omega)).up (by omega)
  have e2 : Bd (n + 1) (fol2 f r th) := by
    unfold fol2
    repeat' split
    · exact (((e1.up (by omega)).up (by omega)).up (by omega)).up (by omega)
    · exact ((e1.up (by omega)).up (by omega)).up (by omega)
    · exact e1.up (by omega)
    · exact e1
  have e3 : Bd (n + 1) (fol3 f r th) := by
    unfold fol3
    split
    · exact e2.up (by omega)
    · exact e2
  unfold folP
  rw [if_neg hk]
  repeat' split
  · exact e3.up (by omega)
  · exact e3.up (by omega)
  · exact e3
theorem fits_any (w : World) {kb : Nat} {f : Nat → Int} (hK : IB w kb 32 f) (r : Rw) (hB : ∀ i, i < 32 → f i + 1 ≤ 9223372036854775807 ∧ -9223372036854775808 ≤ f i) : Calls Try.prog 38 #[.pointer (some ⟨kb, 0, none⟩), .agg r.cells.toArray] w fun e w' => e = .returned (.bool (fitP f r r.thread.toNat)) ∧ Keeps (fun _ => False) w w' := by
  by_cases hk : r.kind = 0
  · exact fits_stutter w hK r _ hk
  by_cases ht : r.thread < 0 ∨ 6 ≤ r.thread
  · exact fits_away w hK r _ hk ht
  have et : r.thread = (r.thread.toNat : Int) := by omega
  have hl : r.thread.toNat < 6 := by omega
  by_cases h1 : r.kind = 1
  · exact fits_1 w hK r _ h1 et hl hB
  by_cases h2 : r.kind = 2
  · exact fits_2 w hK r _ h2 et hl hB
  by_cases h17 : r.kind = 17
  · exact fits_17 w hK r _ h17 et hl hB
  exact fits_x w hK r _ ⟨hk, h1, h2, h17⟩ et hl hB
theorem follow_any (w : World) {kb : Nat} {f : Nat → Int} (hK : IB w kb 32 f) (r : Rw) (hB : ∀ i, i < 32 → f i + 1 ≤ 9223372036854775807 ∧ -9223372036854775808 ≤ f i) (hf : fitP f r r.thread.toNat = true) : Calls Try.prog 39 #[.pointer (some ⟨kb, 0, none⟩), .agg r.cells.toArray] w fun e w' => e = .returned (.tuple #[]) ∧ IB w' kb 32 (folP f r r.thread.toNat) ∧ Keeps (fun k => k = kb) w w' := by
  by_cases hk : r.kind = 0
  · exact follow_0 w hK r _ hk
  have ha := fit_away hf hk
  have et : r.thread = (r.thread.toNat : Int) := by omega
  have hl : r.thread.toNat < 6 := by omega
  unfold fitP at hf
  rw [if_neg hk, if_neg (by omega)] at hf
  by_cases h1 : r.kind = 1
  · rw [if_pos h1] at hf
    simp only [Bool.and_eq_true, sil_iff] at hf
    exact follow_1 w hK r _ h1 hf.2.2.1 hf.2.1 et hl hB
  by_cases h2 : r.kind = 2
  · rw [if_neg h1, if_pos h2] at hf
    simp only [Bool.and_eq_true, sil_iff] at hf
    exact follow_2 w hK r _ h2 hf.2.2.1 hf.2.1 et hl hB
  by_cases h17 : r.kind = 17
  · rw [if_neg h1, if_neg h2, if_pos h17] at hf
    simp only [Bool.and_eq_true, sil_iff] at hf
    exact follow_17 w hK r _ h17 hf.2.2.1 hf.2.1 et hl hB
  exact follow_x w hK r _ ⟨hk, h1, h2, h17⟩ et hl hB
def RSL (w : World) (a : Option Addr) (l : List Rw) : Prop := ∀ i, i < l.length → ∃ b off, a = some ⟨b, off, none⟩ ∧ ∀ j v, (l.getD i rw0).cells[j]? = some v → w.cell? ⟨b, off + i * 26 + j, none⟩ = some v
theorem RSL.keep {w w' : World} {a : Option Addr} {l : List Rw} (h : RSL w a l) (k : Keeps (fun _ => False) w w') : RSL w' a l := fun i hi => by
  obtain ⟨b, off, e, hc⟩ := h i hi
  exact ⟨b, off, e, fun j v hv => k.cell (hc j v hv) (fun e => e)⟩
theorem run_rwAt {W : World} {b o : Nat} {r : Rw} (hc : ∀ j v, r.cells[j]? = some v → W.cell? ⟨b, o + j, none⟩ = some v) : (loadVar 50 ⟨b, o, none⟩).run Try.prog W = .ok (.agg r.cells.toArray) W :=
  run_loadVar_mid W b o 50 r.cells _ hc Try.underlying50 rfl (by rw [iRw]; rfl)
theorem all_oneCell_rw (r : Rw) : r.cells.toArray.all (·.oneCell') = true := all_oneCell_toArray (by simp [Rw.cells, Value.oneCell'])
def f0 (k : Nat) : Nat → Int := fun o => if o % 5 = 1 ∧ o < k * 5 then -1 else 0
set_option maxHeartbeats 1000000 in
set_option maxRecDepth 100000 in
theorem newKeeper_any (w : World) : Calls Try.prog 37 #[] w fun e w' => e = .returned (.pointer (some ⟨w.heap.size, 0, none⟩)) ∧ IB w' w.heap.size 32 (f0 6) ∧ Keeps (fun _ => False) w w' := by
  obtain ⟨W, hW⟩ : ∃ W, W = w.alloc (.cells #[.int .i64 0, .int .i64 0, .int .i64 0, .int .i64 0, .int .i64 0, .int .i64 0, .int .i64 0, .int .i64 0, .int .i64 0, .int .i64 0, .int .i64 0, .int .i64 0, .int .i64 0, .int .i64 0, .int .i64 0, .int .i64 0, .int .i64 0, .int .i64 0, .int .i64 0, .int .i64 0, .int .i64 0, .int .i64 0, .int .i64 0, .int .i64 0, .int .i64 0, .int .i64 0, .int .i64 0, .int .i64 0, .int .i64 0, .int .i64 0, .int .i64 0, .int .i64 0] 112) := ⟨_, rfl⟩
  have hI : IB W w.heap.size 32 (f0 0) := by
    rw [hW]
    have := IB.made w 32 0 112
    refine ⟨fun o ho => ?_, fun o ho => this.z o ho⟩
    have e : f0 0 o = 0 := by unfold f0; rw [if_neg (by omega)]
    rw [e]
    exact this.c o ho
  have kW : Keeps (fun k => k = w.heap.size) w W := by rw [hW]; exact (Keeps.refl _ w).alloc _
  go_enter Try.func37, Try.ntmps37
  go_wp2_with fail
  rw [← hW]
  clear hW
  go_loopw [5] (fun iv Wr => ∃ k : Nat, iv = .int .i64 (k : Int) ∧ k ≤ 6 ∧ IB Wr w.heap.size 32 (f0 k) ∧ Keeps (fun k => k = w.heap.size) w Wr) (fun iv _ => 6 - (intOf iv).toNat)
  case atStart => exact ⟨0, rfl, by decide, hI, kW⟩
  case round =>
    obtain ⟨k, rfl, hk, hK, kr⟩ := hrel
    by_cases hlt : k < 6
    · have l1 : decide ((k : Int) < 6) = true := decide_eq_true (by omega)
      have l2 : (k : Int) < 6 := by omega
      have l3 : (0 : Int) ≤ (k : Int) := by omega
      have hF : Hid (up (f0 k) (k * 5 + 1) (-1) = f0 (k + 1)) := by
        show _ = _
        funext o
        unfold up f0
        by_cases e : o = k * 5 + 1
        · rw [if_pos e, if_pos (by omega)]
        · rw [if_neg e]
          by_cases g : o % 5 = 1 ∧ o < k * 5
          · rw [if_pos g, if_pos (by omega)]
          · rw [if_neg g, if_neg (by omega)]
      go_wp2_with (refine wpList_store_ib rfl rfl _ _ rfl w.heap.size (k * 5 + 1) rfl _ rfl hK (by omega) ?_; intro w2 hK2 k2 hz2; clear hz2)
      rw [hF.out] at hK2
      go_roundw
      case rel => exact ⟨k + 1, by go_num, by omega, hK2, kr.trans k2⟩
      case measure => simp [intOf]; omega
    · have e : k = 6 := by omega
      subst e
      go_wp2
      go_ret
      exact ⟨rfl, hK, kr.mono (fun i hi e => by have e : i = w.heap.size := e; omega)⟩
def fstP : List Rw → Nat → (Nat → Int) → Option Nat
  | [], _, _ => none
  | r :: l, i, f => if r.step ≠ (i : Int) ∨ fitP f r r.thread.toNat = false then some i else fstP l (i + 1) (folP f r r.thread.toNat)
def ansP (o : Option Nat) : Int × Int := match o with | none => (-1, 0) | some k => ((k : Int), 150)
theorem f0_bd : Bd 0 (f0 6) := fun i _ => by
  unfold f0
  split <;> omega
set_option maxHeartbeats 1000000 in
set_option maxRecDepth 100000 in
theorem check_any {w : World} {a : Option Addr} {cap : Nat} {l : List Rw} (hl : RSL w a l) (hlen : l.length ≤ 4611686018427387904) : Calls Try.prog 23 #[.slice a l.length cap] w fun e w' => e = .returned (.tuple #[.int .i64 (ansP (fstP l 0 (f0 6))).1, .int .i64 (ansP (fstP l 0 (f0 6))).2]) ∧ Keeps (fun _ => False) w w' := by
  generalize hN : l.length = N at *
  generalize hA : fstP l 0 (f0 6) = A
  have HA : Hid (fstP (l.drop 0) 0 (f0 6) = A) := hA
  clear hA
  have hnk := newKeeper_any w
  go_enter Try.func23, Try.ntmps23
  go_wp2_with (go_at_call 37; refine hnk.mono ?_; clear hnk; rintro e w1 ⟨rfl, hK1, k1⟩)
  go_loopw [10] (fun iv Wr => ∃ (k : Nat) (f : Nat → Int), iv = .int .i64 (k : Int) ∧ k ≤ N ∧ Hid (fstP (l.drop k) k f = A) ∧ Bd k f ∧ IB Wr w.heap.size 32 f ∧ Keeps (fun _ => False) w Wr) (fun iv _ => N - (intOf iv).toNat)
  case atStart => exact ⟨0, f0 6, rfl, Nat.zero_le _, HA, f0_bd, hK1, k1⟩
  case round =>
    obtain ⟨k, f, rfl, hk, HF, hB, hK, kr⟩ := hrel
    clear HA hK1 k1
    by_cases hlt : k < N
    · have l1 : decide ((k : Int) < (N : Int)) = true := decide_eq_true (by omega)
      have l2 : (k : Int) < (N : Int) := by omega
      have l4 : decide (k < N) = true := decide_eq_true hlt
      obtain ⟨b, off, rfl, hc⟩ := hl k (by omega)
      have hR := run_rwAt (W := wr) (fun j v e => kr.cell (hc j v e) (fun e => e))
      have hD : l.drop k = l.getD k rw0 :: l.drop (k + 1) := by
        rw [List.drop_eq_getElem_cons (by omega), List.getD_eq_getElem?_getD, List.getElem?_eq_getElem (by omega)]; rfl
      have HF2 := HF.out
      rw [hD] at HF2
      clear hD HF hc
      generalize l.getD k rw0 = r at *
      have hbw := hB.wide (by omega)
      obtain ⟨W4, hW4⟩ : ∃ W4, W4 = wr.alloc (.cells #[.int .i64 0, .int .i64 0, .int .i64 0, .int .i64 0, .int .i64 0, .int .i64 0, .int .i64 0, .int .i64 0, .int .i64 0, .int .i64 0, .int .i64 0, .int .i64 0, .int .i64 0, .bool false, .bool false, .bool false, .int .i64 0, .bool false, .int .i64 0, .int .i64 0, .bool false, .bool false, .int .i64 0, .int .i64 0, .bool false, .int .i64 0] 50) := ⟨_, rfl⟩
      have k4 : Keeps (fun _ => False) wr W4 := by rw [hW4]; exact (Keeps.refl _ wr).alloc _
      have hU4 : CL W4 wr.heap.size rw0.cells := by rw [hW4]; exact CL.made wr rw0.cells _
      have hOC := all_oneCell_rw r
      have hne : ¬ w.heap.size = wr.heap.size := fun e => by have := hK.lt (by decide); omega
      have HW4 : Hid (W4 = wr.alloc (.cells #[.int .i64 0, .int .i64 0, .int .i64 0, .int .i64 0, .int .i64 0, .int .i64 0, .int .i64 0, .int .i64 0, .int .i64 0, .int .i64 0, .int .i64 0, .int .i64 0, .int .i64 0, .bool false, .bool false, .bool false, .int .i64 0, .bool false, .int .i64 0, .int .i64 0, .bool false, .bool false, .int .i64 0, .int .i64 0, .bool false, .int .i64 0] 50)) := hW4
      clear hW4
      have HF3 : Hid (fstP (r :: l.drop (k + 1)) k f = A) := HF2
      clear HF2
      by_cases hs : r.step = (k : Int)
      · have s1 : (r.step != (k : Int)) = false := by simp [hs]
        cases hfit : fitP f r r.thread.toNat
        · have eA : A = some k := by
            rw [← HF3.out]
            unfold fstP
            rw [if_pos (.inr hfit)]
          subst eA
          clear HF3
          go_wp2_with (first | (refine wpList_load_run rfl 50 _ rfl ⟨b, off + k * 26, none⟩ rfl _ hR ?_; clear hR) | (rw [← HW4.out]; clear HW4; refine wpList_store_cl rfl 50 _ _ rfl wr.heap.size 0 26 _ rfl rfl rfl hU4 (by show 26 ≤ 26; decide) iRw hOC ?_; intro w5 hc5 k5 hsz5; clear hsz5; have hI5 : CL w5 wr.heap.size r.cells := hc5; clear hc5; have K45 : Keeps (fun _ => False) wr w5 := k4.trans' k5 (fun _ _ e => e) (fun i hi e => (by have e : i = wr.heap.size := e; omega)); have hK5 := hK.keep (by decide) K45 (fun e => e); have c0 := hI5.c 0 _ rfl; have hf := fits_any w5 hK5 r hbw; have HR5 := run_rw hI5) | (refine wpList_load_runG (by rfl) 50 _ rfl ⟨wr.heap.size, 0, none⟩ rfl _ HR5 ?_; clear HR5) | (go_at_call 38; rw [hfit] at hf; refine hf.mono ?_; clear hf; rintro e w6 ⟨rfl, k6⟩; have hK6 := hK5.keep (by decide) k6 (fun e => e); have HR6 := run_rw (hI5.keep (by show 0 < 26; decide) k6 (fun e => e))))
          go_ret2
          exact ⟨rfl, (kr.trans K45).trans k6⟩
        · have HF4 : Hid (fstP (l.drop (k + 1)) (k + 1) (folP f r r.thread.toNat) = A) := by
            show _ = _
            rw [← HF3.out]
            conv => rhs; unfold fstP
            rw [if_neg (by rw [hfit]; simp [hs])]
          have hth : r.kind ≠ 0 → r.thread.toNat < 6 := fun hk => by have := fit_away hfit hk; omega
          have hB7 : Bd (k + 1) (folP f r r.thread.toNat) := by
            by_cases hk0 : r.kind = 0
            · unfold folP
              rw [if_pos hk0]
              exact hB.more
            · exact fol_bd hfit (hth hk0) hB
          clear HF3 hth
          go_wp2_with (first | (refine wpList_load_run rfl 50 _ rfl ⟨b, off + k * 26, none⟩ rfl _ hR ?_; clear hR) | (rw [← HW4.out]; clear HW4; refine wpList_store_cl rfl 50 _ _ rfl wr.heap.size 0 26 _ rfl rfl rfl hU4 (by show 26 ≤ 26; decide) iRw hOC ?_; intro w5 hc5 k5 hsz5; clear hsz5; have hI5 : CL w5 wr.heap.size r.cells := hc5; clear hc5; have K45 : Keeps (fun _ => False) wr w5 := k4.trans' k5 (fun _ _ e => e) (fun i hi e => (by have e : i = wr.heap.size := e; omega)); have hK5 := hK.keep (by decide) K45 (fun e => e); have c0 := hI5.c 0 _ rfl; have hf := fits_any w5 hK5 r hbw; have HR5 := run_rw hI5) | (refine wpList_load_runG (by rfl) 50 _ rfl ⟨wr.heap.size, 0, none⟩ rfl _ HR5 ?_; clear HR5) | (go_at_call 38; rw [hfit] at hf; refine hf.mono ?_; clear hf; rintro e w6 ⟨rfl, k6⟩; have hK6 := hK5.keep (by decide) k6 (fun e => e); have HR6 := run_rw (hI5.keep (by show 0 < 26; decide) k6 (fun e => e))) | (refine wpList_load_run rfl 50 _ rfl ⟨wr.heap.size, 0, none⟩ rfl _ HR6 ?_; clear HR6) | (go_at_call 39; refine (follow_any w6 hK6 r hbw hfit).mono ?_; rintro e w7 ⟨rfl, hK7, k7⟩))
          have K7 : Keeps (fun _ => False) w w7 := ((kr.trans K45).trans k6).trans' k7 (fun _ _ e => e) (fun i hi e => by have e : i = w.heap.size := e; omega)
          go_roundw
          case rel => exact ⟨k + 1, _, by go_num, by omega, HF4, hB7, hK7, K7⟩
          case measure => simp [intOf]; omega
      · have s1 : (r.step != (k : Int)) = true := by simp [hs]
        have eA : A = some k := by
          rw [← HF3.out]
          unfold fstP
          rw [if_pos (.inl hs)]
        subst eA
        clear HF3
        go_wp2_with (first | (refine wpList_load_run rfl 50 _ rfl ⟨b, off + k * 26, none⟩ rfl _ hR ?_; clear hR) | (rw [← HW4.out]; clear HW4; refine wpList_store_cl rfl 50 _ _ rfl wr.heap.size 0 26 _ rfl rfl rfl hU4 (by show 26 ≤ 26; decide) iRw hOC ?_; intro w5 hc5 k5 hsz5; clear hsz5; have hI5 : CL w5 wr.heap.size r.cells := hc5; clear hc5; have K45 : Keeps (fun _ => False) wr w5 := k4.trans' k5 (fun _ _ e => e) (fun i hi e => (by have e : i = wr.heap.size := e; omega)); have hK5 := hK.keep (by decide) K45 (fun e => e); have c0 := hI5.c 0 _ rfl; have hf := fits_any w5 hK5 r hbw; have HR5 := run_rw hI5))
        go_ret2
        exact ⟨rfl, kr.trans K45⟩
    · have eA : A = none := by
        rw [← HF.out, List.drop_of_length_le (by omega)]
        rfl
      subst eA
      have l1 : decide ((k : Int) < (N : Int)) = false := decide_eq_false (by omega)
      have l4 : decide (k < N) = false := decide_eq_false hlt
      clear HF
      go_wp2
      go_ret2
      exact ⟨rfl, kr⟩
end Go.Proofs.Ytmnmphkkcabkiaa

namespace Go.Proofs.Ytmnmphkkcabkiaa
open Go.RowKit
theorem takes_load {P : Program} {w : World} {o : Oper} {a : Act} (ty : TypeId) (x : Operand) (ho : o.op = .load ty x) (ad : Addr) (hx : a.eval x = .pointer (some ad)) {v : Value} (hr : (loadVar ty ad).run P w = .ok v w) : (execOp a.eval o).run P w = .ok (.value v) w := by
  unfold execOp
  simp only [ho, hx, Instr.loadAt, Instr.sureAddr, Sem.run_bind, Sem.run_pure, Result.andThen_ok, hr]
def stR (r : Rw) : Int := if r.kind = 17 then 0 else if dec r.fin then 3 else if r.fin ≠ 0 then 2 else 1
def g0 (k : Nat) : Nat → Int := fun o => if o < k then -1 else 0
set_option maxHeartbeats 1000000 in
set_option maxRecDepth 100000 in
theorem book_any (w : World) : Calls Try.prog 46 #[] w fun e w' => e = .returned (.pointer (some ⟨w.heap.size, 0, none⟩)) ∧ IB w' w.heap.size 14 (g0 6) ∧ Keeps (fun _ => False) w w' := by
  obtain ⟨W, hW⟩ : ∃ W, W = w.alloc (.cells #[.int .i64 0, .int .i64 0, .int .i64 0, .int .i64 0, .int .i64 0, .int .i64 0, .int .i64 0, .int .i64 0, .int .i64 0, .int .i64 0, .int .i64 0, .int .i64 0, .int .i64 0, .int .i64 0] 121) := ⟨_, rfl⟩
  have hI : IB W w.heap.size 14 (g0 0) := by
    rw [hW]
    have := IB.made w 14 0 121
    refine ⟨fun o ho => ?_, fun o ho => this.z o ho⟩
    have e : g0 0 o = 0 := by unfold g0; rw [if_neg (by omega)]
    rw [e]
    exact this.c o ho
  have kW : Keeps (fun k => k = w.heap.size) w W := by rw [hW]; exact (Keeps.refl _ w).alloc _
  go_enter Try.func46, Try.ntmps46
  go_wp2_with fail
  rw [← hW]
  clear hW
  go_loopw [2] (fun iv Wr => ∃ k : Nat, iv = .int .i64 (k : Int) ∧ k ≤ 6 ∧ IB Wr w.heap.size 14 (g0 k) ∧ Keeps (fun k => k = w.heap.size) w Wr) (fun iv _ => 6 - (intOf iv).toNat)
  case atStart => exact ⟨0, rfl, by decide, hI, kW⟩
  case round =>
    obtain ⟨k, rfl, hk, hK, kr⟩ := hrel
    by_cases hlt : k < 6
    · have l1 : decide ((k : Int) < 6) = true := decide_eq_true (by omega)
      have l2 : (k : Int) < 6 := by omega
      have l3 : (0 : Int) ≤ (k : Int) := by omega
      have hF : Hid (up (g0 k) k (-1) = g0 (k + 1)) := by
        show _ = _
        funext o
        unfold up g0
        by_cases e : o = k
        · rw [if_pos e, if_pos (by omega)]
        · rw [if_neg e]
          by_cases g : o < k
          · rw [if_pos g, if_pos (by omega)]
          · rw [if_neg g, if_neg (by omega)]
      go_wp2_with (refine wpList_store_ib rfl rfl _ _ rfl w.heap.size k rfl _ rfl hK (by omega) ?_; intro w2 hK2 k2 hz2; clear hz2)
      rw [hF.out] at hK2
      go_roundw
      case rel => exact ⟨k + 1, by go_num, by omega, hK2, kr.trans k2⟩
      case measure => simp [intOf]; omega
    · have e : k = 6 := by omega
      subst e
      go_wp2
      go_ret
      exact ⟨rfl, hK, kr.mono (fun i hi e => by have e : i = w.heap.size := e; omega)⟩
set_option maxHeartbeats 1000000 in
set_option maxRecDepth 100000 in
theorem rstate_none (w : World) {gb : Nat} {g : Nat → Int} (hB : IB w gb 14 g) {a : Option Addr} {n cap : Nat} (th : Nat) (ht : th < 6) (hg : g th = -1) : Calls Try.prog 60 #[.pointer (some ⟨gb, 0, none⟩), .slice a n cap, .int .i64 (th : Int)] w fun e w' => e = .returned (.int .i64 0) ∧ Keeps (fun _ => False) w w' := by
  have d0 := hB.c th (by omega)
  rw [hg] at d0
  have i1 : (0 : Int) ≤ (th : Int) := by omega
  have i2 : (th : Int) < 6 := by omega
  have k0 : Keeps (fun _ => False) w w := Keeps.refl _ w
  go_enter Try.func60, Try.ntmps60
  go_wp2
  go_ret
  exact ⟨rfl, k0⟩
set_option maxHeartbeats 1000000 in
set_option maxRecDepth 100000 in
theorem rstate_some (w : World) {gb : Nat} {g : Nat → Int} (hB : IB w gb 14 g) {a : Option Addr} {l : List Rw} {cap : Nat} (hl : RSL w a l) (th j : Nat) (ht : th < 6) (hg : g th = (j : Int)) (hj : j < l.length) : Calls Try.prog 60 #[.pointer (some ⟨gb, 0, none⟩), .slice a l.length cap, .int .i64 (th : Int)] w fun e w' => e = .returned (.int .i64 (stR (l.getD j rw0))) ∧ Keeps (fun _ => False) w w' := by
  have d0 := hB.c th (by omega)
  rw [hg] at d0
  have i1 : (0 : Int) ≤ (th : Int) := by omega
  have i2 : (th : Int) < 6 := by omega
  have i3 : decide ((j : Int) < 0) = false := decide_eq_false (by omega)
  have i4 : (0 : Int) ≤ (j : Int) := by omega
  have i5 : (j : Int) < (l.length : Int) := by omega
  obtain ⟨b, off, rfl, hc⟩ := hl j hj
  have hR := run_rwAt hc
  clear hc hl hg hj
  generalize l.length = N at *
  generalize l.getD j rw0 = q at *
  obtain ⟨W4, hW4⟩ : ∃ W4, W4 = w.alloc (.cells #[.int .i64 0, .int .i64 0, .int .i64 0, .int .i64 0, .int .i64 0, .int .i64 0, .int .i64 0, .int .i64 0, .int .i64 0, .int .i64 0, .int .i64 0, .int .i64 0, .int .i64 0, .bool false, .bool false, .bool false, .int .i64 0, .bool false, .int .i64 0, .int .i64 0, .bool false, .bool false, .int .i64 0, .int .i64 0, .bool false, .int .i64 0] 50) := ⟨_, rfl⟩
  have k4 : Keeps (fun _ => False) w W4 := by rw [hW4]; exact (Keeps.refl _ w).alloc _
  have hU4 : CL W4 w.heap.size rw0.cells := by rw [hW4]; exact CL.made w rw0.cells _
  have hOC := all_oneCell_rw q
  have HW4 : Hid (W4 = w.alloc (.cells #[.int .i64 0, .int .i64 0, .int .i64 0, .int .i64 0, .int .i64 0, .int .i64 0, .int .i64 0, .int .i64 0, .int .i64 0, .int .i64 0, .int .i64 0, .int .i64 0, .int .i64 0, .bool false, .bool false, .bool false, .int .i64 0, .bool false, .int .i64 0, .int .i64 0, .bool false, .bool false, .int .i64 0, .int .i64 0, .bool false, .int .i64 0] 50)) := hW4
  clear hW4
  have hou := fun W => outcome_any W q.fin
  unfold stR
  generalize dec q.fin = dz at *
  by_cases h17 : q.kind = 17
  · rw [if_pos h17]
    have s1 : (q.kind == 17) = true := by simp [h17]
    clear h17
    go_enter Try.func60, Try.ntmps60
    go_wp2_with (first | (refine wpList_load_run rfl 50 _ rfl ⟨b, off + j * 26, none⟩ rfl _ hR ?_; clear hR) | (rw [← HW4.out]; clear HW4; refine wpList_store_cl rfl 50 _ _ rfl w.heap.size 0 26 _ rfl rfl rfl hU4 (by show 26 ≤ 26; decide) iRw hOC ?_; intro w5 hc5 k5 hsz5; clear hsz5; have hI5 : CL w5 w.heap.size q.cells := hc5; clear hc5; have K45 : Keeps (fun _ => False) w w5 := k4.trans' k5 (fun _ _ e => e) (fun i hi e => (by have e : i = w.heap.size := e; omega)); have c5 := hI5.c 5 _ rfl; have c25 := hI5.c 25 _ rfl) | (go_at_call 28; refine (hou _).mono ?_; rintro e w9 ⟨rfl, ew⟩; subst w9))
    go_ret
    exact ⟨rfl, K45⟩
  · rw [if_neg h17]
    have s1 : (q.kind == 17) = false := beq_eq_false_iff_ne.2 h17
    clear h17
    cases dz
    · by_cases h0 : q.fin = 0
      · have s2 : (q.fin != 0) = false := by simp [h0]
        rw [if_neg (by decide), if_neg (by simpa using h0)]
        clear h0
        go_enter Try.func60, Try.ntmps60
        go_wp2_with (first | (refine wpList_load_run rfl 50 _ rfl ⟨b, off + j * 26, none⟩ rfl _ hR ?_; clear hR) | (rw [← HW4.out]; clear HW4; refine wpList_store_cl rfl 50 _ _ rfl w.heap.size 0 26 _ rfl rfl rfl hU4 (by show 26 ≤ 26; decide) iRw hOC ?_; intro w5 hc5 k5 hsz5; clear hsz5; have hI5 : CL w5 w.heap.size q.cells := hc5; clear hc5; have K45 : Keeps (fun _ => False) w w5 := k4.trans' k5 (fun _ _ e => e) (fun i hi e => (by have e : i = w.heap.size := e; omega)); have c5 := hI5.c 5 _ rfl; have c25 := hI5.c 25 _ rfl) | (go_at_call 28; refine (hou _).mono ?_; rintro e w9 ⟨rfl, ew⟩; subst w9))
        go_ret
        exact ⟨rfl, K45⟩
      · have s2 : (q.fin != 0) = true := by simp [h0]
        rw [if_neg (by decide), if_pos h0]
        clear h0
        go_enter Try.func60, Try.ntmps60
        go_wp2_with (first | (refine wpList_load_run rfl 50 _ rfl ⟨b, off + j * 26, none⟩ rfl _ hR ?_; clear hR) | (rw [← HW4.out]; clear HW4; refine wpList_store_cl rfl 50 _ _ rfl w.heap.size 0 26 _ rfl rfl rfl hU4 (by show 26 ≤ 26; decide) iRw hOC ?_; intro w5 hc5 k5 hsz5; clear hsz5; have hI5 : CL w5 w.heap.size q.cells := hc5; clear hc5; have K45 : Keeps (fun _ => False) w w5 := k4.trans' k5 (fun _ _ e => e) (fun i hi e => (by have e : i = w.heap.size := e; omega)); have c5 := hI5.c 5 _ rfl; have c25 := hI5.c 25 _ rfl) | (go_at_call 28; refine (hou _).mono ?_; rintro e w9 ⟨rfl, ew⟩; subst w9))
        go_ret
        exact ⟨rfl, K45⟩
    · rw [if_pos rfl]
      go_enter Try.func60, Try.ntmps60
      go_wp2_with (first | (refine wpList_load_run rfl 50 _ rfl ⟨b, off + j * 26, none⟩ rfl _ hR ?_; clear hR) | (rw [← HW4.out]; clear HW4; refine wpList_store_cl rfl 50 _ _ rfl w.heap.size 0 26 _ rfl rfl rfl hU4 (by show 26 ≤ 26; decide) iRw hOC ?_; intro w5 hc5 k5 hsz5; clear hsz5; have hI5 : CL w5 w.heap.size q.cells := hc5; clear hc5; have K45 : Keeps (fun _ => False) w w5 := k4.trans' k5 (fun _ _ e => e) (fun i hi e => (by have e : i = w.heap.size := e; omega)); have c5 := hI5.c 5 _ rfl; have c25 := hI5.c 25 _ rfl) | (go_at_call 28; refine (hou _).mono ?_; rintro e w9 ⟨rfl, ew⟩; subst w9))
      go_ret
      exact ⟨rfl, K45⟩
theorem store_rw {W : World} {b : Nat} (h : CL W b rw0.cells) (q : Rw) : CL (W.setCells b 0 q.cells.toArray.toList) b q.cells ∧ Keeps (fun k => k = b) W (W.setCells b 0 q.cells.toArray.toList) := ⟨h.sets (by show 0 + 26 ≤ 26; decide), (Keeps.refl _ W).setsA _ _⟩
set_option maxHeartbeats 1000000 in
set_option maxRecDepth 100000 in
theorem rsame_any (w : World) {gb : Nat} {g : Nat → Int} (hB : IB w gb 14 g) {a : Option Addr} {l : List Rw} {cap : Nat} (hl : RSL w a l) (r : Rw) (th j : Nat) (et : r.thread = (th : Int)) (ht : th < 6) (hg : g th = (j : Int)) (hj : j < l.length) : Calls Try.prog 61 #[.pointer (some ⟨gb, 0, none⟩), .slice a l.length cap, .agg r.cells.toArray] w fun e w' => e = .returned (.bool (eq3 r.job r.try_ r.no (l.getD j rw0).job (l.getD j rw0).try_ (l.getD j rw0).no)) ∧ Keeps (fun _ => False) w w' := by
  obtain ⟨w0, e0, k0, hb, hz0⟩ := rw_box w r
  have hB0 := hB.keep (by decide) k0 (fun e => e)
  have d0 := hB0.c th (by omega)
  rw [hg] at d0
  obtain ⟨b, off, rfl, hc⟩ := (hl.keep k0) j hj
  obtain ⟨-, -, c1, c2, c3, c4, -, -, -, -, -, -, -, -, -⟩ := hb
  rw [et] at c1
  have i1 : (0 : Int) ≤ (th : Int) := by omega
  have i2 : (th : Int) < 6 := by omega
  have i4 : (0 : Int) ≤ (j : Int) := by omega
  have i5 : (j : Int) < (l.length : Int) := by omega
  clear hl hg hj hB hB0 et
  generalize l.length = N at *
  generalize l.getD j rw0 = q at *
  have hOC := all_oneCell_rw q
  unfold eq3
  generalize hx1 : (r.job == q.job) = x1
  generalize hx2 : (r.try_ == q.try_) = x2
  generalize hx3 : (r.no == q.no) = x3
  go_enter Try.func61, Try.ntmps61
  refine wp_seq_k (fun KK hKK => ?_)
  have hKH : Hid _ := hKK
  clear hKK
  go_wp2_with fail
  refine hKH.out _ _ ?_
  clear hKH KK
  rw [← e0]
  clear e0
  go_wp2_with fail
  refine wp_region_held_drew (S := fun w' => Keeps (fun _ => False) w0 w') (by kernel_rfl) (Keeps.refl _ w0).drew (fun hHeld => ?_)
  refine wpAnyH_take (i := 0) (v := ?_) rfl (by kernel_rfl) (by kernel_rfl) (by kernel_rfl) (fun _ _ _ h => h) (Or.inl ⟨by rfl, ?_⟩) (by assumption) ?_
  rotate_left
  · intro wx hSw; clear hSw; go_simp <;> with_reducible rfl
  (try simp only [List.getElem_toArray]); (try simp only [List.getElem_cons_succ]); (try simp only [List.getElem_cons_zero]); (try simp only [Act.put]); (try simp only [List.setIfInBounds_toArray]); (repeat first | simp only [List.set_cons_succ] | simp only [List.set_cons_zero])
  refine wpAnyH_take (i := 1) (v := ?_) rfl (by kernel_rfl) (by kernel_rfl) (by kernel_rfl) (fun _ _ _ h => h) (Or.inl ⟨by rfl, ?_⟩) (by assumption) ?_
  rotate_left
  · intro wx hSw; clear hSw; go_simp <;> with_reducible rfl
  (try simp only [List.getElem_toArray]); (try simp only [List.getElem_cons_succ]); (try simp only [List.getElem_cons_zero]); (try simp only [Act.put]); (try simp only [List.setIfInBounds_toArray]); (repeat first | simp only [List.set_cons_succ] | simp only [List.set_cons_zero])
  refine wpAnyH_take (i := 2) (v := ?_) rfl (by kernel_rfl) (by kernel_rfl) (by kernel_rfl) (fun _ _ _ h => h) (Or.inl ⟨by rfl, ?_⟩) (by assumption) ?_
  rotate_left
  · intro wx hSw; clear hSw; go_simp <;> with_reducible rfl
  (try simp only [List.getElem_toArray]); (try simp only [List.getElem_cons_succ]); (try simp only [List.getElem_cons_zero]); (try simp only [Act.put]); (try simp only [List.setIfInBounds_toArray]); (repeat first | simp only [List.set_cons_succ] | simp only [List.set_cons_zero])
  refine wpAnyH_take (i := 3) (v := ?_) rfl (by kernel_rfl) (by kernel_rfl) (by kernel_rfl) (fun _ _ _ h => h) (Or.inl ⟨by rfl, ?_⟩) (by assumption) ?_
  rotate_left
  · intro wx hSw; have p1 := hSw.cell c1 (fun e => e); clear hSw; go_simp <;> with_reducible rfl
  (try simp only [List.getElem_toArray]); (try simp only [List.getElem_cons_succ]); (try simp only [List.getElem_cons_zero]); (try simp only [Act.put]); (try simp only [List.setIfInBounds_toArray]); (repeat first | simp only [List.set_cons_succ] | simp only [List.set_cons_zero])
  refine wpAnyH_take (i := 4) (v := ?_) rfl (by kernel_rfl) (by kernel_rfl) (by kernel_rfl) (fun _ _ _ h => h) (Or.inl ⟨by rfl, ?_⟩) (by assumption) ?_
  rotate_left
  · intro wx hSw; clear hSw; go_simp <;> with_reducible rfl
  (try simp only [List.getElem_toArray]); (try simp only [List.getElem_cons_succ]); (try simp only [List.getElem_cons_zero]); (try simp only [Act.put]); (try simp only [List.setIfInBounds_toArray]); (repeat first | simp only [List.set_cons_succ] | simp only [List.set_cons_zero])
  refine wpAnyH_take (i := 5) (v := ?_) rfl (by kernel_rfl) (by kernel_rfl) (by kernel_rfl) (fun _ _ _ h => h) (Or.inl ⟨by rfl, ?_⟩) (by assumption) ?_
  rotate_left
  · intro wx hSw; clear hSw; go_simp <;> with_reducible rfl
  (try simp only [List.getElem_toArray]); (try simp only [List.getElem_cons_succ]); (try simp only [List.getElem_cons_zero]); (try simp only [Act.put]); (try simp only [List.setIfInBounds_toArray]); (repeat first | simp only [List.set_cons_succ] | simp only [List.set_cons_zero])
  refine wpAnyH_take (i := 6) (v := ?_) rfl (by kernel_rfl) (by kernel_rfl) (by kernel_rfl) (fun _ _ _ h => h) (Or.inl ⟨by rfl, ?_⟩) (by assumption) ?_
  rotate_left
  · intro wx hSw; clear hSw; go_simp <;> with_reducible rfl
  (try simp only [List.getElem_toArray]); (try simp only [List.getElem_cons_succ]); (try simp only [List.getElem_cons_zero]); (try simp only [Act.put]); (try simp only [List.setIfInBounds_toArray]); (repeat first | simp only [List.set_cons_succ] | simp only [List.set_cons_zero])
  refine wpAnyH_take (i := 7) (v := ?_) rfl (by kernel_rfl) (by kernel_rfl) (by kernel_rfl) (fun _ _ _ h => h) (Or.inl ⟨by rfl, ?_⟩) (by assumption) ?_
  rotate_left
  · intro wx hSw; have p0 := hSw.cell d0 (fun e => e); clear hSw; go_simp <;> with_reducible rfl
  (try simp only [List.getElem_toArray]); (try simp only [List.getElem_cons_succ]); (try simp only [List.getElem_cons_zero]); (try simp only [Act.put]); (try simp only [List.setIfInBounds_toArray]); (repeat first | simp only [List.set_cons_succ] | simp only [List.set_cons_zero])
  refine wpAnyH_take (i := 8) (v := ?_) rfl (by kernel_rfl) (by kernel_rfl) (by kernel_rfl) (fun _ _ _ h => h) (Or.inl ⟨by rfl, ?_⟩) (by assumption) ?_
  rotate_left
  · intro wx hSw; clear hSw; go_simp <;> with_reducible rfl
  (try simp only [List.getElem_toArray]); (try simp only [List.getElem_cons_succ]); (try simp only [List.getElem_cons_zero]); (try simp only [Act.put]); (try simp only [List.setIfInBounds_toArray]); (repeat first | simp only [List.set_cons_succ] | simp only [List.set_cons_zero])
  refine wpAnyH_take (i := 9) (v := (.agg q.cells.toArray)) rfl (by kernel_rfl) (by kernel_rfl) (by kernel_rfl) (fun _ _ _ h => h) (Or.inl ⟨by rfl, ?_⟩) (by assumption) ?_
  · intro wx hSw; exact takes_load 50 _ rfl ⟨b, off + j * 26, none⟩ rfl (run_rwAt (fun j v e => hSw.cell (hc j v e) (fun e => e)))
  (try simp only [List.getElem_toArray]); (try simp only [List.getElem_cons_succ]); (try simp only [List.getElem_cons_zero]); (try simp only [Act.put]); (try simp only [List.setIfInBounds_toArray]); (repeat first | simp only [List.set_cons_succ] | simp only [List.set_cons_zero])
  have m0 := (CL.made w0.drew rw0.cells 50)
  have s0 : w0.drew.heap.size = w0.heap.size := rfl
  rw [s0, hz0] at m0
  refine wpAnyH_one 10 (by kernel_rfl) rfl rfl ?_
  go_simp
  refine ⟨hHeld.alloc _, fun hS1 => ?_⟩
  (try simp only [List.getElem_toArray]); (try simp only [List.getElem_cons_succ]); (try simp only [List.getElem_cons_zero]); (try simp only [Act.put]); (try simp only [List.setIfInBounds_toArray]); (repeat first | simp only [List.set_cons_succ] | simp only [List.set_cons_zero])
  have q6 := store_rw m0 q
  refine wpAnyH_store 11 (by kernel_rfl) rfl rfl 50 _ _ rfl (w.heap.size + 1) 0 26 _ rfl rfl rfl (m0.there (by show 0 + 26 ≤ 26; decide)) iRw hOC (hS1.trans' q6.2 (fun _ _ e => e) (fun i hi e => by have e : i = w.heap.size + 1 := e; omega)) (fun hS2 => ?_)
  (try simp only [List.getElem_toArray]); (try simp only [List.getElem_cons_succ]); (try simp only [List.getElem_cons_zero]); (try simp only [Act.put]); (try simp only [List.setIfInBounds_toArray]); (repeat first | simp only [List.set_cons_succ] | simp only [List.set_cons_zero])
  refine wpAnyH_done (by kernel_rfl) ?_ _
  generalize h9 : World.setCells _ _ _ _ = w9
  have hS3 : Keeps (fun _ => False) w0 w9 := by rw [← h9]; exact hS2
  have q9 : CL w9 (w.heap.size + 1) q.cells := by rw [← h9]; exact q6.1
  clear h9 hS1 hS2 hHeld m0 q6
  have K9 := k0.trans hS3
  have z2 := hS3.cell c2 (fun e => e)
  have z3 := hS3.cell c3 (fun e => e)
  have z4 := hS3.cell c4 (fun e => e)
  have y2 := q9.c 2 _ rfl
  have y3 := q9.c 3 _ rfl
  have y4 := q9.c 4 _ rfl
  cases x1
  · go_wp2; go_ret; exact ⟨rfl, K9⟩
  cases x2
  · go_wp2; go_ret; exact ⟨rfl, K9⟩
  go_wp2
  go_ret
  exact ⟨rfl, K9⟩
end Go.Proofs.Ytmnmphkkcabkiaa

