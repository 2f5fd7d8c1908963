import Derived.Test.YtmnmphkkcabkiaaG02
import Derived.Test.YtmnmphkkcabkiaaG03
import Derived.Deep.AppendSrc
import Derived.Deep.RegionHeldLaw
import Derived.Test.YtmnmphkkcabkiaaG01
namespace Go.Proofs.Ytmnmphkkcabkiaa
open Go.RowKit
def Bd (n : Nat) (f : Nat → Int) : Prop := ∀ i, i < 32 → -1 ≤ f i ∧ f i ≤ (n : Int) + 3
theorem Bd.wide {n : Nat} {f : Nat → Int} (h : Bd n f) (hn : n ≤ 4611686018427387904) : ∀ i, i < 32 → f i + 1 ≤ 9223372036854775807 ∧ -9223372036854775808 ≤ f i := fun i hi => by
  have := h i hi
  omega
theorem Bd.more {n : Nat} {f : Nat → Int} (h : Bd n f) : Bd (n + 1) f := fun i hi => by
  have := h i hi
  omega
theorem Bd.up {n : Nat} {f : Nat → Int} (h : Bd n f) {o : Nat} {v : Int} (hv : -1 ≤ v ∧ v ≤ (n : Int) + 3) : Bd n (up f o v) := fun i hi => by
  unfold Go.Proofs.Ytmnmphkkcabkiaa.up
  split
  · exact hv
  · exact h i hi
theorem eq3_iff {a b c x y z : Int} : eq3 a b c x y z = true ↔ a = x ∧ b = y ∧ c = z := by
  simp [eq3, and_assoc]
theorem sil_iff {r : Rw} : sil r = true ↔ r.fin = 0 ∧ r.told = false ∧ r.puts = false := by
  simp [sil, and_assoc]
theorem fit_away {f : Nat → Int} {r : Rw} {th : Nat} (h : fitP f r th = true) (hk : r.kind ≠ 0) : 0 ≤ r.thread ∧ r.thread < 6 := by
  unfold fitP at h
  rw [if_neg hk] at h
  by_cases g : r.thread < 0 ∨ 6 ≤ r.thread
  · rw [if_pos g] at h; cases h
  · omega
theorem fit_bd {f : Nat → Int} {r : Rw} {th n : Nat} (h : fitP f r th = true) (hk : r.kind ≠ 0) (ht : th < 6) (hB : Bd n f) : (-1 ≤ r.job ∧ r.job ≤ (n : Int) + 4) ∧ (-1 ≤ r.try_ ∧ r.try_ ≤ (n : Int) + 4) ∧ (-1 ≤ r.no ∧ r.no ≤ (n : Int) + 4) := by
  have b1 := hB (th * 5 + 1) (by omega)
  have b2 := hB (th * 5 + 2) (by omega)
  have b3 := hB (th * 5 + 3) (by omega)
  have b4 := hB 31 (by omega)
  have ha := fit_away h hk
  unfold fitP at h
  rw [if_neg hk, if_neg (by omega)] at h
  repeat' split at h
  all_goals
    simp only [Bool.and_eq_true, eq3_iff] at h
    omega
theorem fol_bd {f : Nat → Int} {r : Rw} {th n : Nat} (h : fitP f r th = true) (ht : th < 6) (hB : Bd n f) : Bd (n + 1) (folP f r th) := by
  by_cases hk : r.kind = 0
  · unfold folP
    rw [if_pos hk]
    exact hB.more
  obtain ⟨h1, h2, h3⟩ := fit_bd h hk ht hB
  have b30 := hB 30 (by omega)
  have b31 := hB 31 (by omega)
  have b4 := hB (th * 5 + 4) (by omega)
  have hm := hB.more
  have e1 : Bd (n + 1) (fol1 f r th) := ((hm.up (by omega)).up (by omega)).up (by omega)
  have e2 : Bd (n + 1) (fol2 f r th) := by
    unfold fol2
    repeat' split
    · exact (((e1.up (by omega)).up (by omega)).up (by omega)).up (by omega)
    · exact ((e1.up (by omega)).up (by omega)).up (by omega)
    · exact e1.up (by omega)
    · exact e1
  have e3 : Bd (n + 1) (fol3 f r th) := by
    unfold fol3
    split
    · exact e2.up (by omega)
    · exact e2
  unfold folP
  rw [if_neg hk]
  repeat' split
  · exact e3.up (by omega)
  · exact e3.up (by omega)
  · exact e3
theorem fits_any (w : World) {kb : Nat} {f : Nat → Int} (hK : IB w kb 32 f) (r : Rw) (hB : ∀ i, i < 32 → f i + 1 ≤ 9223372036854775807 ∧ -9223372036854775808 ≤ f i) : Calls Try.prog 38 #[.pointer (some ⟨kb, 0, none⟩), .agg r.cells.toArray] w fun e w' => e = .returned (.bool (fitP f r r.thread.toNat)) ∧ Keeps (fun _ => False) w w' := by
  by_cases hk : r.kind = 0
  · exact fits_stutter w hK r _ hk
  by_cases ht : r.thread < 0 ∨ 6 ≤ r.thread
  · exact fits_away w hK r _ hk ht
  have et : r.thread = (r.thread.toNat : Int) := by omega
  have hl : r.thread.toNat < 6 := by omega
  by_cases h1 : r.kind = 1
  · exact fits_1 w hK r _ h1 et hl hB
  by_cases h2 : r.kind = 2
  · exact fits_2 w hK r _ h2 et hl hB
  by_cases h17 : r.kind = 17
  · exact fits_17 w hK r _ h17 et hl hB
  exact fits_x w hK r _ ⟨hk, h1, h2, h17⟩ et hl hB
theorem follow_any (w : World) {kb : Nat} {f : Nat → Int} (hK : IB w kb 32 f) (r : Rw) (hB : ∀ i, i < 32 → f i + 1 ≤ 9223372036854775807 ∧ -9223372036854775808 ≤ f i) (hf : fitP f r r.thread.toNat = true) : Calls Try.prog 39 #[.pointer (some ⟨kb, 0, none⟩), .agg r.cells.toArray] w fun e w' => e = .returned (.tuple #[]) ∧ IB w' kb 32 (folP f r r.thread.toNat) ∧ Keeps (fun k => k = kb) w w' := by
  by_cases hk : r.kind = 0
  · exact follow_0 w hK r _ hk
  have ha := fit_away hf hk
  have et : r.thread = (r.thread.toNat : Int) := by omega
  have hl : r.thread.toNat < 6 := by omega
  unfold fitP at hf
  rw [if_neg hk, if_neg (by omega)] at hf
  by_cases h1 : r.kind = 1
  · rw [if_pos h1] at hf
    simp only [Bool.and_eq_true, sil_iff] at hf
    exact follow_1 w hK r _ h1 hf.2.2.1 hf.2.1 et hl hB
  by_cases h2 : r.kind = 2
  · rw [if_neg h1, if_pos h2] at hf
    simp only [Bool.and_eq_true, sil_iff] at hf
    exact follow_2 w hK r _ h2 hf.2.2.1 hf.2.1 et hl hB
  by_cases h17 : r.kind = 17
  · rw [if_neg h1, if_neg h2, if_pos h17] at hf
    simp only [Bool.and_eq_true, sil_iff] at hf
    exact follow_17 w hK r _ h17 hf.2.2.1 hf.2.1 et hl hB
  exact follow_x w hK r _ ⟨hk, h1, h2, h17⟩ et hl hB
def RSL (w : World) (a : Option Addr) (l : List Rw) : Prop := ∀ i, i < l.length → ∃ b off, a = some ⟨b, off, none⟩ ∧ ∀ j v, (l.getD i rw0).cells[j]? = some v → w.cell? ⟨b, off + i * 26 + j, none⟩ = some v
theorem RSL.keep {w w' : World} {a : Option Addr} {l : List Rw} (h : RSL w a l) (k : Keeps (fun _ => False) w w') : RSL w' a l := fun i hi => by
  obtain ⟨b, off, e, hc⟩ := h i hi
  exact ⟨b, off, e, fun j v hv => k.cell (hc j v hv) (fun e => e)⟩
theorem run_rwAt {W : World} {b o : Nat} {r : Rw} (hc : ∀ j v, r.cells[j]? = some v → W.cell? ⟨b, o + j, none⟩ = some v) : (loadVar 50 ⟨b, o, none⟩).run Try.prog W = .ok (.agg r.cells.toArray) W :=
  run_loadVar_mid W b o 50 r.cells _ hc Try.underlying50 rfl (by rw [iRw]; rfl)
theorem all_oneCell_rw (r : Rw) : r.cells.toArray.all (·.oneCell') = true := all_oneCell_toArray (by simp [Rw.cells, Value.oneCell'])
def f0 (k : Nat) : Nat → Int := fun o => if o % 5 = 1 ∧ o < k * 5 then -1 else 0
set_option maxHeartbeats 1000000 in
set_option maxRecDepth 100000 in
theorem newKeeper_any (w : World) : Calls Try.prog 37 #[] w fun e w' => e = .returned (.pointer (some ⟨w.heap.size, 0, none⟩)) ∧ IB w' w.heap.size 32 (f0 6) ∧ Keeps (fun _ => False) w w' := by
  obtain ⟨W, hW⟩ : ∃ W, W = w.alloc (.cells #[.int .i64 0, .int .i64 0, .int .i64 0, .int .i64 0, .int .i64 0, .int .i64 0, .int .i64 0, .int .i64 0, .int .i64 0, .int .i64 0, .int .i64 0, .int .i64 0, .int .i64 0, .int .i64 0, .int .i64 0, .int .i64 0, .int .i64 0, .int .i64 0, .int .i64 0, .int .i64 0, .int .i64 0, .int .i64 0, .int .i64 0, .int .i64 0, .int .i64 0, .int .i64 0, .int .i64 0, .int .i64 0, .int .i64 0, .int .i64 0, .int .i64 0, .int .i64 0] 112) := ⟨_, rfl⟩
  have hI : IB W w.heap.size 32 (f0 0) := by
    rw [hW]
    have := IB.made w 32 0 112
    refine ⟨fun o ho => ?_, fun o ho => this.z o ho⟩
    have e : f0 0 o = 0 := by unfold f0; rw [if_neg (by omega)]
    rw [e]
    exact this.c o ho
  have kW : Keeps (fun k => k = w.heap.size) w W := by rw [hW]; exact (Keeps.refl _ w).alloc _
  go_enter Try.func37, Try.ntmps37
  go_wp2_with fail
  rw [← hW]
  clear hW
  go_loopw [5] (fun iv Wr => ∃ k : Nat, iv = .int .i64 (k : Int) ∧ k ≤ 6 ∧ IB Wr w.heap.size 32 (f0 k) ∧ Keeps (fun k => k = w.heap.size) w Wr) (fun iv _ => 6 - (intOf iv).toNat)
  case atStart => exact ⟨0, rfl, by decide, hI, kW⟩
  case round =>
    obtain ⟨k, rfl, hk, hK, kr⟩ := hrel
    by_cases hlt : k < 6
    · have l1 : decide ((k : Int) < 6) = true := decide_eq_true (by omega)
      have l2 : (k : Int) < 6 := by omega
      have l3 : (0 : Int) ≤ (k : Int) := by omega
      have hF : Hid (up (f0 k) (k * 5 + 1) (-1) = f0 (k + 1)) := by
        show _ = _
        funext o
        unfold up f0
        by_cases e : o = k * 5 + 1
        · rw [if_pos e, if_pos (by omega)]
        · rw [if_neg e]
          by_cases g : o % 5 = 1 ∧ o < k * 5
          · rw [if_pos g, if_pos (by omega)]
          · rw [if_neg g, if_neg (by omega)]
      go_wp2_with (refine wpList_store_ib rfl rfl _ _ rfl w.heap.size (k * 5 + 1) rfl _ rfl hK (by omega) ?_; intro w2 hK2 k2 hz2; clear hz2)
      rw [hF.out] at hK2
      go_roundw
      case rel => exact ⟨k + 1, by go_num, by omega, hK2, kr.trans k2⟩
      case measure => simp [intOf]; omega
    · have e : k = 6 := by omega
      subst e
      go_wp2
      go_ret
      exact ⟨rfl, hK, kr.mono (fun i hi e => by have e : i = w.heap.size := e; omega)⟩
def fstP : List Rw → Nat → (Nat → Int) → Option Nat
  | [], _, _ => none
  | r :: l, i, f => if r.step ≠ (i : Int) ∨ fitP f r r.thread.toNat = false then some i else fstP l (i + 1) (folP f r r.thread.toNat)
def ansP (o : Option Nat) : Int × Int := match o with | none => (-1, 0) | some k => ((k : Int), 150)
theorem f0_bd : Bd 0 (f0 6) := fun i _ => by
  unfold f0
  split <;> omega
set_option maxHeartbeats 1000000 in
set_option maxRecDepth 100000 in
theorem check_any {w : World} {a : Option Addr} {cap : Nat} {l : List Rw} (hl : RSL w a l) (hlen : l.length ≤ 4611686018427387904) : Calls Try.prog 23 #[.slice a l.length cap] w fun e w' => e = .returned (.tuple #[.int .i64 (ansP (fstP l 0 (f0 6))).1, .int .i64 (ansP (fstP l 0 (f0 6))).2]) ∧ Keeps (fun _ => False) w w' := by
  generalize hN : l.length = N at *
  generalize hA : fstP l 0 (f0 6) = A
  have HA : Hid (fstP (l.drop 0) 0 (f0 6) = A) := hA
  clear hA
  have hnk := newKeeper_any w
  go_enter Try.func23, Try.ntmps23
  go_wp2_with (go_at_call 37; refine hnk.mono ?_; clear hnk; rintro e w1 ⟨rfl, hK1, k1⟩)
  go_loopw [10] (fun iv Wr => ∃ (k : Nat) (f : Nat → Int), iv = .int .i64 (k : Int) ∧ k ≤ N ∧ Hid (fstP (l.drop k) k f = A) ∧ Bd k f ∧ IB Wr w.heap.size 32 f ∧ Keeps (fun _ => False) w Wr) (fun iv _ => N - (intOf iv).toNat)
  case atStart => exact ⟨0, f0 6, rfl, Nat.zero_le _, HA, f0_bd, hK1, k1⟩
  case round =>
    obtain ⟨k, f, rfl, hk, HF, hB, hK, kr⟩ := hrel
    clear HA hK1 k1
    by_cases hlt : k < N
    · have l1 : decide ((k : Int) < (N : Int)) = true := decide_eq_true (by omega)
      have l2 : (k : Int) < (N : Int) := by omega
      have l4 : decide (k < N) = true := decide_eq_true hlt
      obtain ⟨b, off, rfl, hc⟩ := hl k (by omega)
      have hR := run_rwAt (W := wr) (fun j v e => kr.cell (hc j v e) (fun e => e))
      have hD : l.drop k = l.getD k rw0 :: l.drop (k + 1) := by
        rw [List.drop_eq_getElem_cons (by omega), List.getD_eq_getElem?_getD, List.getElem?_eq_getElem (by omega)]; rfl
      have HF2 := HF.out
      rw [hD] at HF2
      clear hD HF hc
      generalize l.getD k rw0 = r at *
      have hbw := hB.wide (by omega)
      obtain ⟨W4, hW4⟩ : ∃ W4, W4 = wr.alloc (.cells #[.int .i64 0, .int .i64 0, .int .i64 0, .int .i64 0, .int .i64 0, .int .i64 0, .int .i64 0, .int .i64 0, .int .i64 0, .int .i64 0, .int .i64 0, .int .i64 0, .int .i64 0, .bool false, .bool false, .bool false, .int .i64 0, .bool false, .int .i64 0, .int .i64 0, .bool false, .bool false, .int .i64 0, .int .i64 0, .bool false, .int .i64 0] 50) := ⟨_, rfl⟩
      have k4 : Keeps (fun _ => False) wr W4 := by rw [hW4]; exact (Keeps.refl _ wr).alloc _
      have hU4 : CL W4 wr.heap.size rw0.cells := by rw [hW4]; exact CL.made wr rw0.cells _
      have hOC := all_oneCell_rw r
      have hne : ¬ w.heap.size = wr.heap.size := fun e => by have := hK.lt (by decide); omega
      have HW4 : Hid (W4 = wr.alloc (.cells #[.int .i64 0, .int .i64 0, .int .i64 0, .int .i64 0, .int .i64 0, .int .i64 0, .int .i64 0, .int .i64 0, .int .i64 0, .int .i64 0, .int .i64 0, .int .i64 0, .int .i64 0, .bool false, .bool false, .bool false, .int .i64 0, .bool false, .int .i64 0, .int .i64 0, .bool false, .bool false, .int .i64 0, .int .i64 0, .bool false, .int .i64 0] 50)) := hW4
      clear hW4
      have HF3 : Hid (fstP (r :: l.drop (k + 1)) k f = A) := HF2
      clear HF2
      by_cases hs : r.step = (k : Int)
      · have s1 : (r.step != (k : Int)) = false := by simp [hs]
        cases hfit : fitP f r r.thread.toNat
        · have eA : A = some k := by
            rw [← HF3.out]
            unfold fstP
            rw [if_pos (.inr hfit)]
          subst eA
          clear HF3
          go_wp2_with (first | (refine wpList_load_run rfl 50 _ rfl ⟨b, off + k * 26, none⟩ rfl _ hR ?_; clear hR) | (rw [← HW4.out]; clear HW4; refine wpList_store_cl rfl 50 _ _ rfl wr.heap.size 0 26 _ rfl rfl rfl hU4 (by show 26 ≤ 26; decide) iRw hOC ?_; intro w5 hc5 k5 hsz5; clear hsz5; have hI5 : CL w5 wr.heap.size r.cells := hc5; clear hc5; have K45 : Keeps (fun _ => False) wr w5 := k4.trans' k5 (fun _ _ e => e) (fun i hi e => (by have e : i = wr.heap.size := e; omega)); have hK5 := hK.keep (by decide) K45 (fun e => e); have c0 := hI5.c 0 _ rfl; have hf := fits_any w5 hK5 r hbw; have HR5 := run_rw hI5) | (refine wpList_load_runG (by rfl) 50 _ rfl ⟨wr.heap.size, 0, none⟩ rfl _ HR5 ?_; clear HR5) | (go_at_call 38; rw [hfit] at hf; refine hf.mono ?_; clear hf; rintro e w6 ⟨rfl, k6⟩; have hK6 := hK5.keep (by decide) k6 (fun e => e); have HR6 := run_rw (hI5.keep (by show 0 < 26; decide) k6 (fun e => e))))
          go_ret2
          exact ⟨rfl, (kr.trans K45).trans k6⟩
        · have HF4 : Hid (fstP (l.drop (k + 1)) (k + 1) (folP f r r.thread.toNat) = A) := by
            show _ = _
            rw [← HF3.out]
            conv => rhs; unfold fstP
            rw [if_neg (by rw [hfit]; simp [hs])]
          have hth : r.kind ≠ 0 → r.thread.toNat < 6 := fun hk => by have := fit_away hfit hk; omega
          have hB7 : Bd (k + 1) (folP f r r.thread.toNat) := by
            by_cases hk0 : r.kind = 0
            · unfold folP
              rw [if_pos hk0]
              exact hB.more
            · exact fol_bd hfit (hth hk0) hB
          clear HF3 hth
          go_wp2_with (first | (refine wpList_load_run rfl 50 _ rfl ⟨b, off + k * 26, none⟩ rfl _ hR ?_; clear hR) | (rw [← HW4.out]; clear HW4; refine wpList_store_cl rfl 50 _ _ rfl wr.heap.size 0 26 _ rfl rfl rfl hU4 (by show 26 ≤ 26; decide) iRw hOC ?_; intro w5 hc5 k5 hsz5; clear hsz5; have hI5 : CL w5 wr.heap.size r.cells := hc5; clear hc5; have K45 : Keeps (fun _ => False) wr w5 := k4.trans' k5 (fun _ _ e => e) (fun i hi e => (by have e : i = wr.heap.size := e; omega)); have hK5 := hK.keep (by decide) K45 (fun e => e); have c0 := hI5.c 0 _ rfl; have hf := fits_any w5 hK5 r hbw; have HR5 := run_rw hI5) | (refine wpList_load_runG (by rfl) 50 _ rfl ⟨wr.heap.size, 0, none⟩ rfl _ HR5 ?_; clear HR5) | (go_at_call 38; rw [hfit] at hf; refine hf.mono ?_; clear hf; rintro e w6 ⟨rfl, k6⟩; have hK6 := hK5.keep (by decide) k6 (fun e => e); have HR6 := run_rw (hI5.keep (by show 0 < 26; decide) k6 (fun e => e))) | (refine wpList_load_run rfl 50 _ rfl ⟨wr.heap.size, 0, none⟩ rfl _ HR6 ?_; clear HR6) | (go_at_call 39; refine (follow_any w6 hK6 r hbw hfit).mono ?_; rintro e w7 ⟨rfl, hK7, k7⟩))
          have K7 : Keeps (fun _ => False) w w7 := ((kr.trans K45).trans k6).trans' k7 (fun _ _ e => e) (fun i hi e => by have e : i = w.heap.size := e; omega)
          go_roundw
          case rel => exact ⟨k + 1, _, by go_num, by omega, HF4, hB7, hK7, K7⟩
          case measure => simp [intOf]; omega
      · have s1 : (r.step != (k : Int)) = true := by simp [hs]
        have eA : A = some k := by
          rw [← HF3.out]
          unfold fstP
          rw [if_pos (.inl hs)]
        subst eA
        clear HF3
        go_wp2_with (first | (refine wpList_load_run rfl 50 _ rfl ⟨b, off + k * 26, none⟩ rfl _ hR ?_; clear hR) | (rw [← HW4.out]; clear HW4; refine wpList_store_cl rfl 50 _ _ rfl wr.heap.size 0 26 _ rfl rfl rfl hU4 (by show 26 ≤ 26; decide) iRw hOC ?_; intro w5 hc5 k5 hsz5; clear hsz5; have hI5 : CL w5 wr.heap.size r.cells := hc5; clear hc5; have K45 : Keeps (fun _ => False) wr w5 := k4.trans' k5 (fun _ _ e => e) (fun i hi e => (by have e : i = wr.heap.size := e; omega)); have hK5 := hK.keep (by decide) K45 (fun e => e); have c0 := hI5.c 0 _ rfl; have hf := fits_any w5 hK5 r hbw; have HR5 := run_rw hI5))
        go_ret2
        exact ⟨rfl, kr.trans K45⟩
    · have eA : A = none := by
        rw [← HF.out, List.drop_of_length_le (by omega)]
        rfl
      subst eA
      have l1 : decide ((k : Int) < (N : Int)) = false := decide_eq_false (by omega)
      have l4 : decide (k < N) = false := decide_eq_false hlt
      clear HF
      go_wp2
      go_ret2
      exact ⟨rfl, kr⟩
end Go.Proofs.Ytmnmphkkcabkiaa

namespace Go.Proofs.Ytmnmphkkcabkiaa
open Go.RowKit
theorem takes_load {P : Program} {w : World} {o : Oper} {a : Act} (ty : TypeId) (x : Operand) (ho : o.op = .load ty x) (ad : Addr) (hx : a.eval x = .pointer (some ad)) {v : Value} (hr : (loadVar ty ad).run P w = .ok v w) : (execOp a.eval o).run P w = .ok (.value v) w := by
  unfold execOp
  simp only [ho, hx, Instr.loadAt, Instr.sureAddr, Sem.run_bind, Sem.run_pure, Result.andThen_ok, hr]
def stR (r : Rw) : Int := if r.kind = 17 then 0 else if dec r.fin then 3 else if r.fin ≠ 0 then 2 else 1
def g0 (k : Nat) : Nat → Int := fun o => if o < k then -1 else 0
theorem store_rw {W : World} {b : Nat} (h : CL W b rw0.cells) (q : Rw) : CL (W.setCells b 0 q.cells.toArray.toList) b q.cells ∧ Keeps (fun k => k = b) W (W.setCells b 0 q.cells.toArray.toList) := ⟨h.sets (by show 0 + 26 ≤ 26; decide), (Keeps.refl _ W).setsA _ _⟩
end Go.Proofs.Ytmnmphkkcabkiaa

namespace Go.Proofs.Ytmnmphkkcabkiaa
open Go.RowKit
theorem IB.drew {w : World} {b n : Nat} {f : Nat → Int} (h : IB w b n f) : IB w.drew b n f := ⟨h.c, h.z⟩
def kpD (g : Nat → Int) (r : Rw) (th : Nat) (i : Int) : Nat → Int :=
  if r.kind = 0 then g
  else if r.kind = 1 then up (up (up (up g th i) 12 (g 12 + 1)) (6 + th) 0) 13 (g 13 + 1)
  else if r.kind = 2 then up (up (up g th i) 12 (g 12 + 1)) (6 + th) 0
  else if r.told && r.entry == g (6 + th) then up (up g th i) (6 + th) (g (6 + th) + 1) else up g th i
end Go.Proofs.Ytmnmphkkcabkiaa

namespace Go.Proofs.Ytmnmphkkcabkiaa
open Go.RowKit
def plN (g : Nat → Int) (r : Rw) : Bool := r.kind == 1 && r.job == 0 && r.try_ == 1 && r.no == g 12 + 1 && r.seen == g 13
def plQ (g : Nat → Int) (r q : Rw) : Bool :=
  if r.kind = 1 then stR q == 0 && r.job == q.job + 1 && r.try_ == 1 && r.no == g 12 + 1 && r.seen == g 13
  else if r.kind = 2 then stR q == 2 && eq3 r.job r.try_ r.no q.job (q.try_ + 1) (g 12 + 1)
  else if r.kind = 17 then stR q == 3 && eq3 r.job r.try_ r.no q.job q.try_ q.no
  else stR q == 1 && eq3 r.job r.try_ r.no q.job q.try_ q.no
def plS (r : Rw) : Bool := r.thread == -1 && r.job == -1 && r.try_ == 0 && r.no == -1
end Go.Proofs.Ytmnmphkkcabkiaa

namespace Go.Proofs.Ytmnmphkkcabkiaa
open Go.RowKit
end Go.Proofs.Ytmnmphkkcabkiaa

namespace Go.Proofs.Ytmnmphkkcabkiaa
open Go.RowKit
def plD (l : List Rw) (g : Nat → Int) (r : Rw) : Bool :=
  if r.kind = 0 then plS r else if r.thread < 0 ∨ 6 ≤ r.thread then false
  else if g r.thread.toNat = -1 then plN g r else plQ g r (l.getD (g r.thread.toNat).toNat rw0)
def docOK (l : List Rw) (g : Nat → Int) (r : Rw) : Bool :=
  !decide (r.kind < 0) && !decide (17 < r.kind) && plD l g r && endD r && readD r (g (6 + r.thread.toNat))
structure Rl (l : List Rw) (i : Nat) (f g : Nat → Int) : Prop where
  cnt : ∀ t, t < 6 → f (t * 5 + 4) = g (6 + t)
  beg : f 30 = g 13
  att : f 31 = g 12
  las : ∀ t, t < 6 → (g t = -1 ∧ f (t * 5) = 0 ∧ f (t * 5 + 1) = -1) ∨ ∃ j : Nat, j < i ∧ g t = (j : Int) ∧ f (t * 5) = stR (l.getD j rw0) ∧ f (t * 5 + 1) = (l.getD j rw0).job ∧ f (t * 5 + 2) = (l.getD j rw0).try_ ∧ f (t * 5 + 3) = (l.getD j rw0).no
theorem Rl.start (l : List Rw) : Rl l 0 (f0 6) (g0 6) := by
  refine ⟨fun t ht => ?_, rfl, rfl, fun t ht => .inl ⟨?_, ?_, ?_⟩⟩
  · unfold f0 g0
    rw [if_neg (by omega), if_neg (by omega)]
  · unfold g0
    rw [if_pos ht]
  · unfold f0
    rw [if_neg (by omega)]
  · unfold f0
    rw [if_pos (by omega)]
theorem ofd_x {k : Int} (h1 : k ≠ 0) (h2 : k ≠ 1) (h3 : k ≠ 2) (h4 : k ≠ 17) : ofD k = true := by
  simp [ofD, h1, h2, h3, h4]
theorem Rl.next {l : List Rw} {i : Nat} {f g : Nat → Int} (h : Rl l i f g) {r : Rw} (hr : l.getD i rw0 = r) (hf : fitP f r r.thread.toNat = true) : Rl l (i + 1) (folP f r r.thread.toNat) (kpD g r r.thread.toNat (i : Int)) := by
  by_cases h0 : r.kind = 0
  · unfold folP kpD
    rw [if_pos h0, if_pos h0]
    refine ⟨h.cnt, h.beg, h.att, fun t ht => ?_⟩
    rcases h.las t ht with e | ⟨j, hj, e⟩
    · exact .inl e
    · exact .inr ⟨j, by omega, e⟩
  have ha := fit_away hf h0
  have hth : r.thread.toNat < 6 := by omega
  generalize r.thread.toNat = u at *
  unfold fitP at hf
  rw [if_neg h0, if_neg (by omega)] at hf
  have hcu := h.cnt u hth
  -- what is left of the other threads
  have key : ∀ (F G : Nat → Int), (∀ t, t < 6 → t ≠ u → (∀ k, k < 5 → F (t * 5 + k) = f (t * 5 + k)) ∧ G t = g t ∧ G (6 + t) = g (6 + t)) → F (u * 5 + 4) = G (6 + u) → F 30 = G 13 → F 31 = G 12 → G u = (i : Int) → F (u * 5) = stR r → F (u * 5 + 1) = r.job → F (u * 5 + 2) = r.try_ → F (u * 5 + 3) = r.no → Rl l (i + 1) F G := by
    intro F G ho e1 e2 e3 e4 e5 e6 e7 e8
    refine ⟨fun t ht => ?_, e2, e3, fun t ht => ?_⟩
    · by_cases e : t = u
      · rw [e]; exact e1
      · obtain ⟨o1, o2, o3⟩ := ho t ht e
        rw [o1 4 (by omega), o3]
        exact h.cnt t ht
    · by_cases e : t = u
      · rw [e]
        exact .inr ⟨i, by omega, e4, by rw [hr]; exact ⟨e5, e6, e7, e8⟩⟩
      · obtain ⟨o1, o2, o3⟩ := ho t ht e
        have p0 : F (t * 5) = f (t * 5) := o1 0 (by omega)
        rw [p0, o1 1 (by omega), o1 2 (by omega), o1 3 (by omega), o2]
        rcases h.las t ht with e | ⟨j, hj, e⟩
        · exact .inl e
        · exact .inr ⟨j, by omega, e⟩
  by_cases h1 : r.kind = 1
  · rw [if_pos h1] at hf
    simp only [Bool.and_eq_true, sil_iff] at hf
    obtain ⟨-, s1, s2, -⟩ := hf
    have es : stR r = 1 := by unfold stR; rw [h1, s1]; rfl
    have eF : folP f r u = up (up (up (up (fol1 f r u) 30 (f 30 + 1)) 31 (f 31 + 1)) (u * 5) 1) (u * 5 + 4) 0 := by
      unfold folP fol3 fol2
      rw [h1, s1, s2]
      rfl
    have eG : kpD g r u (i : Int) = up (up (up (up g u i) 12 (g 12 + 1)) (6 + u) 0) 13 (g 13 + 1) := by
      unfold kpD
      rw [h1]
      rfl
    rw [eF, eG]
    unfold fol1
    refine key _ _ (fun t ht hne => ⟨fun k hk => ?_, ?_, ?_⟩) ?_ ?_ ?_ ?_ ?_ ?_ ?_ ?_
    · rw [up_other (by omega), up_other (by omega), up_other (by omega), up_other (by omega), up_other (by omega), up_other (by omega), up_other (by omega)]
    · rw [up_other (by omega), up_other (by omega), up_other (by omega), up_other (by omega)]
    · rw [up_other (by omega), up_other (by omega), up_other (by omega), up_other (by omega)]
    · rw [up_same, up_other (by omega), up_same]
    · rw [up_other (by omega), up_other (by omega), up_other (by omega), up_same, up_same, h.beg]
    · rw [up_other (by omega), up_other (by omega), up_same, up_other (by omega), up_other (by omega), up_same, h.att]
    · rw [up_other (by omega), up_other (by omega), up_other (by omega), up_same]
    · rw [up_other (by omega), up_same, es]
    · rw [up_other (by omega), up_other (by omega), up_other (by omega), up_other (by omega), up_other (by omega), up_other (by omega), up_same]
    · rw [up_other (by omega), up_other (by omega), up_other (by omega), up_other (by omega), up_other (by omega), up_same]
    · rw [up_other (by omega), up_other (by omega), up_other (by omega), up_other (by omega), up_same]
  by_cases h2 : r.kind = 2
  · rw [if_neg h1, if_pos h2] at hf
    simp only [Bool.and_eq_true, sil_iff] at hf
    obtain ⟨-, s1, s2, -⟩ := hf
    have es : stR r = 1 := by unfold stR; rw [h2, s1]; rfl
    have eF : folP f r u = up (up (up (fol1 f r u) 31 (f 31 + 1)) (u * 5) 1) (u * 5 + 4) 0 := by
      unfold folP fol3 fol2
      rw [h2, s1, s2]
      rfl
    have eG : kpD g r u (i : Int) = up (up (up g u i) 12 (g 12 + 1)) (6 + u) 0 := by
      unfold kpD
      rw [h2]
      rfl
    rw [eF, eG]
    unfold fol1
    refine key _ _ (fun t ht hne => ⟨fun k hk => ?_, ?_, ?_⟩) ?_ ?_ ?_ ?_ ?_ ?_ ?_ ?_
    · rw [up_other (by omega), up_other (by omega), up_other (by omega), up_other (by omega), up_other (by omega), up_other (by omega)]
    · rw [up_other (by omega), up_other (by omega), up_other (by omega)]
    · rw [up_other (by omega), up_other (by omega), up_other (by omega)]
    · rw [up_same, up_same]
    · rw [up_other (by omega), up_other (by omega), up_other (by omega), up_other (by omega), up_other (by omega), up_other (by omega), up_other (by omega), up_other (by omega), up_other (by omega), h.beg]
    · rw [up_other (by omega), up_other (by omega), up_same, up_other (by omega), up_same, h.att]
    · rw [up_other (by omega), up_other (by omega), up_same]
    · rw [up_other (by omega), up_same, es]
    · rw [up_other (by omega), up_other (by omega), up_other (by omega), up_other (by omega), up_other (by omega), up_same]
    · rw [up_other (by omega), up_other (by omega), up_other (by omega), up_other (by omega), up_same]
    · rw [up_other (by omega), up_other (by omega), up_other (by omega), up_same]
  by_cases h17 : r.kind = 17
  · rw [if_neg h1, if_neg h2, if_pos h17] at hf
    simp only [Bool.and_eq_true, sil_iff] at hf
    obtain ⟨-, s1, s2, -⟩ := hf
    have es : stR r = 0 := by unfold stR; rw [h17]; rfl
    have eF : folP f r u = up (fol1 f r u) (u * 5) 0 := by
      unfold folP fol3 fol2
      rw [h17, s1, s2]
      rfl
    have eG : kpD g r u (i : Int) = up g u i := by
      unfold kpD
      rw [h17, s2]
      rfl
    rw [eF, eG]
    unfold fol1
    refine key _ _ (fun t ht hne => ⟨fun k hk => ?_, ?_, ?_⟩) ?_ ?_ ?_ ?_ ?_ ?_ ?_ ?_
    · rw [up_other (by omega), up_other (by omega), up_other (by omega), up_other (by omega)]
    · rw [up_other (by omega)]
    · rw [up_other (by omega)]
    · rw [up_other (by omega), up_other (by omega), up_other (by omega), up_other (by omega), up_other (by omega)]
      exact hcu
    · rw [up_other (by omega), up_other (by omega), up_other (by omega), up_other (by omega), up_other (by omega), h.beg]
    · rw [up_other (by omega), up_other (by omega), up_other (by omega), up_other (by omega), up_other (by omega), h.att]
    · rw [up_same]
    · rw [up_same, es]
    · rw [up_other (by omega), up_other (by omega), up_other (by omega), up_same]
    · rw [up_other (by omega), up_other (by omega), up_same]
    · rw [up_other (by omega), up_same]
  rw [if_neg h1, if_neg h2, if_neg h17] at hf
  simp only [Bool.and_eq_true] at hf
  have hst : f (u * 5) = 1 := by simpa using hf.1.1.1.2
  have eF2 : fol2 f r u = fol1 f r u := by unfold fol2; rw [if_neg h1, if_neg h2, if_neg h17]
  have hFo : ∀ t, t < 6 → t ≠ u → ∀ k, k < 5 → folP f r u (t * 5 + k) = f (t * 5 + k) := fun t ht hne k hk => by
    unfold folP fol3
    rw [eF2, if_neg h0]
    unfold fol1
    repeat' split
    all_goals (repeat rw [up_other (by omega)])
  have eG : kpD g r u (i : Int) = if (r.told && r.entry == g (6 + u)) = true then up (up g u i) (6 + u) (g (6 + u) + 1) else up g u i := by
    unfold kpD
    rw [if_neg h0, if_neg h1, if_neg h2]
  have eF : ∀ o, o ≠ u * 5 → folP f r u o = fol3 f r u o := fun o ho => by
    unfold folP
    rw [if_neg h0]
    repeat' split
    · rw [up_other ho]
    · rw [up_other ho]
    · rfl
  have eS : folP f r u (u * 5) = stR r := by
    unfold folP stR
    rw [if_neg h0, if_neg h17]
    by_cases d : dec r.fin = true
    · rw [if_pos d, if_pos d, up_same]
    · rw [if_neg d, if_neg d]
      by_cases z : r.fin = 0
      · rw [if_neg (by simp [z]), if_neg (by simp [z])]
        unfold fol3
        rw [eF2]
        unfold fol1
        split
        · rw [up_other (by omega), up_other (by omega), up_other (by omega), up_other (by omega), hst]
        · rw [up_other (by omega), up_other (by omega), up_other (by omega), hst]
      · rw [if_pos (by simp [z]), if_pos (by simp [z]), up_same]
  have e3 : fol3 f r u = if (r.told && r.entry == g (6 + u)) = true then up (fol1 f r u) (u * 5 + 4) (g (6 + u) + 1) else fol1 f r u := by
    unfold fol3
    rw [eF2, hcu]
  rw [eG]
  have eF1 := eF (u * 5 + 1) (by omega)
  have eF2' := eF (u * 5 + 2) (by omega)
  have eF3 := eF (u * 5 + 3) (by omega)
  have eF4 := eF (u * 5 + 4) (by omega)
  have eF30 := eF 30 (by omega)
  have eF31 := eF 31 (by omega)
  rw [e3] at eF1 eF2' eF3 eF4 eF30 eF31
  by_cases c : (r.told && r.entry == g (6 + u)) = true
  · rw [if_pos c] at eF1 eF2' eF3 eF4 eF30 eF31 ⊢
    unfold fol1 at eF1 eF2' eF3 eF4 eF30 eF31
    refine key _ _ (fun t ht hne => ⟨fun k hk => hFo t ht hne k hk, ?_, ?_⟩) ?_ ?_ ?_ ?_ eS ?_ ?_ ?_
    · rw [up_other (by omega), up_other (by omega)]
    · rw [up_other (by omega), up_other (by omega)]
    · rw [eF4, up_same, up_same]
    · rw [eF30, up_other (by omega), up_other (by omega), up_other (by omega), up_other (by omega), up_other (by omega), up_other (by omega), h.beg]
    · rw [eF31, up_other (by omega), up_other (by omega), up_other (by omega), up_other (by omega), up_other (by omega), up_other (by omega), h.att]
    · rw [up_other (by omega), up_same]
    · rw [eF1, up_other (by omega), up_other (by omega), up_other (by omega), up_same]
    · rw [eF2', up_other (by omega), up_other (by omega), up_same]
    · rw [eF3, up_other (by omega), up_same]
  · rw [if_neg c] at eF1 eF2' eF3 eF4 eF30 eF31 ⊢
    unfold fol1 at eF1 eF2' eF3 eF4 eF30 eF31
    refine key _ _ (fun t ht hne => ⟨fun k hk => hFo t ht hne k hk, ?_, ?_⟩) ?_ ?_ ?_ ?_ eS ?_ ?_ ?_
    · rw [up_other (by omega)]
    · rw [up_other (by omega)]
    · rw [eF4, up_other (by omega), up_other (by omega), up_other (by omega), up_other (by omega)]
      exact hcu
    · rw [eF30, up_other (by omega), up_other (by omega), up_other (by omega), up_other (by omega), h.beg]
    · rw [eF31, up_other (by omega), up_other (by omega), up_other (by omega), up_other (by omega), h.att]
    · rw [up_same]
    · rw [eF1, up_other (by omega), up_other (by omega), up_same]
    · rw [eF2', up_other (by omega), up_same]
    · rw [eF3, up_same]
end Go.Proofs.Ytmnmphkkcabkiaa

namespace Go.Proofs.Ytmnmphkkcabkiaa
open Go.RowKit
theorem Rl.wide {l : List Rw} {i : Nat} {f g : Nat → Int} (h : Rl l i f g) (hB : Bd i f) (hi : i ≤ 4611686018427387904) : ∀ o, o < 14 → g o + 1 ≤ 9223372036854775807 ∧ -9223372036854775808 ≤ g o := fun o ho => by
  by_cases h1 : o < 6
  · rcases h.las o h1 with e | ⟨j, hj, e, -⟩
    · rw [e.1]; omega
    · rw [e]; omega
  · by_cases h2 : o < 12
    · have := h.cnt (o - 6) (by omega)
      rw [show 6 + (o - 6) = o by omega] at this
      rw [← this]
      have := hB ((o - 6) * 5 + 4) (by omega)
      omega
    · rcases (by omega : o = 12 ∨ o = 13) with rfl | rfl
      · rw [← h.att]
        have := hB 31 (by omega)
        omega
      · rw [← h.beg]
        have := hB 30 (by omega)
        omega
end Go.Proofs.Ytmnmphkkcabkiaa

namespace Go.Proofs.Ytmnmphkkcabkiaa
open Go.RowKit
theorem add_at (b o j : Nat) : (⟨b, o, none⟩ : Addr).add j = ⟨b, o + j, none⟩ := by
  unfold Addr.add; split <;> simp_all
def rcl (l : List Rw) : List Value := l.flatMap Rw.cells
theorem rw_len (r : Rw) : r.cells.length = 26 := rfl
theorem rcl_len : ∀ l : List Rw, (rcl l).length = l.length * 26
  | [] => rfl
  | r :: l => by
    show (r.cells ++ rcl l).length = _
    rw [List.length_append, rw_len, rcl_len l, List.length_cons]
    omega
theorem rcl_get : ∀ (l : List Rw) (i j : Nat) (v : Value), i < l.length → (l.getD i rw0).cells[j]? = some v → (rcl l)[i * 26 + j]? = some v
  | [], _, _, _, h, _ => by simp at h
  | q :: l, 0, j, v, _, hv => by
    have hv : q.cells[j]? = some v := hv
    have hj : j < q.cells.length := (List.getElem?_eq_some_iff.1 hv).1
    show (q.cells ++ rcl l)[0 * 26 + j]? = some v
    rw [Nat.zero_mul, Nat.zero_add, List.getElem?_append_left hj]; exact hv
  | q :: l, i + 1, j, v, h, hv => by
    have hv : (l.getD i rw0).cells[j]? = some v := hv
    have h' : i < l.length := by simpa using h
    show (q.cells ++ rcl l)[(i + 1) * 26 + j]? = some v
    rw [List.getElem?_append_right (by rw [rw_len]; omega), rw_len, show (i + 1) * 26 + j - 26 = i * 26 + j by omega]
    exact rcl_get l i j v h' hv
theorem rcl_back : ∀ (l : List Rw) (k : Nat) (v : Value), (rcl l)[k]? = some v → k / 26 < l.length ∧ (l.getD (k / 26) rw0).cells[k % 26]? = some v
  | [], _, _, h => by simp [rcl] at h
  | q :: l, k, v, h => by
    have h : (q.cells ++ rcl l)[k]? = some v := h
    by_cases hk : k < 26
    · rw [List.getElem?_append_left (by rw [rw_len]; exact hk)] at h
      have e1 : k / 26 = 0 := by omega
      have e2 : k % 26 = k := by omega
      rw [e1, e2]
      exact ⟨by simp, h⟩
    · rw [List.getElem?_append_right (by rw [rw_len]; omega), rw_len] at h
      obtain ⟨h1, h2⟩ := rcl_back l (k - 26) v h
      have e1 : k / 26 = (k - 26) / 26 + 1 := by omega
      have e2 : k % 26 = (k - 26) % 26 := by omega
      rw [e1, e2]
      exact ⟨by simpa using h1, h2⟩
theorem one_rcl (l : List Rw) : ∀ v ∈ rcl l, v.oneCell' = true := fun v hv => by
  obtain ⟨r, _, hr⟩ := List.mem_flatMap.1 hv
  have := all_oneCell_rw r
  rw [Array.all_eq_true'] at this
  exact this v (by simpa using hr)
theorem rsl_of_owns {W : World} {base n : Nat} {v : Value} {l : List Rw} (h : W.ownsRow base 50 26 v n (rcl l)) (hn : l.length = n) : ∃ a cap, v = .slice a n cap ∧ RSL W a l := by
  rcases h.2 with ⟨rfl, h0⟩ | ⟨g, cap, cur, rfl, _⟩
  · have hz : n = 0 := by first | exact h0.1 | omega
    subst hz
    exact ⟨none, 0, rfl, fun i hi => by omega⟩
  · refine ⟨_, cap, rfl, fun i hi => ⟨g, 0, rfl, fun j v hv => ?_⟩⟩
    have e := rcl_get l i j v hi hv
    have hc := h.cells (g := g) rfl (i * 26 + j) v e
    rw [add_at] at hc
    rw [Nat.zero_add] at hc ⊢
    exact hc
theorem uRows : Try.prog.underlying 23 = some (.slice 50) := by kernel_rfl
theorem iRows : ∃ i, Try.prog.info? 50 = some i ∧ i.zero = some (.agg rw0.cells.toArray) ∧ i.size = 26 ∧ i.bytes = 192 := by
  have h : (Try.prog.info? 50).map (fun i => (i.zero, i.size, i.bytes)) = some (some (.agg rw0.cells.toArray), 26, 192) := by kernel_rfl
  cases hi : Try.prog.info? 50 with
  | none => rw [hi] at h; cases h
  | some i =>
    rw [hi] at h
    simp only [Option.map_some] at h
    injection h with h
    injection h with h1 h2
    injection h2 with h2 h3
    exact ⟨i, rfl, h1, h2, h3⟩
theorem heap_new (W : World) (ob : Obj) : (W.alloc ob).heap[W.heap.size]? = some ob := (MapKept.heap_alloc W ob).1
set_option maxRecDepth 100000 in
theorem copy_r {W0 : World} {ao : Option Addr} {l : List Rw} (co : Nat) (hO : RSL W0 ao l) (hz : ao = none → co = 0) (hn : l.length * 192 ≤ 140737488355328) :
    ∃ v' W', (Builtin.append_ #[23, 23] 23 #[.slice (some ⟨W0.heap.size, 0, none⟩) 0 0, .slice ao l.length co]).run Try.prog (W0.alloc (.cells #[] 50)) = .ok v' W' ∧ W'.ownsRow W0.heap.size 50 26 v' l.length (rcl l) ∧ Keeps (fun _ => False) W0 W' := by
  obtain ⟨i0, hi0, hz0, hz1, hz2⟩ := iRows
  have k0 : Keeps (fun _ => False) W0 (W0.alloc (.cells #[] 50)) := (Keeps.refl _ W0).alloc _
  have o0 : (W0.alloc (.cells #[] 50)).ownsRow W0.heap.size 50 26 (.slice (some ⟨W0.heap.size, 0, none⟩) 0 0) 0 [] := ⟨rfl, .inr ⟨W0.heap.size, 0, #[], rfl, Nat.le_refl _, heap_new W0 _, Nat.le_refl _, by unfold maxLen; omega, rfl, rfl⟩⟩
  cases ao with
  | none =>
    have hl : l = [] := by
      cases l with
      | nil => rfl
      | cons x r => obtain ⟨b, off, e, _⟩ := hO 0 (by simp); cases e
    subst hl
    rw [hz rfl]
    exact ⟨_, _, run_append_owned_none (P := Try.prog) (w := W0.alloc (.cells #[] 50)) W0.heap.size 23 23 50 i0 26 uRows hi0 _ 0 [] o0, o0, k0⟩
  | some a =>
    have hsrc : ∀ j u, (rcl l)[j]? = some u → (W0.alloc (.cells #[] 50)).cell? (a.add j) = some u := fun j u e => by
      obtain ⟨h1, h2⟩ := rcl_back l j u e
      obtain ⟨b, off, ea, hc⟩ := hO _ h1
      injection ea with ea
      subst ea
      rw [add_at]
      have := hc _ _ h2
      rw [show off + j / 26 * 26 + j % 26 = off + j by omega] at this
      exact k0.cell this (fun e => e)
    obtain ⟨v', w', hr, ho, hgr, _, _⟩ := run_append_own_at (P := Try.prog) (w := W0.alloc (.cells #[] 50)) W0.heap.size 23 23 50 i0 _ 26 192 uRows hi0 hz0 hz1 hz2 rfl (by decide) _ 0 [] o0 a l.length co (rcl l) (rcl_len l) hsrc (one_rcl l) (by unfold maxLen; omega) (by omega) k0.size
    rw [Nat.zero_add, List.nil_append] at ho
    exact ⟨v', w', hr, ho, k0.trans' ((Keeps.refl _ _).grown hgr (S := fun i => i = W0.heap.size) (fun i _ e => by simp [Value.ownBlock] at e; exact e.symm)) (fun _ _ e => e) (fun i hi e => by omega)⟩
theorem wpList_append_run {P : Program} {w : World} {ops : Array Oper} {rest : List Oper} {o : Oper} {a : Act} {Q : Exit → Act → World → Prop} (hgd : o.guard = none) (s x : Operand) (t : TypeId)
    (ho : o.op = .call { callee := .builtin .append, args := #[s, x], argTypes := #[t, t] }) (v src v' : Value) (w' : World) (hs : a.eval s = v) (hx : a.eval x = src)
    (hr : (Builtin.append_ #[t, t] o.type #[v, src]).run P w = .ok v' w') (h : wpList P ops Q rest (a.put o.dst v') w') : wpList P ops Q (o :: rest) a w :=
  wpList_plain hgd fun _ hK => by
    unfold Oper.wp execOp
    simp only [ho, resolve, invoke, builtin, Sem.run_bind, Sem.run_pure, Result.andThen_ok, List.map_toArray, List.map_cons, List.map_nil, hs, hx, hr]
    exact hK _ _ h
set_option maxHeartbeats 1000000 in
set_option maxRecDepth 100000 in
theorem copied_any {w : World} {a : Option Addr} {cap : Nat} {l : List Rw} (hl : RSL w a l) (hz : a = none → cap = 0) (hn : l.length * 192 ≤ 140737488355328) : Calls Try.prog 10 #[.slice a l.length cap] w fun e w' => ∃ a' cap', e = .returned (.slice a' l.length cap') ∧ RSL w' a' l ∧ Keeps (fun _ => False) w w' := by
  obtain ⟨v', W', hr, ho, k⟩ := copy_r cap hl hz hn
  obtain ⟨a', cap', rfl, hl'⟩ := rsl_of_owns ho rfl
  generalize l.length = N at *
  go_enter Try.func10, Try.ntmps10
  go_wp2_with (refine wpList_append_run rfl _ _ _ rfl _ _ _ W' rfl rfl hr ?_; clear hr)
  go_ret
  exact ⟨a', cap', rfl, hl', k⟩
theorem num_any (w : World) (n : Int) : Calls Try.prog 13 #[.int .i64 n] w fun e w' => e = .returned (.int .i64 n) ∧ w' = w := by
  go_enter Try.func13, Try.ntmps13
  go_wp2
  go_ret
  exact ⟨rfl, rfl⟩
end Go.Proofs.Ytmnmphkkcabkiaa

namespace Go.Proofs.Ytmnmphkkcabkiaa
open Go.RowKit
attribute [local go_sem] Oper.semAt_some run_store_nf run_store_f
theorem iTx : (Try.prog.info? 42).map (·.size) = some 11 := by kernel_rfl
theorem run_tx {W : World} {b o : Nat} {t : Tv} {sv wv : Value} (hc : ∀ j v, (t.cells sv wv)[j]? = some v → W.cell? ⟨b, o + j, none⟩ = some v) : (loadVar 42 ⟨b, o, none⟩).run Try.prog W = .ok (.agg (t.cells sv wv).toArray) W :=
  run_loadVar_mid W b o 42 (t.cells sv wv) _ hc Try.underlying42 rfl (by rw [iTx]; rfl)
theorem run_txB {W : World} {b : Nat} {t : Tv} {sv wv : Value} (h : CL W b (t.cells sv wv)) : (loadVar 42 ⟨b, 0, none⟩).run Try.prog W = .ok (.agg (t.cells sv wv).toArray) W := run_tx (fun j v e => by rw [Nat.zero_add]; exact h.c j v e)
theorem one_tx (t : Tv) {sv wv : Value} (hs : sv.oneCell' = true) (hw : wv.oneCell' = true) : (t.cells sv wv).toArray.all (·.oneCell') = true := all_oneCell_toArray (by simp [Tv.cells, Value.oneCell'] at hs hw ⊢; exact ⟨hs, hw⟩)
def nilv : Value := .slice none 0 0
def tv0 : Tv := ⟨0, 0, 0, 0, 0, 0, 0, 0, 0, [], []⟩
def begD (r : Rw) (st : Int) : Tv := ⟨r.thread, r.job, r.try_, r.no, st, r.step, -1, -1, 0, [], []⟩
def sawD (r : Rw) : Sw := ⟨r.step, r.object, r.entry, r.kind == 3 && r.entry == -1, r.phase == 2, false, r.vN, r.vX, r.vD⟩
def wroD (r : Rw) : Wo := ⟨r.object, r.pN, r.pX, r.pD⟩
def addF (t : Tv) (r : Rw) : Tv := if t.fnl < 0 ∧ r.phase = 3 then { t with fnl := r.step } else t
def addE (t : Tv) (r : Rw) : Tv := if r.fin = 0 then t else { t with end_ := r.step, out := r.fin }
def addS (t : Tv) (r : Rw) : Tv := if r.told = true then { t with saws := t.saws ++ [sawD r] } else t
def addW (t : Tv) (r : Rw) : Tv := if r.puts = true then { t with wrs := putD t.wrs (wroD r) } else t
def addD (t : Tv) (r : Rw) : Tv := addW (addS (addE (addF t r) r) r) r
end Go.Proofs.Ytmnmphkkcabkiaa

