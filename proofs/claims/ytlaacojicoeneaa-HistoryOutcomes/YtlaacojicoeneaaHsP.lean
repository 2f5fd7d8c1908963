import Derived.Test.YtlaacojicoeneaaHsN
namespace Go.Proofs.Ytlaacojicoeneaa
open Go.RowKit
def nvs (l : List Int) : List Value := l.map fun x => .int .i64 x
theorem uInts : Try.prog.underlying 26 = some (.slice 3) := by kernel_rfl
theorem inti : ∃ i, Try.prog.info? 3 = some i ∧ i.zero = some (.int .i64 0) ∧ i.size = 1 ∧ i.bytes = 8 := by
  have h : (Try.prog.info? 3).map (fun i => (i.zero, i.size, i.bytes)) = some (some (.int .i64 0), 1, 8) := by kernel_rfl
  cases hi : Try.prog.info? 3 with
  | none => rw [hi] at h; cases h
  | some i =>
    rw [hi] at h
    simp only [Option.map_some] at h
    injection h with h
    injection h with h1 h2
    injection h2 with h2 h3
    exact ⟨i, rfl, h1, h2, h3⟩
theorem append_n {W : World} {base k : Nat} {v : Value} {xs : List Int} (hown : W.ownsRow base 3 1 v k (nvs xs)) (hb : base ≤ W.heap.size) (hk : (k + 1) * 8 ≤ 140737488355328) (x : Int) :
    ∃ v' w', (Builtin.append_ #[26, 26] 26 #[v, .slice (some ⟨W.heap.size, 0, none⟩) 1 1]).run Try.prog (W.alloc (.cells #[.int .i64 x] 3)) = .ok v' w' ∧ w'.ownsRow base 3 1 v' (k + 1) (nvs (xs ++ [x])) ∧ Keeps (fun i => v.ownBlock = some i) W w' := by
  obtain ⟨i0, hi0, hz0, hz1, hz2⟩ := inti
  obtain ⟨v', w', hr, ho, hg, _, hbl⟩ := run_append_own_at (P := Try.prog) (w := W.alloc (.cells (nvs [x]).toArray 3)) base 26 26 3 i0 _ 1 8 uInts hi0 hz0 hz1 hz2 rfl (by decide) v k (nvs xs) (((Keeps.refl (fun _ => False) W).alloc _).owns hown (fun _ _ e => e)) ⟨W.heap.size, 0, none⟩ 1 1 (nvs [x]) rfl (fun j u hu => by
      rw [add_at]
      have := (CL.made W (nvs [x]) 3).c j u hu
      simpa using this) (fun u hu => by
      simp [nvs] at hu
      rcases hu with rfl
      rfl) (by unfold maxLen; omega) (by omega) (Nat.le_trans hb (by simp))
  refine ⟨v', w', hr, ?_, ((Keeps.refl _ W).alloc _).grown hg (fun i _ e => e)⟩
  unfold nvs
  rw [List.map_append]
  simpa [nvs] using ho
theorem owns_base {w : World} {base : Nat} {e : TypeId} {size : Nat} {v : Value} {n : Nat} {xs : List Value} (h : w.ownsRow base e size v n xs) (k : Nat) (hk : v.ownBlock = some k) : base ≤ k := by
  rcases h.2 with ⟨rfl, _⟩ | ⟨g, cap, cur, rfl, hb, _⟩
  · cases hk
  · simp [Value.ownBlock] at hk; omega
/-- The steps of the first k rows that are outcomes. -/
def outK (l : List Rw) : Nat → List Int
  | 0 => []
  | k + 1 => if dec (l.getD k rw0).fin then outK l k ++ [(k : Int)] else outK l k
theorem outK_le (l : List Rw) : ∀ k, (outK l k).length ≤ k
  | 0 => Nat.le_refl _
  | k + 1 => by
    have := outK_le l k
    unfold outK
    split
    · rw [List.length_append, List.length_singleton]; omega
    · omega
def outs (l : List Rw) : List Int := if fstP l 0 (f0 6) = none then outK l l.length else []
/-- Of rows that may all stand each has its place as its step. -/
theorem fst_step : ∀ (l : List Rw) (i : Nat) (f : Nat → Int), fstP l i f = none → ∀ k, k < l.length → (l.getD k rw0).step = ((i + k : Nat) : Int)
  | [], _, _, _, k, hk => by simp at hk
  | r :: l, i, f, h, k, hk => by
    unfold fstP at h
    by_cases e : r.step ≠ (i : Int) ∨ fitP f r r.thread.toNat = false
    · rw [if_pos e] at h; cases h
    · rw [if_neg e] at h
      cases k with
      | zero =>
        show r.step = _
        have : r.step = (i : Int) := Classical.byContradiction (fun h => e (.inl h))
        rw [this]; rfl
      | succ k =>
        have := fst_step l (i + 1) _ h k (by simpa using hk)
        show (l.getD k rw0).step = _
        rw [this]
        congr 1
        omega
theorem owns_slice {W : World} {base n : Nat} {v : Value} {xs : List Value} (h : W.ownsRow base 3 1 v n xs) : ∃ a cap, v = .slice a n cap := by
  rcases h.2 with ⟨rfl, h0⟩ | ⟨g, cap, cur, rfl, _⟩
  · have hz : n = 0 := by first | exact h0.1 | omega
    subst hz
    exact ⟨none, 0, rfl⟩
  · exact ⟨_, cap, rfl⟩
set_option maxHeartbeats 1000000 in
set_option maxRecDepth 100000 in
theorem outcomes_any {w : World} {a : Option Addr} {cap : Nat} {l : List Rw} (hl : RSL w a l) (hlen : l.length ≤ 733007751829) : Calls Try.prog 17 #[.slice a l.length cap] w fun e w' => ∃ a' cap', e = .returned (.tuple #[.slice a' (outs l).length cap', .int .i64 (ansP (fstP l 0 (f0 6))).2]) ∧ w'.ownsRow w.heap.size 3 1 (.slice a' (outs l).length cap') (outs l).length (nvs (outs l)) ∧ Keeps (fun _ => False) w w' := by
  have hck := check_any (cap := cap) hl (by omega)
  cases hA : fstP l 0 (f0 6) with
  | some k =>
    have eo : outs l = [] := by unfold outs; rw [hA, if_neg (by simp)]
    rw [eo]
    rw [hA] at hck
    have hck : Calls Try.prog 14 #[.slice a l.length cap] w fun e w' => e = .returned (.tuple #[.int .i64 (k : Int), .int .i64 150]) ∧ Keeps (fun _ => False) w w' := hck
    clear hl hlen hA eo
    generalize l.length = N at *
    go_enter Try.func17, Try.ntmps17
    go_wp2_with (go_at_call 14; refine hck.mono ?_; clear hck; rintro e w1 ⟨rfl, k1⟩)
    go_ret2
    exact ⟨none, 0, rfl, World.ownsRow_nil _ _ _ _, k1⟩
  | none =>
    have eo : outs l = outK l l.length := by unfold outs; rw [if_pos hA]
    rw [eo]
    have HSt : Hid (∀ k, k < l.length → (l.getD k rw0).step = ((0 + k : Nat) : Int)) := fst_step l 0 _ hA
    rw [hA] at hck
    have hck : Calls Try.prog 14 #[.slice a l.length cap] w fun e w' => e = .returned (.tuple #[.int .i64 (-1), .int .i64 0]) ∧ Keeps (fun _ => False) w w' := hck
    clear hA eo
    generalize hN : l.length = N at *
    go_enter Try.func17, Try.ntmps17
    go_wp2_with (go_at_call 14; refine hck.mono ?_; clear hck; rintro e w1 ⟨rfl, k1⟩)
    go_loopw [6, 19] (fun v iv Wr => ∃ k : Nat, iv = .int .i64 (k : Int) ∧ k ≤ N ∧ Wr.ownsRow w.heap.size 3 1 v (outK l k).length (nvs (outK l k)) ∧ Keeps (fun _ => False) w Wr) (fun _ iv _ => N - (intOf iv).toNat)
    case atStart => exact ⟨0, rfl, Nat.zero_le _, World.ownsRow_nil _ _ _ _, k1⟩
    case round =>
      obtain ⟨k, rfl, hk, hown, kr⟩ := hrel
      clear k1
      have hle := outK_le l k
      by_cases hlt : k < N
      · have l1 : decide ((k : Int) < (N : Int)) = true := decide_eq_true (by omega)
        have l2 : (k : Int) < (N : Int) := by omega
        have l4 : decide (k < N) = true := decide_eq_true hlt
        obtain ⟨b, off, rfl, hc⟩ := hl k (by omega)
        have hR := run_rwAt (W := wr) (fun j v e => kr.cell (hc j v e) (fun e => e))
        have hst := HSt.out k (by omega)
        rw [Nat.zero_add] at hst
        have HOK : Hid (outK l (k + 1) = if dec (l.getD k rw0).fin then outK l k ++ [(k : Int)] else outK l k) := rfl
        clear hc
        generalize l.getD k rw0 = r at *
        obtain ⟨W4, hW4⟩ : ∃ W4, W4 = wr.alloc (.cells #[.int .i64 0, .int .i64 0, .int .i64 0, .int .i64 0, .int .i64 0, .int .i64 0, .int .i64 0, .int .i64 0, .int .i64 0, .int .i64 0, .int .i64 0, .int .i64 0, .int .i64 0, .bool false, .bool false, .bool false, .int .i64 0, .bool false, .int .i64 0, .int .i64 0, .bool false, .bool false, .int .i64 0, .int .i64 0, .bool false, .int .i64 0] 39) := ⟨_, rfl⟩
        have k4 : Keeps (fun _ => False) wr W4 := by rw [hW4]; exact (Keeps.refl _ wr).alloc _
        have hU4 : CL W4 wr.heap.size rw0.cells := by rw [hW4]; exact CL.made wr rw0.cells _
        have hOC := all_oneCell_rw r
        have HW4 : Hid (W4 = wr.alloc (.cells #[.int .i64 0, .int .i64 0, .int .i64 0, .int .i64 0, .int .i64 0, .int .i64 0, .int .i64 0, .int .i64 0, .int .i64 0, .int .i64 0, .int .i64 0, .int .i64 0, .int .i64 0, .bool false, .bool false, .bool false, .int .i64 0, .bool false, .int .i64 0, .int .i64 0, .bool false, .bool false, .int .i64 0, .int .i64 0, .bool false, .int .i64 0] 39)) := hW4
        clear hW4
        have hdc := fun W => decides_any W r.fin
        generalize dec r.fin = dz at *
        obtain ⟨av, cv, rfl⟩ := owns_slice hown
        generalize hM : (outK l k).length = M at *
        generalize hO : outK l k = O at *
        cases dz
        · have HOK2 : outK l (k + 1) = O := HOK.out
          clear HOK hst
          go_wp2_with (first | (refine wpList_load_run rfl 39 _ rfl ⟨b, off + k * 26, none⟩ rfl _ hR ?_; clear hR) | (rw [← HW4.out]; clear HW4; refine wpList_store_cl rfl 39 _ _ rfl wr.heap.size 0 26 _ rfl rfl rfl hU4 (by show 26 ≤ 26; decide) iRw hOC ?_; intro w5 hc5 k5 hsz5; clear hsz5; have hI5 : CL w5 wr.heap.size r.cells := hc5; clear hc5; have K45 : Keeps (fun _ => False) wr w5 := k4.trans' k5 (fun _ _ e => e) (fun i hi e => (by have e : i = wr.heap.size := e; omega)); have c0 := hI5.c 0 _ rfl; have c25 := hI5.c 25 _ rfl; have hown5 := K45.owns hown (fun _ _ e => e)) | (go_at_call 35; refine (hdc _).mono ?_; rintro e w9 ⟨rfl, ew⟩; subst w9))
          go_roundw
          case rel => exact ⟨k + 1, by go_num, by omega, by rw [HOK2, hM]; exact hown5, kr.trans K45⟩
          case measure => simp [intOf]; omega
        · have HOK2 : outK l (k + 1) = O ++ [(k : Int)] := HOK.out
          clear HOK
          have HAp : Hid (∀ W, W.ownsRow w.heap.size 3 1 (.slice av M cv) M (nvs O) → w.heap.size ≤ W.heap.size → ∃ a' c' W', (Builtin.append_ #[26, 26] 26 #[.slice av M cv, .slice (some ⟨W.heap.size, 0, none⟩) 1 1]).run Try.prog (W.alloc (.cells #[.int .i64 (k : Int)] 3)) = .ok (.slice a' (M + 1) c') W' ∧ W'.ownsRow w.heap.size 3 1 (.slice a' (M + 1) c') (M + 1) (nvs (O ++ [(k : Int)])) ∧ Keeps (fun i => (Value.slice av M cv).ownBlock = some i) W W') := fun W h hb => by
            obtain ⟨v', w', h1, h2, h3⟩ := append_n h hb (by omega) (k : Int)
            obtain ⟨a', c', rfl⟩ := owns_slice h2
            exact ⟨a', c', w', h1, h2, h3⟩
          go_wp2_with (first | (refine wpList_load_run rfl 39 _ rfl ⟨b, off + k * 26, none⟩ rfl _ hR ?_; clear hR) | (rw [← HW4.out]; clear HW4; refine wpList_store_cl rfl 39 _ _ rfl wr.heap.size 0 26 _ rfl rfl rfl hU4 (by show 26 ≤ 26; decide) iRw hOC ?_; intro w5 hc5 k5 hsz5; clear hsz5; have hI5 : CL w5 wr.heap.size r.cells := hc5; clear hc5; have K45 : Keeps (fun _ => False) wr w5 := k4.trans' k5 (fun _ _ e => e) (fun i hi e => (by have e : i = wr.heap.size := e; omega)); have c0 := hI5.c 0 _ rfl; have c25 := hI5.c 25 _ rfl; have hown5 := K45.owns hown (fun _ _ e => e)) | (go_at_call 35; refine (hdc _).mono ?_; rintro e w9 ⟨rfl, ew⟩; subst w9; rw [hst] at c0; obtain ⟨a', c', W', hr', ho', kq⟩ := HAp.out w5 hown5 (kr.trans K45).size; clear HAp) | (at_builtin; refine wpList_append_run rfl _ _ _ rfl _ _ _ W' rfl rfl hr' ?_; clear hr'))
          have K9 : Keeps (fun _ => False) w W' := (kr.trans K45).trans' kq (fun _ _ e => e) (fun i hi e => by have := owns_base hown5 i e; omega)
          have eM : (outK l (k + 1)).length = M + 1 := by rw [HOK2, List.length_append, List.length_singleton, ← hM]
          go_roundw
          case rel => exact ⟨k + 1, by go_num, by omega, by rw [eM, HOK2]; exact ho', K9⟩
          case measure => simp [intOf]; omega
      · have e : k = N := by omega
        subst e
        have l1 : decide ((k : Int) < (k : Int)) = false := decide_eq_false (by omega)
        have l4 : decide (k < k) = false := decide_eq_false (by omega)
        obtain ⟨av, cv, rfl⟩ := owns_slice hown
        go_wp2
        go_ret2
        exact ⟨av, cv, rfl, hown, kr⟩
set_option maxHeartbeats 1000000 in
set_option maxRecDepth 100000 in
theorem routcomes_any {w : World} {a : Option Addr} {cap : Nat} {l : List Rw} (hl : RSL w a l) (hlen : l.length ≤ 733007751829) : Calls Try.prog 16 #[.slice a l.length cap] w fun e w' => ∃ a' cap', e = .returned (.tuple #[.slice a' (outs l).length cap', .int .i64 (ansP (fstP l 0 (f0 6))).2]) ∧ w'.ownsRow w.heap.size 3 1 (.slice a' (outs l).length cap') (outs l).length (nvs (outs l)) ∧ Keeps (fun _ => False) w w' := by
  have hck := rcheck_any (cap := cap) hl (by omega)
  cases hA : fstP l 0 (f0 6) with
  | some k =>
    have eo : outs l = [] := by unfold outs; rw [hA, if_neg (by simp)]
    rw [eo]
    rw [hA] at hck
    have hck : Calls Try.prog 12 #[.slice a l.length cap] w fun e w' => e = .returned (.tuple #[.int .i64 (k : Int), .int .i64 150]) ∧ Keeps (fun _ => False) w w' := hck
    clear hl hlen hA eo
    generalize l.length = N at *
    go_enter Try.func16, Try.ntmps16
    go_wp2_with (go_at_call 12; refine hck.mono ?_; clear hck; rintro e w1 ⟨rfl, k1⟩)
    go_ret2
    exact ⟨none, 0, rfl, World.ownsRow_nil _ _ _ _, k1⟩
  | none =>
    have eo : outs l = outK l l.length := by unfold outs; rw [if_pos hA]
    rw [eo]
    have HSt : Hid (∀ k, k < l.length → (l.getD k rw0).step = ((0 + k : Nat) : Int)) := fst_step l 0 _ hA
    rw [hA] at hck
    have hck : Calls Try.prog 12 #[.slice a l.length cap] w fun e w' => e = .returned (.tuple #[.int .i64 (-1), .int .i64 0]) ∧ Keeps (fun _ => False) w w' := hck
    clear hA eo
    generalize hN : l.length = N at *
    go_enter Try.func16, Try.ntmps16
    go_wp2_with (go_at_call 12; refine hck.mono ?_; clear hck; rintro e w1 ⟨rfl, k1⟩)
    go_loopw [6, 7] (fun v iv Wr => ∃ k : Nat, iv = .int .i64 (k : Int) ∧ k ≤ N ∧ Wr.ownsRow w.heap.size 3 1 v (outK l k).length (nvs (outK l k)) ∧ Keeps (fun _ => False) w Wr) (fun _ iv _ => N - (intOf iv).toNat)
    case atStart => exact ⟨0, rfl, Nat.zero_le _, World.ownsRow_nil _ _ _ _, k1⟩
    case round =>
      obtain ⟨k, rfl, hk, hown, kr⟩ := hrel
      clear k1 HSt
      have hle := outK_le l k
      by_cases hlt : k < N
      · have l1 : decide ((k : Int) < (N : Int)) = true := decide_eq_true (by omega)
        have l2 : (k : Int) < (N : Int) := by omega
        have l3 : (0 : Int) ≤ (k : Int) := by omega
        have l4 : decide (k < N) = true := decide_eq_true hlt
        obtain ⟨b, off, rfl, hc⟩ := hl k (by omega)
        have c25 := kr.cell (hc 25 _ rfl) (fun e => e)
        have HOK : Hid (outK l (k + 1) = if dec (l.getD k rw0).fin then outK l k ++ [(k : Int)] else outK l k) := rfl
        clear hc
        generalize l.getD k rw0 = r at *
        have hdc := fun W => outcome_any W r.fin
        generalize dec r.fin = dz at *
        obtain ⟨av, cv, rfl⟩ := owns_slice hown
        generalize hM : (outK l k).length = M at *
        generalize hO : outK l k = O at *
        cases dz
        · have HOK2 : outK l (k + 1) = O := HOK.out
          clear HOK
          go_wp2_with ((go_at_call 34; refine (hdc _).mono ?_; rintro e w9 ⟨rfl, ew⟩; subst w9))
          go_roundw
          case rel => exact ⟨k + 1, by go_num, by omega, by rw [HOK2, hM]; exact hown, kr⟩
          case measure => simp [intOf]; omega
        · have HOK2 : outK l (k + 1) = O ++ [(k : Int)] := HOK.out
          clear HOK
          obtain ⟨a', c', W', hr', ho', kq⟩ : ∃ a' c' W', (Builtin.append_ #[26, 26] 26 #[.slice av M cv, .slice (some ⟨wr.heap.size, 0, none⟩) 1 1]).run Try.prog (wr.alloc (.cells #[.int .i64 (k : Int)] 3)) = .ok (.slice a' (M + 1) c') W' ∧ W'.ownsRow w.heap.size 3 1 (.slice a' (M + 1) c') (M + 1) (nvs (O ++ [(k : Int)])) ∧ Keeps (fun i => (Value.slice av M cv).ownBlock = some i) wr W' := by
            obtain ⟨v', w', h1, h2, h3⟩ := append_n hown kr.size (by omega) (k : Int)
            obtain ⟨a', c', rfl⟩ := owns_slice h2
            exact ⟨a', c', w', h1, h2, h3⟩
          go_wp2_with (first | (go_at_call 34; refine (hdc _).mono ?_; rintro e w9 ⟨rfl, ew⟩; subst w9) | (at_builtin; refine wpList_append_run rfl _ _ _ rfl _ _ _ W' rfl rfl hr' ?_; clear hr'))
          have K9 : Keeps (fun _ => False) w W' := kr.trans' kq (fun _ _ e => e) (fun i hi e => by have := owns_base hown i e; omega)
          have eM : (outK l (k + 1)).length = M + 1 := by rw [HOK2, List.length_append, List.length_singleton, ← hM]
          go_roundw
          case rel => exact ⟨k + 1, by go_num, by omega, by rw [eM, HOK2]; exact ho', K9⟩
          case measure => simp [intOf]; omega
      · have e : k = N := by omega
        subst e
        have l1 : decide ((k : Int) < (k : Int)) = false := decide_eq_false (by omega)
        have l4 : decide (k < k) = false := decide_eq_false (by omega)
        obtain ⟨av, cv, rfl⟩ := owns_slice hown
        go_wp2
        go_ret2
        exact ⟨av, cv, rfl, hown, kr⟩
set_option maxHeartbeats 1000000 in
set_option maxRecDepth 100000 in
theorem ends_any {w : World} {a : Option Addr} {cap : Nat} {l : List Rw} (hl : RSL w a l) (hz : a = none → cap = 0) (hn : l.length ≤ 733007751829) : Calls Try.prog 9 #[.slice a l.length cap] w fun e w' => e = .returned (.bool true) ∧ Keeps (fun _ => False) w w' := by
  have hC := copied_any hl hz (by omega)
  have HR : Hid (∀ W a' cap', RSL W a' l → Calls Try.prog 16 #[.slice a' l.length cap'] W fun e w' => ∃ a' cap', e = .returned (.tuple #[.slice a' (outs l).length cap', .int .i64 (ansP (fstP l 0 (f0 6))).2]) ∧ w'.ownsRow W.heap.size 3 1 (.slice a' (outs l).length cap') (outs l).length (nvs (outs l)) ∧ Keeps (fun _ => False) W w') := fun W a' cap' h => routcomes_any h hn
  have HP : Hid (∀ W, Keeps (fun _ => False) w W → Calls Try.prog 17 #[.slice a l.length cap] W fun e w' => ∃ a' cap', e = .returned (.tuple #[.slice a' (outs l).length cap', .int .i64 (ansP (fstP l 0 (f0 6))).2]) ∧ w'.ownsRow W.heap.size 3 1 (.slice a' (outs l).length cap') (outs l).length (nvs (outs l)) ∧ Keeps (fun _ => False) W w') := fun W k => outcomes_any (hl.keep k) hn
  have hOl : (outs l).length ≤ 733007751829 := by
    unfold outs
    split
    · have := outK_le l l.length
      omega
    · show 0 ≤ _; omega
  generalize (ansP (fstP l 0 (f0 6))).2 = A2 at *
  have hnm := fun W => num_any W A2
  clear hl hz hn
  generalize hO : outs l = O at *
  generalize hM : O.length = M at *
  clear hO
  generalize l.length = N at *
  go_enter Try.func9, Try.ntmps9
  go_wp2_with (first | (go_at_call 13; refine hC.mono ?_; clear hC; rintro e w1 ⟨a1, cap1, rfl, hl1, k1⟩) | (go_at_call 16; refine (HR.out w1 a1 cap1 hl1).mono ?_; clear HR; rintro e w2 ⟨a2, c2, rfl, ho2, k2⟩) | (go_at_call 17; refine (HP.out w2 (k1.trans k2)).mono ?_; clear HP; rintro e w3 ⟨a3, c3, rfl, ho3, k3⟩; have ho2' := k3.owns ho2 (fun _ _ e => e); have K3 := (k1.trans k2).trans k3) | (go_at_call 15; refine (hnm _).mono ?_; rintro e w4 ⟨rfl, ew⟩; subst w4))
  clear ho2 k1 k2 k3 hl1 hnm
  go_loopw [7] (fun iv Wr => ∃ k : Nat, iv = .int .i64 (k : Int) ∧ k ≤ M ∧ Keeps (fun _ => False) w3 Wr) (fun iv _ => M - (intOf iv).toNat)
  case atStart => exact ⟨0, rfl, Nat.zero_le _, Keeps.refl _ w3⟩
  case round =>
    obtain ⟨k, rfl, hk, kr⟩ := hrel
    by_cases hlt : k < M
    · have l1 : decide ((k : Int) < (M : Int)) = true := decide_eq_true (by omega)
      have l2 : (k : Int) < (M : Int) := by omega
      have l3 : (0 : Int) ≤ (k : Int) := by omega
      have l4 : decide (k < M) = true := decide_eq_true hlt
      obtain ⟨x, hx⟩ : ∃ x, (nvs O)[k]? = some (.int .i64 x) := ⟨O[k]'(by omega), by unfold nvs; rw [List.getElem?_map, List.getElem?_eq_getElem (by omega)]; rfl⟩
      have pc : ∀ {a : Option Addr} {c base : Nat}, w3.ownsRow base 3 1 (.slice a M c) M (nvs O) → ∃ g, a = some ⟨g, 0, none⟩ ∧ wr.cell? ⟨g, 0 + k, none⟩ = some (.int .i64 x) := fun {a c base} h => by
        rcases h.2 with ⟨e, h0⟩ | ⟨g, cap, cur, e, _⟩
        · have hz : M = 0 := by first | exact h0.1 | omega
          omega
        · injection e with e1 e2 e3
          subst e1 e3
          refine ⟨g, rfl, ?_⟩
          have := h.cells (g := g) rfl k _ hx
          rw [add_at] at this
          exact kr.cell this (fun e => e)
      obtain ⟨g2, rfl, p2⟩ := pc ho2'
      obtain ⟨g3, rfl, p3⟩ := pc ho3
      rw [Nat.zero_add] at p2 p3
      clear pc hx
      go_wp2_with fail
      have hNE := ks_ne p2
      have q2 := ks_cell p2
      have q3 := ks_cell p3
      refine wp_region_ks (by kernel_rfl) (by kernel_rfl) ?_
      (repeat (go_big_quiet_step (fail)))
      refine wpQuiet_nil ?_
      rintro _ ⟨u, rfl⟩
      have K9 := kr.trans u.property
      clear q2 q3 hNE
      generalize u.val = wu at *
      go_wp2_with fail
      go_roundw
      case rel => exact ⟨k + 1, by go_num, by omega, K9⟩
      case measure => simp [intOf]; omega
    · have e : k = M := by omega
      subst e
      have l1 : decide ((k : Int) < (k : Int)) = false := decide_eq_false (by omega)
      have l4 : decide (k < k) = false := decide_eq_false (by omega)
      go_wp2
      go_ret
      exact ⟨rfl, K3.trans kr⟩
set_option maxHeartbeats 1000000 in
set_option maxRecDepth 100000 in
theorem houtcomes_any {w : World} {a : Option Addr} {cap : Nat} {l : List Rw} (hl : RSL w a l) (hn : l.length ≤ 733007751829) (hz : a = none → cap = 0) : Calls Try.prog 4 #[.slice a l.length cap] w fun e w' => e = .returned (.bool true) ∧ Below w.heap.size w w' := by
  have hlf := life_any w
  have HCk : Hid (∀ W, Keeps (fun _ => False) w W → Calls Try.prog 9 #[.slice a l.length cap] W fun e w' => e = .returned (.bool true) ∧ Keeps (fun _ => False) W w') := fun W k => ends_any (hl.keep k) hz hn
  clear hl hn hz
  generalize l.length = N at *
  go_enter Try.func4, Try.ntmps4
  go_wp2_with (first | (go_at_call 8; refine hlf.mono ?_; clear hlf; rintro e w1 ⟨l1, a1, cap1, rfl, hl6, hr1, hz1, k1⟩; have hck := ends_any hr1 hz1 (by omega); clear hl6 hr1 hz1; generalize l1.length = M at *) | (go_at_call 9; refine hck.mono ?_; clear hck; rintro e w2 ⟨rfl, k2⟩; have hck2 := HCk.out w2 (k1.trans k2)) | (go_at_call 9; refine hck2.mono ?_; clear hck2; rintro e w3 ⟨rfl, k3⟩))
  go_ret
  exact ⟨rfl, ((k1.trans k2).trans k3).below (Nat.le_refl _) (fun _ _ e => e)⟩
end Go.Proofs.Ytlaacojicoeneaa
