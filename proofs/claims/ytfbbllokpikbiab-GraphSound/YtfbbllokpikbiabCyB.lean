import Derived.Test.YtfbbllokpikbiabCyA
namespace Go.Proofs.Ytfbbllokpikbiab
open Go.RowKit Go.Deep
attribute [local go_sem] Oper.semAt_some run_store_nf run_store_f
set_option maxHeartbeats 600000 in
set_option maxRecDepth 100000 in
theorem index_any {w : World} {a : Option Addr} {cap : Nat} {L : List Nat} (hl : PM w a L) (hn : L.length ≤ 9223372036854775806) (x : Nat) : Calls Try.prog 35 #[.slice a L.length cap, .int .i64 (x : Int)] w fun e w' => ∃ r : Int, e = .returned (.int .i64 r) ∧ decide (0 ≤ r) = decide (x ∈ L) ∧ Keeps (fun _ => False) w w' := by
  have HL : Hid (PM w a L) := hl
  clear hl
  generalize hN : L.length = N at *
  have HN : Hid (L.length = N) := hN
  clear hN
  go_enter Try.func35, Try.ntmps35
  go_wp2_with fail
  go_loopw [8] (fun iv Wr => ∃ (i : Nat), iv = .int .i64 (i : Int) ∧ i ≤ N ∧ x ∉ L.take i ∧ Keeps (fun _ => False) w Wr) (fun iv _ => N - (intOf iv).toNat)
  case atStart => exact ⟨0, rfl, Nat.zero_le _, by simp, Keeps.refl _ _⟩
  case round =>
    obtain ⟨i, rfl, hi, hno, kr⟩ := hrel
    have HNO : Hid (x ∉ L.take i) := hno
    clear hno
    by_cases hlt : i < N
    · have j1 : decide ((i : Int) < (N : Int)) = true := decide_eq_true (by omega)
      have j2 : decide (i < N) = true := decide_eq_true hlt
      have j3 : (i : Int) < (N : Int) := by omega
      have j4 : (0 : Int) ≤ (i : Int) := by omega
      have hwi : IntKind.i64.wrap ((i : Int) + 1) = (i : Int) + 1 := by rw [IntKind.wrap_i64]; omega
      have hiS : i < L.length := by rw [HN.out]; exact hlt
      obtain ⟨b, off, rfl, hc⟩ := HL.out i hiS
      have c0 := kr.cell hc (fun e => e)
      have HTK : Hid (L.take (i + 1) = L.take i ++ [L.getD i 0]) := take_nextN hiS
      have HME : Hid (L.getD i 0 ∈ L) := by
        show _ ∈ _
        rw [List.getD_eq_getElem?_getD, List.getElem?_eq_getElem hiS]
        exact List.getElem_mem hiS
      clear hc hiS
      generalize L.getD i 0 = y at *
      by_cases hx : y = x
      · have q : ((x : Int) == (y : Int)) = true := by simp [hx]
        have q2 : (x == y) = true := by simp [hx]
        have HD : Hid (decide (0 ≤ (i : Int)) = decide (x ∈ L)) := by
          show _ = _
          have := HME.out
          rw [hx] at this
          rw [decide_eq_true this, decide_eq_true j4]
        clear hx
        go_wp2_with fail
        go_ret
        exact ⟨_, rfl, HD.out, kr⟩
      · have q : ((x : Int) == (y : Int)) = false := by simp; omega
        have q2 : (x == y) = false := by simp; omega
        go_wp2_with fail
        go_roundw
        case rel => exact ⟨i + 1, by go_num, by omega, by rw [HTK.out]; simp; exact ⟨HNO.out, fun e => hx e.symm⟩, kr⟩
        case measure => simp [intOf]; omega
    · have j1 : decide ((i : Int) < (N : Int)) = false := decide_eq_false (by omega)
      have j2 : decide (i < N) = false := decide_eq_false hlt
      have HD : Hid (decide ((0 : Int) ≤ -1) = decide (x ∈ L)) := by
        show _ = _
        have h := HNO.out
        rw [List.take_of_length_le (by rw [HN.out]; omega)] at h
        rw [decide_eq_false h]
        rfl
      go_wp2_with fail
      go_ret
      exact ⟨_, rfl, HD.out, kr⟩
set_option maxHeartbeats 600000 in
set_option maxRecDepth 100000 in
theorem contains_any {w : World} {a : Option Addr} {cap : Nat} {L : List Nat} (hl : PM w a L) (hn : L.length ≤ 9223372036854775806) (x : Nat) : Calls Try.prog 20 #[.slice a L.length cap, .int .i64 (x : Int)] w fun e w' => e = .returned (.bool (decide (x ∈ L))) ∧ Keeps (fun _ => False) w w' := by
  have hix := index_any (cap := cap) hl hn x
  generalize L.length = N at *
  generalize decide (x ∈ L) = d at *
  go_enter Try.func20, Try.ntmps20
  go_wp2_with (go_at_call 35; refine hix.mono ?_; clear hix; rintro e w1 ⟨r, rfl, hr, k1⟩)
  go_ret
  exact ⟨by rw [← hr]; rfl, k1⟩
def orI (x y : Int) : Int := if x = 0 then y else x
set_option maxHeartbeats 1500000 in
set_option maxRecDepth 100000 in
theorem or2_any {w : World} {b : Nat} (x y : Int) (c0 : w.cell? ⟨b, 0, none⟩ = some (.int .i64 x)) (c1 : w.cell? ⟨b, 1, none⟩ = some (.int .i64 y)) : Calls Try.prog 37 #[.slice (some ⟨b, 0, none⟩) 2 2] w fun e w' => e = .returned (.int .i64 (orI x y)) ∧ w' = w := by
  have HX : Hid (x ≠ 0 → orI x y = x) := fun h => by unfold orI; rw [if_neg h]
  have HY : Hid (x = 0 → orI x y = y) := fun h => by unfold orI; rw [if_pos h]
  generalize orI x y = z at *
  go_enter Try.func37, Try.ntmps37
  go_wp2_with fail
  go_loopg [8] 2 (fun gh iv Wr => Wr = w ∧ ((gh = 2 ∧ iv = .int .i64 0) ∨ (gh = 1 ∧ iv = .int .i64 1 ∧ x = 0) ∨ (gh = 0 ∧ iv = .int .i64 2 ∧ x = 0 ∧ y = 0)))
  case atStart => exact ⟨rfl, .inl ⟨rfl, rfl⟩⟩
  case round =>
    obtain ⟨rfl, ⟨hg, rfl⟩ | ⟨hg, rfl, hx⟩ | ⟨hg, rfl, hx, hy⟩⟩ := hrel
    · by_cases h : x = 0
      · have s1 : (x == 0) = true := by simp [h]
        have s2 : (x != 0) = false := by simp [h]
        go_wp2_with fail
        go_roundg 1
        case measure => omega
        case rel => exact ⟨rfl, .inr (.inl ⟨rfl, rfl, h⟩)⟩
      · have s1 : (x == 0) = false := by simp [h]
        have s2 : (x != 0) = true := by simp [h]
        have e := HX.out h
        go_wp2_with fail
        go_ret
        exact ⟨by rw [e]; rfl, rfl⟩
    · have e := HY.out hx
      by_cases h : y = 0
      · have s1 : (y == 0) = true := by simp [h]
        have s2 : (y != 0) = false := by simp [h]
        go_wp2_with fail
        go_roundg 0
        case measure => omega
        case rel => exact ⟨rfl, .inr (.inr ⟨rfl, rfl, hx, h⟩)⟩
      · have s1 : (y == 0) = false := by simp [h]
        have s2 : (y != 0) = true := by simp [h]
        go_wp2_with fail
        go_ret
        exact ⟨by rw [e]; rfl, rfl⟩
    · have e := HY.out hx
      go_wp2_with fail
      go_ret
      exact ⟨by rw [e, hy]; rfl, rfl⟩
theorem wp_call2 (f : Nat) {o : Oper} {a : Act} {w : World} {K : Act → World → Prop} {Q : Exit → Act → World → Prop} (x y : Tmp) {t1 t2 : TypeId} (ho : o.op = .call { callee := .value (.func f), args := #[.tmp x, .tmp y], argTypes := #[t1, t2] }) (v1 v2 : Value) (hx : a.tmps[x]?.getD undef = v1) (hy : a.tmps[y]?.getD undef = v2) (hcf : ∀ args w, (callFunc f args).run Try.prog w = .ok (.enter f args) w) (h : Calls Try.prog f #[v1, v2] w (fun e w' => ∃ v, e = .returned v ∧ K (a.put o.dst v) w')) : o.wp Try.prog a w K Q := by
  unfold Oper.wp execOp
  simp only [ho]
  go_simp
  refine h.mono ?_
  rintro e w' ⟨v, rfl, h⟩
  exact h
theorem wp_call1 (f : Nat) {o : Oper} {a : Act} {w : World} {K : Act → World → Prop} {Q : Exit → Act → World → Prop} (x : Tmp) {t1 : TypeId} (ho : o.op = .call { callee := .value (.func f), args := #[.tmp x], argTypes := #[t1] }) (v1 : Value) (hx : a.tmps[x]?.getD undef = v1) (hcf : ∀ args w, (callFunc f args).run Try.prog w = .ok (.enter f args) w) (h : Calls Try.prog f #[v1] w (fun e w' => ∃ v, e = .returned v ∧ K (a.put o.dst v) w')) : o.wp Try.prog a w K Q := by
  unfold Oper.wp execOp
  simp only [ho]
  go_simp
  refine h.mono ?_
  rintro e w' ⟨v, rfl, h⟩
  exact h
theorem wp_build2K {o : Oper} {a : Act} {w : World} {K : Act → World → Prop} {Q : Exit → Act → World → Prop} (x y : Operand) (ho : o.op = .buildSlice 23 2 #[(0, x), (1, y)]) (n n2 : Int) (hx : a.eval x = .int .i64 n) (hy : a.eval y = .int .i64 n2)
    (h : K (a.put o.dst (.slice (some ⟨w.heap.size, 0, none⟩) 2 2)) (w.alloc (.cells #[.int .i64 n, .int .i64 n2] 3))) : o.wp Try.prog a w K Q := by
  obtain ⟨i0, hi0, hzz⟩ := Option.map_eq_some_iff.1 iI
  simp only [Prod.mk.injEq] at hzz
  obtain ⟨hz0, hz1, -⟩ := hzz
  refine wp_buildSlice 23 3 2 _ ho #[.int .i64 n, .int .i64 n2] i0 _ uI hi0 hz0 (by rw [hz1]; decide) (by rw [hz1]; decide) ?_ h
  rw [hz1]
  have e : (#[(0, x), (1, y)].map fun (i, x) => (i, a.eval x)).toList = ([Value.int .i64 n, Value.int .i64 n2].zipIdx 0).map fun x => (x.2, x.1) := by simp [hx, hy]
  have e2 : ([Value.int .i64 n, Value.int .i64 n2].flatMap fun v => v.cells.toList).toArray = #[.int .i64 n, .int .i64 n2] := by simp; rfl
  rw [e, Great.fill_whole (s := 1) (by decide) [Value.int .i64 n, Value.int .i64 n2] _ (fun v hv => by simp at hv; rcases hv with rfl | rfl <;> rfl) (by simp), e2]
/-- What the closure reads. -/
structure NS (W : World) (bx fb m x y : Nat) (fx fy : Int) : Prop where
  c0 : W.cell? ⟨bx, 0, none⟩ = some (.slice (some ⟨fb, 0, none⟩) m m)
  cx : W.cell? ⟨fb, x, none⟩ = some (.int .i64 fx)
  cy : W.cell? ⟨fb, y, none⟩ = some (.int .i64 fy)
theorem NS.keep {W W' : World} {bx fb m x y : Nat} {fx fy : Int} (h : NS W bx fb m x y fx fy) (k : Keeps (fun _ => False) W W') : NS W' bx fb m x y fx fy := ⟨k.cell h.c0 (fun e => e), k.cell h.cx (fun e => e), k.cell h.cy (fun e => e)⟩
/-- Nearer, or as near and less. -/
def Nr (f : Nat → Nat) (v t : Nat) : Prop := f v < f t ∨ (f v = f t ∧ v < t)
theorem or_nr (f : Nat → Nat) (x y : Nat) : orI (Lib.compareInt (f x : Int) (f y : Int)) (Lib.compareInt (x : Int) (y : Int)) < 0 ↔ Nr f x y := by
  unfold orI Lib.compareInt Nr
  split <;> (repeat' split) <;> omega
set_option maxHeartbeats 1500000 in
set_option maxRecDepth 100000 in
theorem near_any {w : World} {bx fb m : Nat} {f : Nat → Nat} (h0 : w.cell? ⟨bx, 0, none⟩ = some (.slice (some ⟨fb, 0, none⟩) m m)) (hF : FB w fb m (nms f)) {x y : Nat} (hx : x < m) (hy : y < m) : Calls Try.prog 36 #[.int .i64 (x : Int), .int .i64 (y : Int), .pointer (some ⟨bx, 0, none⟩)] w fun e w' => ∃ r : Int, e = .returned (.int .i64 r) ∧ (r < 0 ↔ Nr f x y) ∧ Keeps (fun _ => False) w w' := by
  have hcx : w.cell? ⟨fb, x, none⟩ = some (.int .i64 (f x : Int)) := hF.c x hx
  have hcy : w.cell? ⟨fb, y, none⟩ = some (.int .i64 (f y : Int)) := hF.c y hy
  have kd : Keeps (fun _ => False) w w.drew := (Keeps.refl _ w).drew
  have hS0 : NS w.drew bx fb m x y (f x : Int) (f y : Int) := (NS.mk h0 hcx hcy).keep kd
  have HNR : Hid (orI (Lib.compareInt (f x : Int) (f y : Int)) (Lib.compareInt (x : Int) (y : Int)) < 0 ↔ Nr f x y) := or_nr f x y
  have hc1 := fun w => compare_anyL (f x : Int) (f y : Int) w
  have hc2 := fun w => compare_anyL (x : Int) (y : Int) w
  clear hcx hcy h0 hF
  generalize Lib.compareInt (f x : Int) (f y : Int) = r1 at *
  generalize Lib.compareInt (x : Int) (y : Int) = r2 at *
  obtain ⟨W2, hW2⟩ : ∃ W2, W2 = w.drew.alloc (.cells #[.int .i64 r1, .int .i64 r2] 3) := ⟨_, rfl⟩
  have k2 : Keeps (fun _ => False) w.drew W2 := by rw [hW2]; exact (Keeps.refl _ w.drew).alloc _
  have hS2 : NS W2 bx fb m x y (f x : Int) (f y : Int) := hS0.keep k2
  have hcl : CL W2 w.drew.heap.size [.int .i64 r1, .int .i64 r2] := by rw [hW2]; exact CL.made w.drew [.int .i64 r1, .int .i64 r2] 3
  have hor := or2_any r1 r2 (hcl.c 0 _ rfl) (hcl.c 1 _ rfl)
  have HEND : Hid (∃ r : Int, Ending.returned (.int .i64 (orI r1 r2)) = .returned (.int .i64 r) ∧ (r < 0 ↔ Nr f x y) ∧ Keeps (fun _ => False) w W2) := ⟨_, rfl, HNR.out, kd.trans k2⟩
  clear HNR kd k2 hcl
  subst hW2
  have i1 : (0 : Int) ≤ (x : Int) := by omega
  have i2 : (x : Int) < (m : Int) := by omega
  have i3 : (0 : Int) ≤ (y : Int) := by omega
  have i4 : (y : Int) < (m : Int) := by omega
  generalize (f x : Int) = fx at *
  generalize (f y : Int) = fy at *
  generalize orI r1 r2 = ro at *
  go_enter Try.func36, Try.ntmps36
  go_wp2_with fail
  refine wp_region_held_drew (S := fun W => NS W bx fb m x y fx fy) (by kernel_rfl) hS0 (fun hHeld => ?_)
  refine wpAnyH_take (i := 0) (v := ?_) rfl (by kernel_rfl) (by kernel_rfl) (by kernel_rfl) (fun _ _ _ h => h) (Or.inl ⟨by rfl, ?_⟩) (by assumption) ?_
  rotate_left
  · intro wx hSw; have q0 := hSw.c0; have q1 := hSw.cx; have q2 := hSw.cy; clear hSw; go_simp <;> with_reducible rfl
  (try simp only [List.getElem_toArray]); (try simp only [List.getElem_cons_succ]); (try simp only [List.getElem_cons_zero]); (try simp only [Act.put]); (try simp only [List.setIfInBounds_toArray]); (repeat first | simp only [List.set_cons_succ] | simp only [List.set_cons_zero])
  refine wpAnyH_take (i := 1) (v := ?_) rfl (by kernel_rfl) (by kernel_rfl) (by kernel_rfl) (fun _ _ _ h => h) (Or.inl ⟨by rfl, ?_⟩) (by assumption) ?_
  rotate_left
  · intro wx hSw; clear hSw; go_simp <;> with_reducible rfl
  (try simp only [List.getElem_toArray]); (try simp only [List.getElem_cons_succ]); (try simp only [List.getElem_cons_zero]); (try simp only [Act.put]); (try simp only [List.setIfInBounds_toArray]); (repeat first | simp only [List.set_cons_succ] | simp only [List.set_cons_zero])
  refine wpAnyH_take (i := 2) (v := ?_) rfl (by kernel_rfl) (by kernel_rfl) (by kernel_rfl) (fun _ _ _ h => h) (Or.inl ⟨by rfl, ?_⟩) (by assumption) ?_
  rotate_left
  · intro wx hSw; clear hSw; go_simp <;> with_reducible rfl
  (try simp only [List.getElem_toArray]); (try simp only [List.getElem_cons_succ]); (try simp only [List.getElem_cons_zero]); (try simp only [Act.put]); (try simp only [List.setIfInBounds_toArray]); (repeat first | simp only [List.set_cons_succ] | simp only [List.set_cons_zero])
  refine wpAnyH_take (i := 3) (v := ?_) rfl (by kernel_rfl) (by kernel_rfl) (by kernel_rfl) (fun _ _ _ h => h) (Or.inl ⟨by rfl, ?_⟩) (by assumption) ?_
  rotate_left
  · intro wx hSw; have q0 := hSw.c0; have q1 := hSw.cx; have q2 := hSw.cy; clear hSw; go_simp <;> with_reducible rfl
  (try simp only [List.getElem_toArray]); (try simp only [List.getElem_cons_succ]); (try simp only [List.getElem_cons_zero]); (try simp only [Act.put]); (try simp only [List.setIfInBounds_toArray]); (repeat first | simp only [List.set_cons_succ] | simp only [List.set_cons_zero])
  refine wpAnyH_take (i := 4) (v := ?_) rfl (by kernel_rfl) (by kernel_rfl) (by kernel_rfl) (fun _ _ _ h => h) (Or.inl ⟨by rfl, ?_⟩) (by assumption) ?_
  rotate_left
  · intro wx hSw; have q0 := hSw.c0; have q1 := hSw.cx; have q2 := hSw.cy; clear hSw; go_simp <;> with_reducible rfl
  (try simp only [List.getElem_toArray]); (try simp only [List.getElem_cons_succ]); (try simp only [List.getElem_cons_zero]); (try simp only [Act.put]); (try simp only [List.setIfInBounds_toArray]); (repeat first | simp only [List.set_cons_succ] | simp only [List.set_cons_zero])
  refine wpAnyH_take (i := 5) (v := ?_) rfl (by kernel_rfl) (by kernel_rfl) (by kernel_rfl) (fun _ _ _ h => h) (Or.inl ⟨by rfl, ?_⟩) (by assumption) ?_
  rotate_left
  · intro wx hSw; clear hSw; go_simp <;> with_reducible rfl
  (try simp only [List.getElem_toArray]); (try simp only [List.getElem_cons_succ]); (try simp only [List.getElem_cons_zero]); (try simp only [Act.put]); (try simp only [List.setIfInBounds_toArray]); (repeat first | simp only [List.set_cons_succ] | simp only [List.set_cons_zero])
  refine wpAnyH_take (i := 6) (v := ?_) rfl (by kernel_rfl) (by kernel_rfl) (by kernel_rfl) (fun _ _ _ h => h) (Or.inl ⟨by rfl, ?_⟩) (by assumption) ?_
  rotate_left
  · intro wx hSw; clear hSw; go_simp <;> with_reducible rfl
  (try simp only [List.getElem_toArray]); (try simp only [List.getElem_cons_succ]); (try simp only [List.getElem_cons_zero]); (try simp only [Act.put]); (try simp only [List.setIfInBounds_toArray]); (repeat first | simp only [List.set_cons_succ] | simp only [List.set_cons_zero])
  refine wpAnyH_take (i := 7) (v := ?_) rfl (by kernel_rfl) (by kernel_rfl) (by kernel_rfl) (fun _ _ _ h => h) (Or.inl ⟨by rfl, ?_⟩) (by assumption) ?_
  rotate_left
  · intro wx hSw; have q0 := hSw.c0; have q1 := hSw.cx; have q2 := hSw.cy; clear hSw; go_simp <;> with_reducible rfl
  (try simp only [List.getElem_toArray]); (try simp only [List.getElem_cons_succ]); (try simp only [List.getElem_cons_zero]); (try simp only [Act.put]); (try simp only [List.setIfInBounds_toArray]); (repeat first | simp only [List.set_cons_succ] | simp only [List.set_cons_zero])
  refine wpAnyH_take (i := 9) (v := ?_) rfl (by kernel_rfl) (by kernel_rfl) (by kernel_rfl) (fun _ _ _ h => h) (Or.inl ⟨by rfl, ?_⟩) (by assumption) ?_
  rotate_left
  · intro wx hSw; clear hSw; go_simp <;> with_reducible rfl
  (try simp only [List.getElem_toArray]); (try simp only [List.getElem_cons_succ]); (try simp only [List.getElem_cons_zero]); (try simp only [Act.put]); (try simp only [List.setIfInBounds_toArray]); (repeat first | simp only [List.set_cons_succ] | simp only [List.set_cons_zero])
  refine wpAnyH_take (i := 10) (v := ?_) rfl (by kernel_rfl) (by kernel_rfl) (by kernel_rfl) (fun _ _ _ h => h) (Or.inl ⟨by rfl, ?_⟩) (by assumption) ?_
  rotate_left
  · intro wx hSw; clear hSw; go_simp <;> with_reducible rfl
  (try simp only [List.getElem_toArray]); (try simp only [List.getElem_cons_succ]); (try simp only [List.getElem_cons_zero]); (try simp only [Act.put]); (try simp only [List.setIfInBounds_toArray]); (repeat first | simp only [List.set_cons_succ] | simp only [List.set_cons_zero])
  refine wpAnyH_one 8 (by kernel_rfl) rfl rfl ?_
  refine wp_call2 34 _ _ rfl _ _ rfl rfl (fun _ _ => rfl) ((hc1 _).mono ?_)
  rintro e w9 ⟨rfl, rfl⟩
  refine ⟨_, rfl, by assumption, fun _ => ?_⟩
  (try simp only [List.getElem_toArray]); (try simp only [List.getElem_cons_succ]); (try simp only [List.getElem_cons_zero]); (try simp only [Act.put]); (try simp only [List.setIfInBounds_toArray]); (repeat first | simp only [List.set_cons_succ] | simp only [List.set_cons_zero])
  refine wpAnyH_one 11 (by kernel_rfl) rfl rfl ?_
  refine wp_call2 34 _ _ rfl _ _ rfl rfl (fun _ _ => rfl) ((hc2 _).mono ?_)
  rintro e w9 ⟨rfl, rfl⟩
  refine ⟨_, rfl, by assumption, fun _ => ?_⟩
  (try simp only [List.getElem_toArray]); (try simp only [List.getElem_cons_succ]); (try simp only [List.getElem_cons_zero]); (try simp only [Act.put]); (try simp only [List.setIfInBounds_toArray]); (repeat first | simp only [List.set_cons_succ] | simp only [List.set_cons_zero])
  refine wpAnyH_one 12 (by kernel_rfl) rfl rfl ?_
  refine wp_build2K _ _ rfl _ _ rfl rfl ?_
  refine ⟨hS2, fun _ => ?_⟩
  (try simp only [List.getElem_toArray]); (try simp only [List.getElem_cons_succ]); (try simp only [List.getElem_cons_zero]); (try simp only [Act.put]); (try simp only [List.setIfInBounds_toArray]); (repeat first | simp only [List.set_cons_succ] | simp only [List.set_cons_zero])
  refine wpAnyH_one 13 (by kernel_rfl) rfl rfl ?_
  refine wp_call1 37 _ rfl _ rfl (fun _ _ => rfl) (hor.mono ?_)
  rintro e w9 ⟨rfl, rfl⟩
  refine ⟨_, rfl, hS2, fun _ => ?_⟩
  (try simp only [List.getElem_toArray]); (try simp only [List.getElem_cons_succ]); (try simp only [List.getElem_cons_zero]); (try simp only [Act.put]); (try simp only [List.setIfInBounds_toArray]); (repeat first | simp only [List.set_cons_succ] | simp only [List.set_cons_zero])
  refine wpAnyH_take (i := 14) (v := ?_) rfl (by kernel_rfl) (by kernel_rfl) (by kernel_rfl) (fun _ _ _ h => h) (Or.inl ⟨by rfl, ?_⟩) (by assumption) ?_
  rotate_left
  · intro wx hSw; clear hSw; go_simp <;> with_reducible rfl
  (try simp only [List.getElem_toArray]); (try simp only [List.getElem_cons_succ]); (try simp only [List.getElem_cons_zero]); (try simp only [Act.put]); (try simp only [List.setIfInBounds_toArray]); (repeat first | simp only [List.set_cons_succ] | simp only [List.set_cons_zero])
  refine wpAnyH_done (by kernel_rfl) ?_ _
  go_wp2_with fail
  go_ret
  exact HEND.out
set_option maxHeartbeats 1500000 in
set_option maxRecDepth 100000 in
theorem minFunc_any {w : World} {bx fb m cap : Nat} {f : Nat → Nat} {a : Option Addr} {L : List Nat} (h0 : w.cell? ⟨bx, 0, none⟩ = some (.slice (some ⟨fb, 0, none⟩) m m)) (hF : FB w fb m (nms f)) (hL : PM w a L) (hp : 0 < L.length) (hn : L.length ≤ 4398046511104) (hm : ∀ x ∈ L, x < m) : Calls Try.prog 38 #[.slice a L.length cap, .func (.func 36) #[] #[.pointer (some ⟨bx, 0, none⟩)]] w fun e w' => ∃ v : Nat, e = .returned (.int .i64 (v : Int)) ∧ v ∈ L ∧ (∀ t ∈ L, f v < f t ∨ (f v = f t ∧ v ≤ t)) ∧ Keeps (fun _ => False) w w' := by
  have HNE : Hid (∀ W, Keeps (fun _ => False) w W → ∀ x y, x ∈ L → y ∈ L → Calls Try.prog 36 #[.int .i64 (x : Int), .int .i64 (y : Int), .pointer (some ⟨bx, 0, none⟩)] W fun e w' => ∃ r : Int, e = .returned (.int .i64 r) ∧ (r < 0 ↔ Nr f x y) ∧ Keeps (fun _ => False) W w') := fun W k x y hx hy => near_any (k.cell h0 (fun e => e)) (hF.keep k (fun e => e)) (hm x hx) (hm y hy)
  have HL : Hid (PM w a L) := hL
  obtain ⟨b, off, rfl, hc0⟩ := hL 0 hp
  have HV0 : Hid (L.getD 0 0 ∈ L) := getD_memN hp
  have HT1 : Hid (L.take 1 = [L.getD 0 0]) := by have := take_nextN hp; rw [Nat.zero_add, List.take_zero, List.nil_append] at this; exact this
  clear hL h0 hF hm
  generalize hN : L.length = N at *
  have HN : Hid (L.length = N) := hN
  clear hN
  have d0 : decide ((N : Int) < 1) = false := decide_eq_false (by omega)
  have d1 : decide (N < 1) = false := decide_eq_false (by omega)
  have d2 : (0 : Int) < (N : Int) := by omega
  have d3 : ¬ (N : Int) < 1 := by omega
  rw [Nat.add_zero] at hc0
  generalize L.getD 0 0 = v0 at *
  go_enter Try.func38, Try.ntmps38
  go_wp2_with fail
  go_loopw [5, 6] (fun mv iv Wr => ∃ (v i : Nat), mv = .int .i64 (v : Int) ∧ iv = .int .i64 (i : Int) ∧ i ≤ N ∧ v ∈ L ∧ (∀ t ∈ L.take i, f v < f t ∨ (f v = f t ∧ v ≤ t)) ∧ Keeps (fun _ => False) w Wr) (fun _ iv _ => N - (intOf iv).toNat)
  case atStart => exact ⟨v0, 1, rfl, rfl, by omega, HV0.out, fun t ht => by rw [HT1.out] at ht; simp at ht; subst ht; exact .inr ⟨rfl, Nat.le_refl _⟩, Keeps.refl _ _⟩
  case round =>
    obtain ⟨v, i, rfl, rfl, hi, hvm, hmin, kr⟩ := hrel
    have HVM : Hid (v ∈ L) := hvm
    have HMI : Hid (∀ t ∈ L.take i, f v < f t ∨ (f v = f t ∧ v ≤ t)) := hmin
    clear hvm hmin hc0
    by_cases hlt : i < N
    · have j1 : decide ((i : Int) < (N : Int)) = true := decide_eq_true (by omega)
      have j2 : decide (i < N) = true := decide_eq_true hlt
      have j3 : (i : Int) < (N : Int) := by omega
      have j4 : (0 : Int) ≤ (i : Int) := by omega
      have hwi : IntKind.i64.wrap ((i : Int) + 1) = (i : Int) + 1 := by rw [IntKind.wrap_i64]; omega
      have hiL : i < L.length := by rw [HN.out]; exact hlt
      obtain ⟨b', off', e', hc⟩ := HL.out i hiL
      injection e' with e'
      injection e' with e1 e2 _
      subst e1 e2
      have c0 := kr.cell hc (fun e => e)
      have HTK : Hid (L.take (i + 1) = L.take i ++ [L.getD i 0]) := take_nextN hiL
      have HME : Hid (L.getD i 0 ∈ L) := getD_memN hiL
      clear hc hiL
      generalize L.getD i 0 = x at *
      have hne := HNE.out wr kr x v HME.out HVM.out
      by_cases hnr : Nr f x v
      · have HM2 : Hid (∀ t ∈ L.take (i + 1), f x < f t ∨ (f x = f t ∧ x ≤ t)) := fun t ht => by
          rw [HTK.out] at ht
          rcases List.mem_append.1 ht with ht | ht
          · have := HMI.out t ht
            unfold Nr at hnr
            omega
          · simp at ht; subst ht; exact .inr ⟨rfl, Nat.le_refl _⟩
        go_wp2_with (go_at_call 36; refine hne.mono ?_; clear hne; rintro e w2 ⟨r, rfl, hr, k2⟩; have t1 : decide (r < 0) = true := decide_eq_true (hr.2 hnr); have t2 : r < 0 := hr.2 hnr; have c2 := k2.cell c0 (fun e => e); clear hr hnr)
        go_roundw
        case rel => exact ⟨x, i + 1, rfl, by go_num, by omega, HME.out, HM2.out, kr.trans k2⟩
        case measure => simp [intOf]; omega
      · have HM2 : Hid (∀ t ∈ L.take (i + 1), f v < f t ∨ (f v = f t ∧ v ≤ t)) := fun t ht => by
          rw [HTK.out] at ht
          rcases List.mem_append.1 ht with ht | ht
          · exact HMI.out t ht
          · simp at ht
            subst ht
            unfold Nr at hnr
            omega
        go_wp2_with (go_at_call 36; refine hne.mono ?_; clear hne; rintro e w2 ⟨r, rfl, hr, k2⟩; have t1 : decide (r < 0) = false := decide_eq_false (fun q => hnr (hr.1 q)); have t2 : ¬ r < 0 := fun q => hnr (hr.1 q); clear hr hnr)
        go_roundw
        case rel => exact ⟨v, i + 1, rfl, by go_num, by omega, HVM.out, HM2.out, kr.trans k2⟩
        case measure => simp [intOf]; omega
    · have j1 : decide ((i : Int) < (N : Int)) = false := decide_eq_false (by omega)
      have j2 : decide (i < N) = false := decide_eq_false hlt
      go_wp2_with fail
      go_ret
      exact ⟨v, rfl, HVM.out, fun t ht => HMI.out t (by rw [List.take_of_length_le (by rw [HN.out]; omega)]; exact ht), kr⟩
end Go.Proofs.Ytfbbllokpikbiab
