import Derived.Test.YtmcchconnfoffaaCmPatW
namespace Go.Proofs.Ytmcchconnfoffaa
open Go.RowKit
theorem i32_of_wf {a : Int} (h : (Lit.int .i32 a).wf = true) : -2147483648 ≤ a ∧ a ≤ 2147483647 := by
  simp [Lit.wf, IntKind.min, IntKind.max, IntKind.signed, IntKind.bits] at h
  omega
theorem and3 (a : Int) : ∃ n : Nat, n < 4 ∧ bits .and .i64 a 3 = (n : Int) := by
  have h := low_and 2 (by omega) a
  have h1 := lowz_nn 2 a
  have h2 := lowz_lt 2 a
  exact ⟨(lowz 2 a).toNat, by omega, by rw [Int.toNat_of_nonneg h1]; exact h⟩
/-- A conflict of two of 32 bits. -/
def cfm (m th t d : Int) (f : Bool) : Cf := ⟨m, th, m, th, f, t, 0, d⟩
theorem more_v {K : Nat} (hK : K < 3) (m th t d : Int) : judgev K 4096 (cfm m th t d false).norm = match rulv K (cfm m th (max t 0) d false) with | none => .ab | some n => .wt n := by
  rw [judge_rul (by omega)]
  have e : (cfm m th t d false).norm = cfm m th (max t 0) d false := by simp [cfm, Cf.norm]
  rw [e]
  cases hr : rulv K (cfm m th (max t 0) d false) with
  | none => rfl
  | some n =>
    have hn := rul_form (by omega) (show 0 ≤ (cfm m th (max t 0) d false).tries by simp only [cfm]; omega) hr
    have hl : lng K ≤ 128 := by match K, hK with | 0, _ | 1, _ | 2, _ => simp [lng]
    have h4 : K < 4 := by omega
    simp only [h4, if_true]
    rw [cut_wt (by simp [cfm])]
    congr 1
    simp [cfm]
    omega
/-- Whether it aborts. -/
theorem more_n {K : Nat} (hK : K < 3) (m th t d : Int) : rulv K (cfm m th t d false) = none ↔ (K = 0 ∧ 8 ≤ t) ∨ (K ≠ 0 ∧ th < clamp (m + t)) := by
  match K, hK with
  | 0, _ => by_cases h : 8 ≤ t <;> simp [rulv, cfm, h]
  | 1, _ => by_cases h : th < clamp (m + t) <;> simp [rulv, cfm, outr, h]
  | 2, _ => by_cases h : th < clamp (m + t) <;> simp [rulv, cfm, outr, h]
theorem more_ab {K : Nat} (hK : K < 3) {m th t d : Int} (h : (K = 0 ∧ 8 ≤ max t 0) ∨ (K ≠ 0 ∧ th < clamp (m + max t 0))) : judgev K 4096 (cfm m th t d false).norm = .ab := by
  rw [more_v hK, (more_n hK m th (max t 0) d).2 h]
/-- The verdict, and what one more try makes of it. -/
theorem more_one {K : Nat} (hK : K < 3) (m th t d : Int) (hm : -2147483648 ≤ m ∧ m ≤ 2147483647) : (judgev K 4096 (cfm m th t d false).norm = .ab ∧ judgev K 4096 (cfm m th (t + 1) d false).norm = .ab) ∨ ∃ n, judgev K 4096 (cfm m th t d false).norm = .wt n := by
  rw [more_v hK m th t d]
  cases hr : rulv K (cfm m th (max t 0) d false) with
  | none =>
    refine .inl ⟨rfl, more_ab hK ?_⟩
    rcases (more_n hK _ _ _ _).1 hr with ⟨h, h1⟩ | ⟨h, h1⟩
    · exact .inl ⟨h, by omega⟩
    · refine .inr ⟨h, ?_⟩
      unfold clamp at *
      split at h1 <;> split <;> omega
  | some n => exact .inr ⟨n, rfl⟩
theorem more_eq {K : Nat} (hK : K < 3) (h0 : K ≠ 0) {m th d : Int} (ht : -2147483648 ≤ th ∧ th ≤ 2147483647) (hle : m ≤ th) : ∃ n, judgev K 4096 (cfm m th (th - m) d false).norm = .wt n := by
  rw [more_v hK]
  cases hr : rulv K (cfm m th (max (th - m) 0) d false) with
  | none =>
    rcases (more_n hK _ _ _ _).1 hr with ⟨h, h1⟩ | ⟨h, h1⟩
    · exact absurd h h0
    · exfalso
      rw [show m + max (th - m) 0 = th by omega] at h1
      unfold clamp at h1
      split at h1 <;> omega
  | some n => exact ⟨n, rfl⟩
/-- A conflict's block may be written. -/
def CW (w : World) (b : Nat) (c : Cf) : Prop := CB w b c ∧ w.frozen? ⟨b, 5, none⟩ = false ∧ w.frozen? ⟨b, 4, none⟩ = false
theorem CW.keep {w w' : World} {b : Nat} {c : Cf} (h : CW w b c) (k : Keeps (fun _ => False) w w') : CW w' b c :=
  have hl : b < w.heap.size := World.block_lt_of_cell? w _ h.1.1
  ⟨h.1.keep k, (k.frozen (p := ⟨b, 5, none⟩) hl id).trans h.2.1, (k.frozen (p := ⟨b, 4, none⟩) hl id).trans h.2.2⟩
theorem keeps_set (w : World) (b o : Nat) (v : Value) : Keeps (fun k => k = b) w (w.setCell ⟨b, o, none⟩ v) := Keeps.setCell (S := fun k => k = b) (Keeps.refl _ w) (p := ⟨b, o, none⟩) (fun _ => rfl) v
theorem CW.mk (w : World) (c : Cf) : CW (w.alloc (.cells #[.int .i64 c.mine, .int .i64 c.theirs, .int .i64 c.born, .int .i64 c.enemy, .bool c.flag, .int .i64 c.tries, .int .i64 c.waited, .int .i64 c.draw] 25)) w.heap.size c :=
  ⟨CB.mk w c, by simp, by simp⟩
theorem CW.set {w : World} {b : Nat} {c : Cf} (h : CW w b c) (t : Int) : CW (w.setCell ⟨b, 5, none⟩ (.int .i64 t)) b { c with tries := t } := by
  obtain ⟨⟨c0, c1, c2, c3, c4, c5, c6, c7⟩, z5, z4⟩ := h
  refine ⟨⟨?_, ?_, ?_, ?_, ?_, ?_, ?_, ?_⟩, ?_, ?_⟩ <;> go_simp
theorem Mg.lt {w : World} {b k : Nat} {p : Int} (h : Mg w b k p) : b < w.heap.size := World.block_lt_of_cell? _ _ h.2.2
theorem Mg.set {w : World} {b k : Nat} {p : Int} (h : Mg w b k p) {bc o : Nat} (hn : bc ≠ b) (v : Value) : Mg (w.setCell ⟨bc, o, none⟩ v) b k p :=
  ⟨h.1, h.2.1, ((keeps_set w bc o v).cell h.2.2 (fun e => hn e.symm))⟩
set_option maxHeartbeats 6400000 in
set_option maxRecDepth 1000000 in
theorem more_lo (w : World) {ki m th t d : Int} {K : Nat} (ek : bits .and .i64 ki 3 = (K : Int)) (hK : K < 3) (hm : -2147483648 ≤ m ∧ m ≤ 2147483647) (hth : -2147483648 ≤ th ∧ th ≤ 2147483647) (ht : I64 t) (hd : I64 d) :
    Calls Try.prog 3 #[.int .i64 ki, .int .i32 m, .int .i32 th, .int .i64 t, .int .i64 d] w fun e w' => e = .returned (.bool true) ∧ Below w.heap.size w w' := by
  have hm1 := manager_any w (k := K) (p := 4096) (by omega) ⟨by omega, by omega⟩
  have g3 : ((K : Int) == 3) = false := by simp; omega
  have g4 : (K == 3) = false := by simp; omega
  obtain ⟨m1, m2⟩ := hm
  obtain ⟨t1, t2⟩ := hth
  go_enter Try.func3, Try.ntmps3
  have i0 : In64 m := ⟨by omega, by omega⟩
  have i1 : In64 th := ⟨by omega, by omega⟩
  have okf : ∀ {x : Int}, In64 x → Cf.ok (cfm m th x d false) := fun hx => ⟨i0, i1, i0, i1, hx, ⟨by simp [cfm], by simp [cfm]⟩, hd⟩
  have hjj : ∀ {x : Int} {W : World} {b : Nat}, Mg W b K 4096 → In64 x → ∀ {va vt : Bool} {vn : Int}, judgev K 4096 (cfm m th x d false).norm = ⟨va, vt, vn⟩ → Calls Try.prog 8 #[.pointer (some ⟨b, 0, none⟩), .agg #[.int .i64 m, .int .i64 th, .int .i64 m, .int .i64 th, .bool false, .int .i64 x, .int .i64 0, .int .i64 d]] W fun e w' => e = .returned (.agg #[.bool va, .bool vt, .int .i64 vn]) ∧ Keeps (fun _ => False) W w' := fun M hx _ _ _ hv => judge_x M (okf hx) hv
  have HO := more_one hK m th t d ⟨m1, m2⟩
  obtain ⟨⟨va, vt, vn⟩, hV⟩ : ∃ V, judgev K 4096 (cfm m th t d false).norm = V := ⟨_, rfl⟩
  rw [hV] at HO
  have HO' : Hid _ := HO
  clear HO okf
  go_wp2_with (go_at_call 7; refine hm1.mono ?_; clear hm1; rintro e w1 ⟨b, rfl, hb, M1, k1⟩)
  have C1 := CW.mk w1 (cfm m th t d false)
  have ml := M1.lt
  refine (hjj (M1.keep ((Keeps.refl _ w1).alloc _)) ht hV).mono ?_
  rintro e w3 ⟨rfl, k3⟩
  have C3 := C1.keep k3
  have kk := ((Keeps.refl (fun _ => False) w1).alloc _).trans k3
  have M3 := M1.keep kk
  have K3 := k1.trans kk
  have s3 := kk.size
  clear C1 k3 kk M1 hV
  have nbc : w1.heap.size ≠ b := by omega
  have hbc : (⟨w1.heap.size, 5, none⟩ : Addr).block < w.heap.size → False := fun h => by
    have : w1.heap.size < w.heap.size := h
    have := k1.size
    omega
  have d0 := fun ob => (C3.keep ((Keeps.refl _ w3).alloc ob)).1.1
  have d1 := fun ob => (C3.keep ((Keeps.refl _ w3).alloc ob)).1.2.1
  have d2 := fun ob => (C3.keep ((Keeps.refl _ w3).alloc ob)).1.2.2.1
  have d3 := fun ob => (C3.keep ((Keeps.refl _ w3).alloc ob)).1.2.2.2.1
  have d4 := fun ob => (C3.keep ((Keeps.refl _ w3).alloc ob)).1.2.2.2.2.1
  have d5 := fun ob => (C3.keep ((Keeps.refl _ w3).alloc ob)).1.2.2.2.2.2.1
  have d6 := fun ob => (C3.keep ((Keeps.refl _ w3).alloc ob)).1.2.2.2.2.2.2.1
  have d7 := fun ob => (C3.keep ((Keeps.refl _ w3).alloc ob)).1.2.2.2.2.2.2.2
  have z5 := fun ob => (C3.keep ((Keeps.refl _ w3).alloc ob)).2.1
  simp only [cfm] at d0 d1 d2 d3 d4 d5 d6 d7
  by_cases hb1 : t < 4611686018427387904
  · have hb1' : decide (t < 4611686018427387904) = true := by simpa using hb1
    obtain ⟨⟨ua, ut, un⟩, hU⟩ : ∃ V, judgev K 4096 (cfm m th (t + 1) d false).norm = V := ⟨_, rfl⟩
    rw [hU] at HO'
    have V3 := VB.mk w3 ⟨va, vt, vn⟩
    have tl : -9223372036854775808 ≤ t := ht.1
    go_wp2_with fail
    refine (hjj ((M3.keep ((Keeps.refl _ w3).alloc _)).set nbc _) ⟨by omega, by omega⟩ hU).mono ?_
    rintro e w6 ⟨rfl, k6⟩
    have C6 := ((C3.keep ((Keeps.refl _ w3).alloc (.cells #[.bool va, .bool vt, .int .i64 vn] 27))).set (t + 1)).keep k6
    have M6 := ((M3.keep ((Keeps.refl _ w3).alloc (.cells #[.bool va, .bool vt, .int .i64 vn] 27))).set (o := 5) nbc (.int .i64 (t + 1))).keep k6
    have K6 : Keeps (fun _ => False) w w6 := ((K3.alloc (.cells #[.bool va, .bool vt, .int .i64 vn] 27)).setCell (p := ⟨w1.heap.size, 5, none⟩) hbc _).trans k6
    have nv : w3.heap.size ≠ w1.heap.size := by
      have := C3.1.1
      have := World.block_lt_of_cell? _ _ this
      simp at this
      omega
    have V6 : VB w6 w3.heap.size ⟨va, vt, vn⟩ := by
      obtain ⟨q0, q1, q2⟩ := V3
      have hs := fun {o : Nat} {v : Value} (h : (w3.alloc (.cells #[.bool va, .bool vt, .int .i64 vn] 27)).cell? ⟨w3.heap.size, o, none⟩ = some v) => k6.cell ((keeps_set (w3.alloc (.cells #[.bool va, .bool vt, .int .i64 vn] 27)) w1.heap.size 5 (.int .i64 (t + 1))).cell h (fun e => nv e)) id
      exact ⟨hs q0, hs q1, hs q2⟩
    have v0 := fun ob => (V6.keep ((Keeps.refl _ w6).alloc ob)).1
    have M := M6.keep ((Keeps.refl _ w6).alloc (.cells #[.bool ua, .bool ut, .int .i64 un] 27))
    have C := C6.keep ((Keeps.refl _ w6).alloc (.cells #[.bool ua, .bool ut, .int .i64 un] 27))
    have Kp := K6.alloc (.cells #[.bool ua, .bool ut, .int .i64 un] 27)
    clear d0 d1 d2 d3 d4 d5 d6 d7 z5 V3 V6 k6 M3 K3
    have d0 := fun ob => (C6.keep ((Keeps.refl _ w6).alloc ob)).1.1
    have d1 := fun ob => (C6.keep ((Keeps.refl _ w6).alloc ob)).1.2.1
    have d2 := fun ob => (C6.keep ((Keeps.refl _ w6).alloc ob)).1.2.2.1
    have d3 := fun ob => (C6.keep ((Keeps.refl _ w6).alloc ob)).1.2.2.2.1
    have d4 := fun ob => (C6.keep ((Keeps.refl _ w6).alloc ob)).1.2.2.2.2.1
    have d5 := fun ob => (C6.keep ((Keeps.refl _ w6).alloc ob)).1.2.2.2.2.2.1
    have d6 := fun ob => (C6.keep ((Keeps.refl _ w6).alloc ob)).1.2.2.2.2.2.2.1
    have d7 := fun ob => (C6.keep ((Keeps.refl _ w6).alloc ob)).1.2.2.2.2.2.2.2
    have z5 := fun ob => (C6.keep ((Keeps.refl _ w6).alloc ob)).2.1
    simp only [cfm] at d0 d1 d2 d3 d4 d5 d6 d7
    rcases HO'.out with ⟨q1, q2⟩ | ⟨n, q1⟩
    · clear HO'
      simp only [Vd.ab, Vd.mk.injEq] at q1 q2
      obtain ⟨rfl, rfl, rfl⟩ := q1
      obtain ⟨rfl, rfl, rfl⟩ := q2
      by_cases hK0 : K = 0
      · have g0 : ((K : Int) != 0) = false := by simp [hK0]
        have g0' : (K != 0) = false := by simp [hK0]
        have hab := more_ab (t := 8) (d := d) hK (m := m) (th := th) (.inl ⟨hK0, by omega⟩)
        go_wp2_with fail
        refine (hjj (M.set nbc _) ⟨by omega, by omega⟩ hab).mono ?_
        rintro e w8 ⟨rfl, k8⟩
        go_wp2_with fail
        go_ret
        exact ⟨rfl, ((Kp.setCell (p := ⟨w1.heap.size, 5, none⟩) hbc _).trans k8).below (Nat.le_refl _) (fun _ _ e => e)⟩
      · have g0 : ((K : Int) != 0) = true := by simp; omega
        have g0' : (K != 0) = true := by simp; omega
        by_cases hle : m ≤ th
        · have gle : decide (m ≤ th) = true := by simpa using hle
          obtain ⟨n, hwt⟩ := more_eq (d := d) hK hK0 ⟨t1, t2⟩ hle
          have hfld : ∀ w' : World, (Instr.field 27 (.agg #[.bool false, .bool false, .int .i64 n]) 0).run Try.prog w' = .ok (.bool false) w' := fun _ => by kernel_rfl
          have hab := more_ab (t := th - m + 1) (d := d) hK (m := m) (th := th) (.inr ⟨hK0, by unfold clamp; split <;> omega⟩)
          go_wp2_with fail
          refine (hjj ((M.set nbc _).set nbc _) ⟨by omega, by omega⟩ hwt).mono ?_
          rintro e w8 ⟨rfl, k8⟩
          have C8 := ((C.set 8).set (th - m)).keep k8
          have M8 := ((M.set (o := 5) nbc (.int .i64 8)).set (o := 5) nbc (.int .i64 (th - m))).keep k8
          have K8 : Keeps (fun _ => False) w w8 := ((Kp.setCell (p := ⟨w1.heap.size, 5, none⟩) hbc _).setCell (p := ⟨w1.heap.size, 5, none⟩) hbc _).trans k8
          clear k8 d0 d1 d2 d3 d4 d5 d6 d7 z5
          obtain ⟨⟨d0, d1, d2, d3, d4, d5, d6, d7⟩, z5, z4⟩ := C8
          simp only [cfm] at d0 d1 d2 d3 d4 d5 d6 d7
          go_wp2_with fail
          refine (hjj (M8.set nbc _) ⟨by omega, by omega⟩ hab).mono ?_
          rintro e w9 ⟨rfl, k9⟩
          go_wp2_with fail
          go_ret
          exact ⟨rfl, ((K8.setCell (p := ⟨w1.heap.size, 5, none⟩) hbc _).trans k9).below (Nat.le_refl _) (fun _ _ e => e)⟩
        · have gle : decide (m ≤ th) = false := by simpa using hle
          have hab := more_ab (t := 8) (d := d) hK (m := m) (th := th) (.inr ⟨hK0, by unfold clamp; split <;> omega⟩)
          go_wp2_with fail
          refine (hjj (M.set nbc _) ⟨by omega, by omega⟩ hab).mono ?_
          rintro e w8 ⟨rfl, k8⟩
          go_wp2_with fail
          go_ret
          exact ⟨rfl, ((Kp.setCell (p := ⟨w1.heap.size, 5, none⟩) hbc _).trans k8).below (Nat.le_refl _) (fun _ _ e => e)⟩
    · clear HO'
      simp only [Vd.wt, Vd.mk.injEq] at q1
      obtain ⟨rfl, rfl, rfl⟩ := q1
      by_cases hK0 : K = 0
      · have g0 : ((K : Int) != 0) = false := by simp [hK0]
        have g0' : (K != 0) = false := by simp [hK0]
        have hab := more_ab (t := 8) (d := d) hK (m := m) (th := th) (.inl ⟨hK0, by omega⟩)
        go_wp2_with fail
        refine (hjj (M.set nbc _) ⟨by omega, by omega⟩ hab).mono ?_
        rintro e w8 ⟨rfl, k8⟩
        go_wp2_with fail
        go_ret
        exact ⟨rfl, ((Kp.setCell (p := ⟨w1.heap.size, 5, none⟩) hbc _).trans k8).below (Nat.le_refl _) (fun _ _ e => e)⟩
      · have g0 : ((K : Int) != 0) = true := by simp; omega
        have g0' : (K != 0) = true := by simp; omega
        by_cases hle : m ≤ th
        · have gle : decide (m ≤ th) = true := by simpa using hle
          obtain ⟨n, hwt⟩ := more_eq (d := d) hK hK0 ⟨t1, t2⟩ hle
          have hfld : ∀ w' : World, (Instr.field 27 (.agg #[.bool false, .bool false, .int .i64 n]) 0).run Try.prog w' = .ok (.bool false) w' := fun _ => by kernel_rfl
          have hab := more_ab (t := th - m + 1) (d := d) hK (m := m) (th := th) (.inr ⟨hK0, by unfold clamp; split <;> omega⟩)
          go_wp2_with fail
          refine (hjj ((M.set nbc _).set nbc _) ⟨by omega, by omega⟩ hwt).mono ?_
          rintro e w8 ⟨rfl, k8⟩
          have C8 := ((C.set 8).set (th - m)).keep k8
          have M8 := ((M.set (o := 5) nbc (.int .i64 8)).set (o := 5) nbc (.int .i64 (th - m))).keep k8
          have K8 : Keeps (fun _ => False) w w8 := ((Kp.setCell (p := ⟨w1.heap.size, 5, none⟩) hbc _).setCell (p := ⟨w1.heap.size, 5, none⟩) hbc _).trans k8
          clear k8 d0 d1 d2 d3 d4 d5 d6 d7 z5
          obtain ⟨⟨d0, d1, d2, d3, d4, d5, d6, d7⟩, z5, z4⟩ := C8
          simp only [cfm] at d0 d1 d2 d3 d4 d5 d6 d7
          go_wp2_with fail
          refine (hjj (M8.set nbc _) ⟨by omega, by omega⟩ hab).mono ?_
          rintro e w9 ⟨rfl, k9⟩
          go_wp2_with fail
          go_ret
          exact ⟨rfl, ((K8.setCell (p := ⟨w1.heap.size, 5, none⟩) hbc _).trans k9).below (Nat.le_refl _) (fun _ _ e => e)⟩
        · have gle : decide (m ≤ th) = false := by simpa using hle
          have hab := more_ab (t := 8) (d := d) hK (m := m) (th := th) (.inr ⟨hK0, by unfold clamp; split <;> omega⟩)
          go_wp2_with fail
          refine (hjj (M.set nbc _) ⟨by omega, by omega⟩ hab).mono ?_
          rintro e w8 ⟨rfl, k8⟩
          go_wp2_with fail
          go_ret
          exact ⟨rfl, ((Kp.setCell (p := ⟨w1.heap.size, 5, none⟩) hbc _).trans k8).below (Nat.le_refl _) (fun _ _ e => e)⟩
  · have hb1' : decide (t < 4611686018427387904) = false := by simpa using hb1
    have M := M3.keep ((Keeps.refl _ w3).alloc (.cells #[.bool va, .bool vt, .int .i64 vn] 27))
    have C := C3.keep ((Keeps.refl _ w3).alloc (.cells #[.bool va, .bool vt, .int .i64 vn] 27))
    have Kp := K3.alloc (.cells #[.bool va, .bool vt, .int .i64 vn] 27)
    clear HO'
    by_cases hK0 : K = 0
    · have g0 : ((K : Int) != 0) = false := by simp [hK0]
      have g0' : (K != 0) = false := by simp [hK0]
      have hab := more_ab (t := 8) (d := d) hK (m := m) (th := th) (.inl ⟨hK0, by omega⟩)
      go_wp2_with fail
      refine (hjj (M.set nbc _) ⟨by omega, by omega⟩ hab).mono ?_
      rintro e w8 ⟨rfl, k8⟩
      go_wp2_with fail
      go_ret
      exact ⟨rfl, ((Kp.setCell (p := ⟨w1.heap.size, 5, none⟩) hbc _).trans k8).below (Nat.le_refl _) (fun _ _ e => e)⟩
    · have g0 : ((K : Int) != 0) = true := by simp; omega
      have g0' : (K != 0) = true := by simp; omega
      by_cases hle : m ≤ th
      · have gle : decide (m ≤ th) = true := by simpa using hle
        obtain ⟨n, hwt⟩ := more_eq (d := d) hK hK0 ⟨t1, t2⟩ hle
        have hfld : ∀ w' : World, (Instr.field 27 (.agg #[.bool false, .bool false, .int .i64 n]) 0).run Try.prog w' = .ok (.bool false) w' := fun _ => by kernel_rfl
        have hab := more_ab (t := th - m + 1) (d := d) hK (m := m) (th := th) (.inr ⟨hK0, by unfold clamp; split <;> omega⟩)
        go_wp2_with fail
        refine (hjj ((M.set nbc _).set nbc _) ⟨by omega, by omega⟩ hwt).mono ?_
        rintro e w8 ⟨rfl, k8⟩
        have C8 := ((C.set 8).set (th - m)).keep k8
        have M8 := ((M.set (o := 5) nbc (.int .i64 8)).set (o := 5) nbc (.int .i64 (th - m))).keep k8
        have K8 : Keeps (fun _ => False) w w8 := ((Kp.setCell (p := ⟨w1.heap.size, 5, none⟩) hbc _).setCell (p := ⟨w1.heap.size, 5, none⟩) hbc _).trans k8
        clear k8 d0 d1 d2 d3 d4 d5 d6 d7 z5
        obtain ⟨⟨d0, d1, d2, d3, d4, d5, d6, d7⟩, z5, z4⟩ := C8
        simp only [cfm] at d0 d1 d2 d3 d4 d5 d6 d7
        go_wp2_with fail
        refine (hjj (M8.set nbc _) ⟨by omega, by omega⟩ hab).mono ?_
        rintro e w9 ⟨rfl, k9⟩
        go_wp2_with fail
        go_ret
        exact ⟨rfl, ((K8.setCell (p := ⟨w1.heap.size, 5, none⟩) hbc _).trans k9).below (Nat.le_refl _) (fun _ _ e => e)⟩
      · have gle : decide (m ≤ th) = false := by simpa using hle
        have hab := more_ab (t := 8) (d := d) hK (m := m) (th := th) (.inr ⟨hK0, by unfold clamp; split <;> omega⟩)
        go_wp2_with fail
        refine (hjj (M.set nbc _) ⟨by omega, by omega⟩ hab).mono ?_
        rintro e w8 ⟨rfl, k8⟩
        go_wp2_with fail
        go_ret
        exact ⟨rfl, ((Kp.setCell (p := ⟨w1.heap.size, 5, none⟩) hbc _).trans k8).below (Nat.le_refl _) (fun _ _ e => e)⟩
end Go.Proofs.Ytmcchconnfoffaa
