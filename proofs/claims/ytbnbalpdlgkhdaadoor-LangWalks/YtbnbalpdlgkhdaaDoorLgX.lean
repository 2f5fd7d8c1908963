import Derived.Test.YtbnbalpdlgkhdaaDoorLgW
namespace Go.Proofs.YtbnbalpdlgkhdaaDoor
open Go.RowKit Go.Deep
attribute [local go_sem] Oper.semAt_some run_store_nf run_store_f
/-- What the document's Longest answers. -/
def RgP (l : List Ins) (x y : Int) : Prop := ((chk l).1 ≠ 0 ∧ x = 0 ∧ y = (chk l).1) ∨ ((chk l).1 = 0 ∧ ((∃ k : Nat, x = (k : Int) ∧ y = 0 ∧ (∀ q, q < l.length → ¬ Wk l.length (nx l) k 0 q) ∧ ∀ j, j < k → ∃ q, q < l.length ∧ Wk l.length (nx l) j 0 q) ∨ (x = 0 ∧ y = 109 ∧ ∃ q, q < l.length ∧ Wk l.length (nx l) l.length 0 q)))
theorem LgP.same {l : List Ins} {x y x' y' : Int} (h : LgP l x y) (h' : RgP l x' y') : x = x' ∧ y = y' := by
  rcases h with ⟨n, rfl, rfl⟩ | ⟨z, h⟩
  · rcases h' with ⟨_, rfl, rfl⟩ | ⟨z, _⟩
    · exact ⟨rfl, rfl⟩
    · exact absurd z n
  · rcases h' with ⟨n, _, _⟩ | ⟨_, h'⟩
    · exact absurd z n
    · rcases h with ⟨a, H, rfl, rfl⟩ | ⟨c, rfl, rfl⟩ <;> rcases h' with ⟨k, rfl, rfl, hn, hy⟩ | ⟨rfl, rfl, q, hq, hw⟩
      · refine ⟨?_, rfl⟩
        rcases Nat.lt_trichotomy a k with lt | e | lt
        · obtain ⟨q, hq, hw⟩ := hy a lt
          exact (H.no a q (Nat.le_refl _) hq hw).elim
        · rw [e]
        · obtain ⟨m, rfl⟩ : ∃ m, a = m + 1 := ⟨a - 1, by omega⟩
          obtain ⟨q, hq, hw⟩ := H.yes m rfl
          rw [show m = k + (m - k) by omega] at hw
          obtain ⟨r, hr, hw⟩ := hw.pre hq
          exact (hn r hr hw).elim
      · exact (H.no _ q H.le hq hw).elim
      · obtain ⟨i, p, j, hp, h1, h2⟩ := c
        obtain ⟨q, hq, hw⟩ := h1.ever hp h2 k
        exact (hn q hq hw).elim
      · exact ⟨rfl, rfl⟩
set_option maxHeartbeats 500000 in
set_option maxRecDepth 100000 in
theorem rlongest_any {w : World} {a : Option Addr} {cap : Nat} {l : List Ins} (hl : ISL w a l) (hlen : l.length ≤ 9223372036854775807) : Calls Tryd.prog 8 #[.slice a l.length cap] w fun e w' => ∃ x y : Int, e = .returned (.tuple #[.int .i64 x, .int .i64 y]) ∧ RgP l x y ∧ Keeps (fun _ => False) w w' := by
  have hC := rcheck_any (cap := cap) hl hlen
  have hok := chk_ok (l := l)
  generalize hce : (chk l).1 = ce at *
  generalize (chk l).2 = ci at *
  have HCE : Hid (_ = _) := hce
  clear hce
  by_cases h0 : ce = 0
  · subst h0
    obtain ⟨h64, hcan⟩ := hok rfl
    clear hok
    have hmk : ∀ W : World, (Instr.makeSlice 57 (.int .i64 ((l.length : Int) + 1)) (.int .i64 ((l.length : Int) + 1))).run Tryd.prog W = .ok (.slice (some ⟨W.heap.size, 0, none⟩) (l.length + 1) (l.length + 1)) (W.alloc (.cells (madeCells #[.bool false] (l.length + 1)) 4)) := fun W => run_make_row' (P := Tryd.prog) 57 4 (.bool false) 1 Tryd.underlying57 bInfo rfl .i64 .i64 (l.length + 1) (by omega) (by omega) W
    have hm := fun W => BL.made W (l.length + 1) 4
    have hp0 : (0 : Int) < (l.length : Int) + 1 := by omega
    go_enter Tryd.func8, Tryd.ntmps8
    go_wp2_with (go_at_call 14; refine hC.mono ?_; clear hC; rintro e w1 ⟨rfl, k1⟩; have m1 := hm w1; have m1z := m1.z 0 (by omega); have m1c := m1.c 0 (by omega); have m2 := m1.set (p := 0) (by omega) true; have K2 : Keeps (fun _ => False) w ((w1.alloc (.cells (madeCells #[.bool false] (l.length + 1)) 4)).setCell ⟨w1.heap.size, 0, none⟩ (.bool true)) := (k1.alloc _).setCell (fun h => absurd h (by have := k1.size; show ¬ (w1.heap.size < w.heap.size); omega)) _)
    have eA : (w1.alloc (.cells (madeCells #[.bool false] (l.length + 1)) 4)).setCell ⟨w1.heap.size, 0, none⟩ (.bool true) = w1.alloc (.cells ((madeCells #[.bool false] (l.length + 1)).setIfInBounds 0 (.bool true)) 4) := by simp [go_sem]
    rw [eA] at m2 K2
    clear eA m1 m1z m1c hm hmk
    go_loopw [6, 7] (fun av nv Wr => ∃ k : Nat, nv = .int .i64 (k : Int) ∧ k ≤ l.length ∧ ∃ B f, av = .slice (some ⟨B, 0, none⟩) (l.length + 1) (l.length + 1) ∧ BL Wr B (l.length + 1) f ∧ (∀ q, q ≤ l.length → (f q = true ↔ Wk l.length (nx l) k 0 q)) ∧ (∀ j, j < k → ∃ q, q < l.length ∧ Wk l.length (nx l) j 0 q) ∧ Keeps (fun _ => False) w Wr) (fun _ nv _ => l.length - (intOf nv).toNat)
    case atStart =>
      refine ⟨0, rfl, Nat.zero_le _, _, _, rfl, m2, fun q hq => ?_, fun j hj => by omega, K2⟩
      by_cases e : q = 0
      · subst e; exact ⟨fun _ => rfl, fun _ => rfl⟩
      · show (if q = 0 then true else false) = true ↔ _
        rw [if_neg e]
        exact ⟨fun h => (by cases h), fun h => absurd (show 0 = q from h).symm e⟩
    case round =>
      obtain ⟨k, rfl, hk, B, f, rfl, hb, hf, hj, kr⟩ := hrel
      have hS := some_any (w := wr) (a := a) (cap := cap) h64 hb
      have hN := rnext_any (cap := cap) h64 hcan (hl.keep kr) hb
      clear m2 K2
      go_wp2_with fail
      refine hS.mono ?_
      rintro e w3 ⟨rfl, hP⟩
      clear hS
      rcases hP with ⟨rfl, i, hi, fi⟩ | ⟨rfl, hno⟩
      · have hwi := (hf i (by omega)).1 fi
        by_cases hkn : k < l.length
        · have b1 : decide ((l.length : Int) < (k : Int) + 1) = false := by simp; omega
          have b2 : decide (l.length < k + 1) = false := by simp; omega
          go_wp2_with fail
          refine hN.mono ?_
          rintro e w4 ⟨B', g, rfl, hb', hx, k4⟩
          clear hN
          go_wp2_with fail
          go_roundw
          case rel =>
            refine ⟨k + 1, by go_num, by omega, B', g, rfl, hb', fun q hq => (hx q hq).trans ⟨fun ⟨r, hr, h1, h2⟩ => Wk.snoc.2 ⟨r, hr, (hf r (by omega)).1 h1, h2⟩, fun h => ?_⟩, fun j hj' => ?_, kr.trans k4⟩
            · obtain ⟨r, hr, h1, h2⟩ := Wk.snoc.1 h
              exact ⟨r, hr, (hf r (by omega)).2 h1, h2⟩
            · by_cases e : j = k
              · subst e; exact ⟨i, hi, hwi⟩
              · exact hj j (by omega)
          case measure => simp [intOf]; omega
        · have b1 : decide ((l.length : Int) < (k : Int) + 1) = true := by simp; omega
          have b2 : decide (l.length < k + 1) = true := by simp; omega
          obtain rfl : k = l.length := by omega
          clear hN
          go_wp2_with fail
          go_ret2
          exact ⟨_, _, rfl, .inr ⟨HCE.out, .inr ⟨rfl, rfl, i, hi, hwi⟩⟩, kr⟩
      · clear hN
        go_wp2_with fail
        go_ret2
        refine ⟨_, _, rfl, .inr ⟨HCE.out, .inl ⟨k, rfl, rfl, fun q hq hw => ?_, hj⟩⟩, kr⟩
        have := (hf q (by omega)).2 hw
        rw [hno q hq] at this
        cases this
  · have hb : (ce == 0) = false := by simpa using h0
    go_enter Tryd.func8, Tryd.ntmps8
    go_wp2_with (go_at_call 14; refine hC.mono ?_; clear hC; rintro e w1 ⟨rfl, k1⟩)
    go_ret2
    exact ⟨0, ce, rfl, .inl ⟨by rw [HCE.out]; exact h0, rfl, HCE.out.symm⟩, k1⟩
end Go.Proofs.YtbnbalpdlgkhdaaDoor
