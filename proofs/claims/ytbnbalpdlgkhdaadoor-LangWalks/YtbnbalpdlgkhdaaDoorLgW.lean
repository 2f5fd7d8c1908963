import Derived.Test.YtbnbalpdlgkhdaaDoorLgV
namespace Go.Proofs.YtbnbalpdlgkhdaaDoor
open Go.RowKit Go.Deep
attribute [local go_sem] Oper.semAt_some run_store_nf run_store_f
/-- The marks behind one instruction more, from the places below k. -/
def Nxd (l : List Ins) (f g : Nat → Bool) (k : Nat) : Prop := ∀ q, q ≤ l.length → (g q = true ↔ ∃ i, i < k ∧ f i = true ∧ q ∈ nx l i)
theorem Nxd.skip {l : List Ins} {f g : Nat → Bool} {k : Nat} (h : Nxd l f g k) (e : f k = false ∨ nx l k = []) : Nxd l f g (k + 1) := fun q hq => (h q hq).trans ⟨fun ⟨i, hi, h1, h2⟩ => ⟨i, by omega, h1, h2⟩, fun ⟨i, hi, h1, h2⟩ => by
  by_cases ei : i = k
  · subst ei
    rcases e with e | e
    · rw [e] at h1; cases h1
    · rw [e] at h2; cases h2
  · exact ⟨i, by omega, h1, h2⟩⟩
theorem Nxd.one {l : List Ins} {f g : Nat → Bool} {k y : Nat} (h : Nxd l f g k) (e : f k = true) (hn : nx l k = [y]) : Nxd l f (fun i => if i = y then true else g i) (k + 1) := fun q hq => by
  show (if q = y then true else g q) = true ↔ _
  by_cases ey : q = y
  · rw [if_pos ey]
    exact ⟨fun _ => ⟨k, by omega, e, by rw [hn, ey]; simp⟩, fun _ => rfl⟩
  · rw [if_neg ey]
    refine (h q hq).trans ⟨fun ⟨i, hi, h1, h2⟩ => ⟨i, by omega, h1, h2⟩, fun ⟨i, hi, h1, h2⟩ => ?_⟩
    by_cases ei : i = k
    · subst ei
      rw [hn] at h2
      exact absurd (by simpa using h2) ey
    · exact ⟨i, by omega, h1, h2⟩
theorem Nxd.two {l : List Ins} {f g : Nat → Bool} {k y z : Nat} (h : Nxd l f g k) (e : f k = true) (hn : nx l k = [y, z]) : Nxd l f (fun i => if i = z then true else if i = y then true else g i) (k + 1) := fun q hq => by
  show (if q = z then true else if q = y then true else g q) = true ↔ _
  by_cases ez : q = z
  · rw [if_pos ez]
    exact ⟨fun _ => ⟨k, by omega, e, by rw [hn, ez]; simp⟩, fun _ => rfl⟩
  · rw [if_neg ez]
    by_cases ey : q = y
    · rw [if_pos ey]
      exact ⟨fun _ => ⟨k, by omega, e, by rw [hn, ey]; simp⟩, fun _ => rfl⟩
    · rw [if_neg ey]
      refine (h q hq).trans ⟨fun ⟨i, hi, h1, h2⟩ => ⟨i, by omega, h1, h2⟩, fun ⟨i, hi, h1, h2⟩ => ?_⟩
      by_cases ei : i = k
      · subst ei
        rw [hn] at h2
        rcases (by simpa using h2 : q = y ∨ q = z) with e | e
        · exact absurd e ey
        · exact absurd e ez
      · exact ⟨i, by omega, h1, h2⟩
set_option maxHeartbeats 500000 in
set_option maxRecDepth 100000 in
theorem rnext_any {w : World} {a : Option Addr} {cap B : Nat} {l : List Ins} {f : Nat → Bool} (h64 : l.length ≤ 64) (hcan : ∀ p, p < l.length → (l.getD p ins0).can l.length = true) (hl : ISL w a l) (hb : BL w B (l.length + 1) f) : Calls Tryd.prog 18 #[.slice a l.length cap, .slice (some ⟨B, 0, none⟩) (l.length + 1) (l.length + 1)] w fun e w' => ∃ B' g, e = .returned (.slice (some ⟨B', 0, none⟩) (l.length + 1) (l.length + 1)) ∧ BL w' B' (l.length + 1) g ∧ Nxd l f g l.length ∧ Keeps (fun _ => False) w w' := by
  have hmk : ∀ W : World, (Instr.makeSlice 57 (.int .i64 ((l.length : Int) + 1)) (.int .i64 ((l.length : Int) + 1))).run Tryd.prog W = .ok (.slice (some ⟨W.heap.size, 0, none⟩) (l.length + 1) (l.length + 1)) (W.alloc (.cells (madeCells #[.bool false] (l.length + 1)) 4)) := fun W => run_make_row' (P := Tryd.prog) 57 4 (.bool false) 1 Tryd.underlying57 bInfo rfl .i64 .i64 (l.length + 1) (by omega) (by omega) W
  have hm := BL.made w (l.length + 1) 4
  have k1 : Keeps (fun _ => False) w (w.alloc (.cells (madeCells #[.bool false] (l.length + 1)) 4)) := (Keeps.refl _ w).alloc _
  have hBl := hb.lt (by omega)
  have hil : ∀ b off, a = some ⟨b, off, none⟩ → 0 < l.length → b < w.heap.size := fun b off e hp => by
    obtain ⟨b', off', e', hc⟩ := hl 0 hp
    rw [e] at e'
    injection e' with e'
    injection e' with e1 _ _
    subst e1
    exact World.block_lt_of_cell? w _ (hc 0 _ rfl)
  generalize hN : l.length = N at *
  go_enter Tryd.func18, Tryd.ntmps18
  go_wp2_with fail
  obtain ⟨W1, hW1⟩ : ∃ W1, W1 = w.alloc (.cells (madeCells #[.bool false] (N + 1)) 4) := ⟨_, rfl⟩
  rw [← hW1] at hm k1 ⊢
  clear hW1 hmk
  generalize hM : w.heap.size = M at *
  have HM : Hid (_ = _) := hM
  clear hM
  go_loopw [6] (fun iv Wr => ∃ k : Nat, iv = .int .i64 (k : Int) ∧ k ≤ N ∧ ∃ g, BL Wr M (N + 1) g ∧ Nxd l f g k ∧ Keeps (fun _ => False) w Wr) (fun iv _ => N - (intOf iv).toNat)
  case atStart => exact ⟨0, rfl, Nat.zero_le _, _, hm, fun q _ => ⟨fun e => (by cases e), fun ⟨i, hi, _⟩ => (by omega)⟩, k1⟩
  case round =>
    obtain ⟨k, rfl, hk, g, hg, hx, kr⟩ := hrel
    clear hm k1
    by_cases hlt : k < N
    · have hltI : decide ((k : Int) < (N : Int)) = true := by simp; omega
      have hltJ : (k : Int) < (N : Int) := by omega
      have hltM : (k : Int) < (N : Int) + 1 := by omega
      have hltP : (k : Int) + 1 < (N : Int) + 1 := by omega
      have hk0 : (0 : Int) ≤ (k : Int) := by omega
      have hk1 : (0 : Int) ≤ (k : Int) + 1 := by omega
      have hfc := kr.cell (hb.c k (by omega)) (fun e => e)
      obtain ⟨b, off, rfl, hc⟩ := hl k (by omega)
      have hbM : b < M := hil b off rfl (by omega)
      have hb1 : ¬ b = M := by omega
      have hb2 : ¬ M = b := by omega
      have hc' : ∀ j v, (l.getD k ins0).cells[j]? = some v → wr.cell? ⟨b, off + k * 11 + j, none⟩ = some v := fun j v e => kr.cell (hc j v e) (fun e => e)
      have hto := hc' 10 _ rfl
      have hcd := hc' 0 _ rfl
      rw [Nat.add_zero] at hcd
      have hR1 := run_insAt (t := 46) hc' ⟨_, Tryd.underlying46⟩ iRn
      have hcn := hcan k (by omega)
      have hnx : Hid (nx l k = ((l.getD k ins0).nxt k).map Int.toNat) := rfl
      generalize l.getD k ins0 = q at *
      have hj := fun W => rjumps_any W q
      have hz := hg.z
      have hgc := hg.c
      clear hc hc' hcan
      cases ef : f k with
      | false =>
        rw [ef] at hfc
        have HX := hx.skip (.inl ef)
        clear hx
        go_wp2_with fail
        go_roundw
        case rel => exact ⟨k + 1, by go_num, by omega, g, hg, HX, kr⟩
        case measure => simp [intOf]; omega
      | true =>
        rw [ef] at hfc
        by_cases e9 : q.code = 9
        · have HX := hx.skip (.inr (by rw [hnx.out]; unfold Ins.nxt; rw [e9]; rfl))
          rw [e9] at hcd
          clear hx
          go_wp2_with fail
          go_roundw
          case rel => exact ⟨k + 1, by go_num, by omega, g, hg, HX, kr⟩
          case measure => simp [intOf]; omega
        · have b9 : (q.code == 9) = false := by simpa using e9
          by_cases e10 : q.code = 10
          · have HX := hx.skip (.inr (by rw [hnx.out]; unfold Ins.nxt; rw [e10]; rfl))
            rw [e10] at hcd
            clear hx
            go_wp2_with fail
            go_roundw
            case rel => exact ⟨k + 1, by go_num, by omega, g, hg, HX, kr⟩
            case measure => simp [intOf]; omega
          · have b10 : (q.code == 10) = false := by simpa using e10
            have KS : ∀ W, Keeps (fun _ => False) w W → ∀ (o : Nat) (v : Value), Keeps (fun _ => False) w (W.setCell ⟨M, o, none⟩ v) := fun W kW o v => kW.setCell (fun h => by rw [HM.out] at h; exact absurd h (Nat.lt_irrefl _)) v
            by_cases e8 : q.code = 8
            · have ht := can_to hcn (.inr e8)
              have ej : q.jmp = true := by unfold Ins.jmp; rw [e8]; rfl
              obtain ⟨y, hy⟩ : ∃ y : Nat, q.to = (y : Int) := ⟨q.to.toNat, by omega⟩
              have HX := hx.one ef (y := y) (by rw [hnx.out]; unfold Ins.nxt; rw [if_pos e8, hy]; rfl)
              rw [e8] at hcd
              rw [hy] at hto ht
              have hty : (y : Int) < (N : Int) + 1 := by omega
              have hty0 : (0 : Int) ≤ (y : Int) := by omega
              have gz := hz y (by omega)
              have gc := hgc y (by omega)
              have hgs := hg.set (p := y) (by omega) true
              rw [ej] at hj
              clear hx hz hgc
              go_wp2_with (first | (refine wpList_load_run rfl 46 _ rfl ⟨b, off + k * 11, none⟩ rfl _ hR1 ?_; clear hR1) | (go_at_call 15; refine (hj _).mono ?_; rintro e w6 ⟨rfl, k6⟩; have to6 := k6.cell hto (fun e => e); have cd6 := k6.cell hcd (fun e => e); have hg6 := hg.keep (by omega) k6 (fun e => e); have z6 := hg6.z y (by omega); have c6 := hg6.c y (by omega); have s6 := hg6.set (p := y) (by omega) true; have kk6 := KS _ (kr.trans k6) y (.bool true); clear KS))
              go_roundw
              case rel => exact ⟨k + 1, by go_num, by omega, _, s6, HX, kk6⟩
              case measure => simp [intOf]; omega
            · have b8 : (q.code == 8) = false := by simpa using e8
              by_cases e7 : q.code = 7
              · have ht := can_to hcn (.inl e7)
                have ej : q.jmp = true := by unfold Ins.jmp; rw [e7]; rfl
                obtain ⟨y, hy⟩ : ∃ y : Nat, q.to = (y : Int) := ⟨q.to.toNat, by omega⟩
                have HX := hx.two ef (y := y) (z := k + 1) (by rw [hnx.out]; unfold Ins.nxt; rw [if_neg e8, if_pos e7, hy]; rfl)
                rw [e7] at hcd
                rw [hy] at hto ht
                have hty : (y : Int) < (N : Int) + 1 := by omega
                have hty0 : (0 : Int) ≤ (y : Int) := by omega
                rw [ej] at hj
                clear hx hz hgc
                go_wp2_with (first | (refine wpList_load_run rfl 46 _ rfl ⟨b, off + k * 11, none⟩ rfl _ hR1 ?_; clear hR1) | (go_at_call 15; refine (hj _).mono ?_; rintro e w6 ⟨rfl, k6⟩; have to6 := k6.cell hto (fun e => e); have cd6 := k6.cell hcd (fun e => e); have hg6 := hg.keep (by omega) k6 (fun e => e); have z6 := hg6.z y (by omega); have c6 := hg6.c y (by omega); have s6 := hg6.set (p := y) (by omega) true; have z7 := s6.z (k + 1) (by omega); have c7 := s6.c (k + 1) (by omega); have s7 := s6.set (p := k + 1) (by omega) true; have kk6 := KS _ (KS _ (kr.trans k6) y (.bool true)) (k + 1) (.bool true); clear KS))
                go_roundw
                case rel => exact ⟨k + 1, by go_num, by omega, _, s7, HX, kk6⟩
                case measure => simp [intOf]; omega
              · have b7 : (q.code == 7) = false := by simpa using e7
                have ej : q.jmp = false := by unfold Ins.jmp; rw [b7, b8]; rfl
                have HX := hx.one ef (y := k + 1) (by rw [hnx.out]; unfold Ins.nxt; rw [if_neg e8, if_neg e7, if_neg (by omega)]; rfl)
                rw [ej] at hj
                clear hx hz hgc
                go_wp2_with (first | (refine wpList_load_run rfl 46 _ rfl ⟨b, off + k * 11, none⟩ rfl _ hR1 ?_; clear hR1) | (go_at_call 15; refine (hj _).mono ?_; rintro e w6 ⟨rfl, k6⟩; have to6 := k6.cell hto (fun e => e); have cd6 := k6.cell hcd (fun e => e); have hg6 := hg.keep (by omega) k6 (fun e => e); have z6 := hg6.z (k + 1) (by omega); have c6 := hg6.c (k + 1) (by omega); have s6 := hg6.set (p := k + 1) (by omega) true; have kk6 := KS _ (kr.trans k6) (k + 1) (.bool true); clear KS))
                go_roundw
                case rel => exact ⟨k + 1, by go_num, by omega, _, s6, HX, kk6⟩
                case measure => simp [intOf]; omega
    · obtain rfl : k = N := by omega
      have hltI : decide ((k : Int) < (k : Int)) = false := by simp
      go_wp2_with fail
      go_ret
      exact ⟨M, g, rfl, hg, hx, kr⟩
end Go.Proofs.YtbnbalpdlgkhdaaDoor
