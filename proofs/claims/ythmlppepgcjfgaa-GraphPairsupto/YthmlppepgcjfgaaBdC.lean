import Derived.Test.YthmlppepgcjfgaaBdB
namespace Go.Proofs.Ythmlppepgcjfgaa
open Go.RowKit Go.Deep
attribute [local go_sem] Oper.semAt_some run_store_nf run_store_f
theorem any_take {α : Type} (f : α → Bool) {l : List α} {i : Nat} (d : α) (h : i < l.length) : (l.take (i + 1)).any f = ((l.take i).any f || f (l.getD i d)) := by
  rw [List.take_add_one, List.getElem?_eq_getElem h, List.getD_eq_getElem?_getD, List.getElem?_eq_getElem h, List.any_append]
  simp
theorem any_full {α : Type} (f : α → Bool) {l : List α} {i : Nat} (h : l.length ≤ i) : (l.take i).any f = l.any f := by rw [List.take_of_length_le h]
theorem any_hit {α : Type} (f : α → Bool) {l : List α} {i : Nat} (d : α) (h : i < l.length) (hf : f (l.getD i d) = true) : l.any f = true := by
  rw [List.any_eq_true]
  refine ⟨l.getD i d, ?_, hf⟩
  rw [List.getD_eq_getElem?_getD, List.getElem?_eq_getElem h]
  exact List.getElem_mem h
theorem iTx : (Try.prog.info? 32).map (·.size) = some 11 := by kernel_rfl
theorem iSwS : (Try.prog.info? 46).map (·.size) = some 9 := by kernel_rfl
theorem run_txAt {W : World} {b o : Nat} {t : Tv} {p : Lp} (hc : ∀ j v, (t.clp p)[j]? = some v → W.cell? ⟨b, o + j, none⟩ = some v) : (loadVar 32 ⟨b, o, none⟩).run Try.prog W = .ok (.agg (t.clp p).toArray) W :=
  run_loadVar_mid W b o 32 (t.clp p) _ hc Try.underlying32 rfl (by rw [iTx]; rfl)
theorem run_swAt {W : World} {b o : Nat} {s : Sw} (hc : ∀ j v, s.cells[j]? = some v → W.cell? ⟨b, o + j, none⟩ = some v) : (loadVar 46 ⟨b, o, none⟩).run Try.prog W = .ok (.agg s.cells.toArray) W :=
  run_loadVar_mid W b o 46 s.cells _ hc Try.underlying46 rfl (by rw [iSwS]; rfl)
set_option maxHeartbeats 1000000 in
set_option maxRecDepth 100000 in
theorem writes_any {w : World} {t : Tv} {p : Lp} (hw : WOM w p.wa t.wrs) (hn : t.wrs.length ≤ 4398046511104) (x : Int) : Calls Try.prog 14 #[.agg (t.clp p).toArray, .int .i64 x] w fun e w' => e = .returned (.bool (wrB t x)) ∧ Keeps (fun _ => False) w w' := by
  obtain ⟨w0, hw0⟩ : ∃ w0, w0 = w.alloc (.cells (t.clp p).toArray 32) := ⟨_, rfl⟩
  have k0 : Keeps (fun _ => False) w w0 := by rw [hw0]; exact (Keeps.refl _ w).alloc _
  have C0 : CL w0 w.heap.size (t.clp p) := by rw [hw0]; exact CL.made w (t.clp p) 32
  have HW0 : Hid (w0 = w.alloc (.cells (t.clp p).toArray 32)) := hw0
  have HM : Hid (WOM w0 p.wa t.wrs) := hw.keep k0
  have HC : Hid (∀ W, Keeps (fun _ => False) w0 W → W.cell? ⟨w.heap.size, 10, none⟩ = some (.slice p.wa t.wrs.length p.wc)) := fun W k => k.cell (C0.c 10 _ rfl) (fun e => e)
  obtain ⟨R, hR⟩ : ∃ R, R = wrB t x := ⟨_, rfl⟩
  rw [← hR]
  have HR : Hid (R = t.wrs.any (fun q => q.object == x)) := hR
  clear hw hw0 C0 hR
  generalize hN : t.wrs.length = N at *
  have HN : Hid (t.wrs.length = N) := hN
  clear hN
  generalize t.wrs = l at *
  generalize p.wc = wc at *
  generalize p.wa = wa at *
  go_enter Try.func14, Try.ntmps14
  refine wp_seq_k (fun KK hKK => ?_)
  have hKH : Hid _ := hKK
  clear hKK
  go_wp2_with fail
  refine hKH.out _ _ ?_
  clear hKH KK
  rw [← HW0.out]
  clear HW0
  have HK0 : Hid (Keeps (fun _ => False) w w0) := k0
  clear k0
  generalize w.heap.size = bx at *
  go_wp2_with fail
  go_loopw [5] (fun iv Wr => ∃ (i : Nat), iv = .int .i64 (i : Int) ∧ i ≤ N ∧ (l.take i).any (fun q => q.object == x) = false ∧ Keeps (fun _ => False) w0 Wr) (fun iv _ => N - (intOf iv).toNat)
  case atStart => exact ⟨0, rfl, Nat.zero_le _, rfl, Keeps.refl _ w0⟩
  case round =>
    obtain ⟨i, rfl, hiN, hno, kr⟩ := hrel
    have c10 := HC.out wr kr
    have HNO : Hid ((l.take i).any (fun q => q.object == x) = false) := hno
    clear hno
    by_cases hlt : i < N
    · have j1 : decide ((i : Int) < (N : Int)) = true := decide_eq_true (by omega)
      have j2 : decide (i < N) = true := decide_eq_true hlt
      have j3 : (i : Int) < (N : Int) := by omega
      have j4 : (0 : Int) ≤ (i : Int) := by omega
      have hwi : IntKind.i64.wrap ((i : Int) + 1) = (i : Int) + 1 := by rw [IntKind.wrap_i64]; omega
      have hil : i < l.length := by rw [HN.out]; exact hlt
      obtain ⟨b, off, rfl, hc⟩ := HM.out i hil
      have y0 := kr.cell (hc 0 _ rfl) (fun e => e)
      rw [Nat.add_zero] at y0
      have HNX : Hid (((l.getD i wo0).object == x) = false → (l.take (i + 1)).any (fun q => q.object == x) = false) := fun h => by rw [any_take _ wo0 hil, HNO.out, h]; rfl
      have HHT : Hid (((l.getD i wo0).object == x) = true → R = true) := fun h => by rw [HR.out]; exact any_hit _ wo0 hil h
      have y1 : wr.cell? ⟨b, off + i * 4, none⟩ = some (.int .i64 (l.getD i wo0).object) := y0
      clear hc hil y0
      generalize (l.getD i wo0).object = ob at *
      by_cases h : ob = x
      · have s1 : (ob == x) = true := by simp [h]
        obtain rfl : R = true := HHT.out s1
        clear h
        go_wp2_with fail
        go_ret
        exact ⟨rfl, HK0.out.trans kr⟩
      · have s1 : (ob == x) = false := beq_eq_false_iff_ne.2 h
        have HN2 : Hid ((l.take (i + 1)).any (fun q => q.object == x) = false) := HNX.out s1
        clear h HNX HHT
        go_wp2_with fail
        go_roundw
        case rel => exact ⟨i + 1, by go_num, by omega, HN2.out, kr⟩
        case measure => simp [intOf]; omega
    · have j1 : decide ((i : Int) < (N : Int)) = false := decide_eq_false (by omega)
      have j2 : decide (i < N) = false := decide_eq_false hlt
      obtain rfl : R = false := by rw [HR.out, ← any_full (i := i) _ (by rw [HN.out]; omega)]; exact HNO.out
      go_wp2_with fail
      go_ret
      exact ⟨rfl, HK0.out.trans kr⟩
set_option maxHeartbeats 1000000 in
set_option maxRecDepth 100000 in
theorem reads_any {w : World} {t : Tv} {p : Lp} (hw : SWM w p.sa t.saws) (hn : t.saws.length ≤ 4398046511104) (x : Int) : Calls Try.prog 16 #[.agg (t.clp p).toArray, .int .i64 x] w fun e w' => e = .returned (.bool (rdB t x)) ∧ Keeps (fun _ => False) w w' := by
  obtain ⟨w0, hw0⟩ : ∃ w0, w0 = w.alloc (.cells (t.clp p).toArray 32) := ⟨_, rfl⟩
  have k0 : Keeps (fun _ => False) w w0 := by rw [hw0]; exact (Keeps.refl _ w).alloc _
  have C0 : CL w0 w.heap.size (t.clp p) := by rw [hw0]; exact CL.made w (t.clp p) 32
  have HW0 : Hid (w0 = w.alloc (.cells (t.clp p).toArray 32)) := hw0
  have HM : Hid (SWM w0 p.sa t.saws) := hw.keep k0
  have HC : Hid (∀ W, Keeps (fun _ => False) w0 W → W.cell? ⟨w.heap.size, 9, none⟩ = some (.slice p.sa t.saws.length p.sc)) := fun W k => k.cell (C0.c 9 _ rfl) (fun e => e)
  obtain ⟨R, hR⟩ : ∃ R, R = rdB t x := ⟨_, rfl⟩
  rw [← hR]
  have HR : Hid (R = t.saws.any (fun s => s.object == x && !s.own && !s.rel)) := hR
  clear hw hw0 C0 hR
  generalize hN : t.saws.length = N at *
  have HN : Hid (t.saws.length = N) := hN
  clear hN
  generalize t.saws = l at *
  generalize p.sc = wc at *
  generalize p.sa = wa at *
  go_enter Try.func16, Try.ntmps16
  refine wp_seq_k (fun KK hKK => ?_)
  have hKH : Hid _ := hKK
  clear hKK
  go_wp2_with fail
  refine hKH.out _ _ ?_
  clear hKH KK
  rw [← HW0.out]
  clear HW0
  have HK0 : Hid (Keeps (fun _ => False) w w0) := k0
  clear k0
  generalize w.heap.size = bx at *
  go_wp2_with fail
  go_loopw [5] (fun iv Wr => ∃ (i : Nat), iv = .int .i64 (i : Int) ∧ i ≤ N ∧ (l.take i).any (fun s => s.object == x && !s.own && !s.rel) = false ∧ Keeps (fun _ => False) w0 Wr) (fun iv _ => N - (intOf iv).toNat)
  case atStart => exact ⟨0, rfl, Nat.zero_le _, rfl, Keeps.refl _ w0⟩
  case round =>
    obtain ⟨i, rfl, hiN, hno, kr⟩ := hrel
    have c9 := HC.out wr kr
    have HNO : Hid ((l.take i).any (fun s => s.object == x && !s.own && !s.rel) = false) := hno
    clear hno
    by_cases hlt : i < N
    · have j1 : decide ((i : Int) < (N : Int)) = true := decide_eq_true (by omega)
      have j2 : decide (i < N) = true := decide_eq_true hlt
      have j3 : (i : Int) < (N : Int) := by omega
      have j4 : (0 : Int) ≤ (i : Int) := by omega
      have hwi : IntKind.i64.wrap ((i : Int) + 1) = (i : Int) + 1 := by rw [IntKind.wrap_i64]; omega
      have hil : i < l.length := by rw [HN.out]; exact hlt
      obtain ⟨b, off, rfl, hc⟩ := HM.out i hil
      have hR1 := run_swAt (W := wr) (o := off + i * 9) (fun j v e => kr.cell (hc j v e) (fun e => e))
      have HNX : Hid (((l.getD i sw0).object == x && !(l.getD i sw0).own && !(l.getD i sw0).rel) = false → (l.take (i + 1)).any (fun s => s.object == x && !s.own && !s.rel) = false) := fun h => by rw [any_take _ sw0 hil, HNO.out, h]; rfl
      have HHT : Hid (((l.getD i sw0).object == x && !(l.getD i sw0).own && !(l.getD i sw0).rel) = true → R = true) := fun h => by rw [HR.out]; exact any_hit _ sw0 hil h
      clear hc hil
      generalize l.getD i sw0 = s at *
      obtain ⟨W4, hW4⟩ : ∃ W4, W4 = wr.alloc (.cells #[.int .i64 0, .int .i64 0, .int .i64 0, .bool false, .bool false, .bool false, .int .i64 0, .int .i64 0, .bool false] 46) := ⟨_, rfl⟩
      have k4 : Keeps (fun _ => False) wr W4 := by rw [hW4]; exact (Keeps.refl _ wr).alloc _
      have hU4 : CL W4 wr.heap.size sw0.cells := by rw [hW4]; exact CL.made wr sw0.cells 46
      have HW4 : Hid (W4 = wr.alloc (.cells #[.int .i64 0, .int .i64 0, .int .i64 0, .bool false, .bool false, .bool false, .int .i64 0, .int .i64 0, .bool false] 46)) := hW4
      have hOC : s.cells.toArray.all (·.oneCell') = true := all_oneCell_toArray (by simp [Sw.cells, Value.oneCell'])
      clear hW4
      have hsz : wr.heap.size < W4.heap.size := hU4.lt (by show 0 < 9; decide)
      have HSZ : Hid (wr.heap.size < W4.heap.size) := hsz
      clear hsz
      obtain ⟨ob, hob⟩ : ∃ ob, ob = s.object := ⟨_, rfl⟩
      obtain ⟨ow, how⟩ : ∃ ow, ow = s.own := ⟨_, rfl⟩
      obtain ⟨re, hre⟩ : ∃ re, re = s.rel := ⟨_, rfl⟩
      rw [← hob, ← how, ← hre] at HNX HHT
      have HOB : Hid (ob = s.object ∧ ow = s.own ∧ re = s.rel) := ⟨hob, how, hre⟩
      clear hob how hre
      by_cases h1 : ob = x
      · have s1 : (ob == x) = true := by simp [h1]
        clear h1
        cases ow
        · cases re
          · obtain rfl : R = true := HHT.out (by rw [s1]; rfl)
            clear HNX HHT
            go_wp2_with (first | (refine wpList_load_runL rfl 46 _ rfl ⟨b, off + i * 9, none⟩ rfl _ hR1 ?_; clear hR1) | (rw [← HW4.out]; clear HW4; refine wpList_store_cl rfl 46 _ _ rfl wr.heap.size 0 9 s.cells.toArray rfl rfl rfl hU4 (by show 9 ≤ 9; decide) iSwS hOC ?_; intro w5 hc5 k5 hsz5; clear hsz5; have hI5 : CL w5 wr.heap.size s.cells := hc5; clear hc5; have K5 : Keeps (fun _ => False) w0 w5 := (kr.trans k4).trans' k5 (fun _ _ e => e) (fun i2 hi2 e => (by have e : i2 = wr.heap.size := e; have := kr.size; omega)); have z1 := hI5.c 1 _ rfl; have z3 := hI5.c 3 _ rfl; have z5 := hI5.c 5 _ rfl; clear hI5 k5; rw [← HOB.out.1] at z1; rw [← HOB.out.2.1] at z3; rw [← HOB.out.2.2] at z5; clear HOB))
            go_ret
            exact ⟨rfl, HK0.out.trans K5⟩
          · have HN2 : Hid ((l.take (i + 1)).any (fun s => s.object == x && !s.own && !s.rel) = false) := HNX.out (by rw [s1]; rfl)
            clear HNX HHT
            go_wp2_with (first | (refine wpList_load_runL rfl 46 _ rfl ⟨b, off + i * 9, none⟩ rfl _ hR1 ?_; clear hR1) | (rw [← HW4.out]; clear HW4; refine wpList_store_cl rfl 46 _ _ rfl wr.heap.size 0 9 s.cells.toArray rfl rfl rfl hU4 (by show 9 ≤ 9; decide) iSwS hOC ?_; intro w5 hc5 k5 hsz5; clear hsz5; have hI5 : CL w5 wr.heap.size s.cells := hc5; clear hc5; have K5 : Keeps (fun _ => False) w0 w5 := (kr.trans k4).trans' k5 (fun _ _ e => e) (fun i2 hi2 e => (by have e : i2 = wr.heap.size := e; have := kr.size; omega)); have z1 := hI5.c 1 _ rfl; have z3 := hI5.c 3 _ rfl; have z5 := hI5.c 5 _ rfl; clear hI5 k5; rw [← HOB.out.1] at z1; rw [← HOB.out.2.1] at z3; rw [← HOB.out.2.2] at z5; clear HOB))
            go_roundw
            case rel => exact ⟨i + 1, by go_num, by omega, HN2.out, K5⟩
            case measure => simp [intOf]; omega
        · have HN2 : Hid ((l.take (i + 1)).any (fun s => s.object == x && !s.own && !s.rel) = false) := HNX.out (by rw [s1]; rfl)
          clear HNX HHT
          go_wp2_with (first | (refine wpList_load_runL rfl 46 _ rfl ⟨b, off + i * 9, none⟩ rfl _ hR1 ?_; clear hR1) | (rw [← HW4.out]; clear HW4; refine wpList_store_cl rfl 46 _ _ rfl wr.heap.size 0 9 s.cells.toArray rfl rfl rfl hU4 (by show 9 ≤ 9; decide) iSwS hOC ?_; intro w5 hc5 k5 hsz5; clear hsz5; have hI5 : CL w5 wr.heap.size s.cells := hc5; clear hc5; have K5 : Keeps (fun _ => False) w0 w5 := (kr.trans k4).trans' k5 (fun _ _ e => e) (fun i2 hi2 e => (by have e : i2 = wr.heap.size := e; have := kr.size; omega)); have z1 := hI5.c 1 _ rfl; have z3 := hI5.c 3 _ rfl; have z5 := hI5.c 5 _ rfl; clear hI5 k5; rw [← HOB.out.1] at z1; rw [← HOB.out.2.1] at z3; rw [← HOB.out.2.2] at z5; clear HOB))
          go_roundw
          case rel => exact ⟨i + 1, by go_num, by omega, HN2.out, K5⟩
          case measure => simp [intOf]; omega
      · have s1 : (ob == x) = false := beq_eq_false_iff_ne.2 h1
        have HN2 : Hid ((l.take (i + 1)).any (fun s => s.object == x && !s.own && !s.rel) = false) := HNX.out (by rw [s1]; rfl)
        clear h1 HNX HHT
        go_wp2_with (first | (refine wpList_load_runL rfl 46 _ rfl ⟨b, off + i * 9, none⟩ rfl _ hR1 ?_; clear hR1) | (rw [← HW4.out]; clear HW4; refine wpList_store_cl rfl 46 _ _ rfl wr.heap.size 0 9 s.cells.toArray rfl rfl rfl hU4 (by show 9 ≤ 9; decide) iSwS hOC ?_; intro w5 hc5 k5 hsz5; clear hsz5; have hI5 : CL w5 wr.heap.size s.cells := hc5; clear hc5; have K5 : Keeps (fun _ => False) w0 w5 := (kr.trans k4).trans' k5 (fun _ _ e => e) (fun i2 hi2 e => (by have e : i2 = wr.heap.size := e; have := kr.size; omega)); have z1 := hI5.c 1 _ rfl; have z3 := hI5.c 3 _ rfl; have z5 := hI5.c 5 _ rfl; clear hI5 k5; rw [← HOB.out.1] at z1; rw [← HOB.out.2.1] at z3; rw [← HOB.out.2.2] at z5; clear HOB))
        go_roundw
        case rel => exact ⟨i + 1, by go_num, by omega, HN2.out, K5⟩
        case measure => simp [intOf]; omega
    · have j1 : decide ((i : Int) < (N : Int)) = false := decide_eq_false (by omega)
      have j2 : decide (i < N) = false := decide_eq_false hlt
      obtain rfl : R = false := by rw [HR.out, ← any_full (i := i) _ (by rw [HN.out]; omega)]; exact HNO.out
      go_wp2_with fail
      go_ret
      exact ⟨rfl, HK0.out.trans kr⟩
end Go.Proofs.Ythmlppepgcjfgaa
