import Derived.Test.YthmlppepgcjfgaaBdI
namespace Go.Proofs.Ythmlppepgcjfgaa
open Go.RowKit Go.Deep
attribute [local go_sem] Oper.semAt_some run_store_nf run_store_f
/-- A committed attempt, as the program keeps it. -/
structure At where
  nd : Int
  fn : Int
  en : Int
  ra : Option Addr
  rn : Nat
  rc : Nat
  wa : Option Addr
  wn : Nat
  wc : Nat
def At.cells (t : At) : List Value := [.int .i64 t.nd, .int .i64 t.fn, .int .i64 t.en, .slice t.ra t.rn t.rc, .slice t.wa t.wn t.wc]
def at0 : At := ⟨0, 0, 0, none, 0, 0, none, 0, 0⟩
def ATM (w : World) (a : Option Addr) (l : List At) : Prop := ∀ i, i < l.length → ∃ b off, a = some ⟨b, off, none⟩ ∧ ∀ j v, (l.getD i at0).cells[j]? = some v → w.cell? ⟨b, off + i * 5 + j, none⟩ = some v
theorem ATM.keep {w w' : World} {a : Option Addr} {l : List At} (h : ATM w a l) (k : Keeps (fun _ => False) w w') : ATM w' a l := fun i hi => by
  obtain ⟨b, off, e, hc⟩ := h i hi
  exact ⟨b, off, e, fun j v hv => k.cell (hc j v hv) (fun e => e)⟩
theorem iAt : (Try.prog.info? 58).map (·.size) = some 5 := by kernel_rfl
theorem run_atAt {W : World} {b o : Nat} {s : At} (hc : ∀ j v, s.cells[j]? = some v → W.cell? ⟨b, o + j, none⟩ = some v) : (loadVar 58 ⟨b, o, none⟩).run Try.prog W = .ok (.agg s.cells.toArray) W :=
  run_loadVar_mid W b o 58 s.cells _ hc Try.underlying58 rfl (by rw [iAt]; rfl)
/-- The edges that a writer makes with those that wrote, a reader with those that write. -/
def oW (t : At) (x : Int) (u : At) : List Ed := if u.en < t.en then [⟨u.nd, t.nd, 1, x⟩] else []
def oR (t : At) (x : Int) (u : At) : List Ed := if u.nd = t.nd then [] else if u.en < t.fn then [⟨u.nd, t.nd, 0, x⟩] else [⟨t.nd, u.nd, 2, x⟩]
theorem flat_take (f : At → List Ed) {l : List At} {i : Nat} (h : i < l.length) : (l.take (i + 1)).flatMap f = (l.take i).flatMap f ++ f (l.getD i at0) := by
  rw [List.take_add_one, List.getElem?_eq_getElem h, List.getD_eq_getElem?_getD, List.getElem?_eq_getElem h, List.flatMap_append]
  simp
theorem flat_len (f : At → List Ed) (hf : ∀ u, (f u).length ≤ 1) : ∀ l : List At, (l.flatMap f).length ≤ l.length
  | [] => Nat.zero_le _
  | u :: l => by
    have := flat_len f hf l
    have := hf u
    rw [List.flatMap_cons, List.length_append, List.length_cons]
    omega
theorem oW_len (t : At) (x : Int) (u : At) : (oW t x u).length ≤ 1 := by unfold oW; split <;> simp
theorem oR_len (t : At) (x : Int) (u : At) : (oR t x u).length ≤ 1 := by unfold oR; split; simp; split <;> simp
set_option maxHeartbeats 1500000 in
set_option maxRecDepth 100000 in
theorem ofWrite_any {w : World} {a : Option Addr} {cap : Nat} {l : List At} (t : At) (hl : ATM w a l) (hn : l.length ≤ 1048576) (x : Int) : Calls Try.prog 17 #[.agg t.cells.toArray, .slice a l.length cap, .int .i64 x] w fun e w' => ∃ la ln lc, e = .returned (.slice la ln lc) ∧ OE w.heap.size w' (.slice la ln lc) ln (l.flatMap (oW t x)) ∧ Keeps (fun _ => False) w w' := by
  obtain ⟨w0, hw0⟩ : ∃ w0, w0 = w.alloc (.cells t.cells.toArray 58) := ⟨_, rfl⟩
  have k0 : Keeps (fun _ => False) w w0 := by rw [hw0]; exact (Keeps.refl _ w).alloc _
  have C0 : CL w0 w.heap.size t.cells := by rw [hw0]; exact CL.made w t.cells 58
  have HW0 : Hid (w0 = w.alloc (.cells t.cells.toArray 58)) := hw0
  have HT : Hid (∀ W, Keeps (fun _ => False) w0 W → W.cell? ⟨w.heap.size, 0, none⟩ = some (.int .i64 t.nd) ∧ W.cell? ⟨w.heap.size, 1, none⟩ = some (.int .i64 t.fn) ∧ W.cell? ⟨w.heap.size, 2, none⟩ = some (.int .i64 t.en)) := fun W k => ⟨k.cell (C0.c 0 _ rfl) (fun e => e), k.cell (C0.c 1 _ rfl) (fun e => e), k.cell (C0.c 2 _ rfl) (fun e => e)⟩
  have HM : Hid (ATM w0 a l) := hl.keep k0
  have HEND : Hid (∀ W v, W.ownsRow w0.heap.size 34 4 v (l.flatMap (oW t x)).length (ecl (l.flatMap (oW t x))) → Keeps (fun _ => False) w0 W → ∃ la ln lc, Ending.returned v = .returned (.slice la ln lc) ∧ OE w.heap.size W (.slice la ln lc) ln (l.flatMap (oW t x)) ∧ Keeps (fun _ => False) w W) := fun W v h k => by
    obtain ⟨a', c', e, -⟩ := own_slice h
    subst e
    exact ⟨a', _, c', rfl, ⟨owns_low h k0.size, rfl⟩, k0.trans k⟩
  clear hw0 C0 hl
  generalize hN : l.length = N at *
  have HN : Hid (l.length = N) := hN
  clear hN
  go_enter Try.func17, Try.ntmps17
  refine wp_seq_k (fun KK hKK => ?_)
  have hKH : Hid _ := hKK
  clear hKK
  go_wp2_with fail
  refine hKH.out _ _ ?_
  clear hKH KK
  rw [← HW0.out]
  clear HW0
  have HK0 : Hid (w.heap.size ≤ w0.heap.size) := k0.size
  clear k0
  generalize hbx : w.heap.size = bx at *
  clear hbx
  go_wp2_with fail
  go_loopw [7, 12] (fun ov iv Wr => ∃ (i : Nat), iv = .int .i64 (i : Int) ∧ i ≤ N ∧ Wr.ownsRow w0.heap.size 34 4 ov ((l.take i).flatMap (oW t x)).length (ecl ((l.take i).flatMap (oW t x))) ∧ Keeps (fun _ => False) w0 Wr) (fun _ iv _ => N - (intOf iv).toNat)
  case atStart => exact ⟨0, rfl, Nat.zero_le _, World.ownsRow_nil _ _ _ _, Keeps.refl _ w0⟩
  case round =>
    obtain ⟨i, rfl, hiN, hO, kr⟩ := hrel
    have HO : Hid (wr.ownsRow w0.heap.size 34 4 u7 ((l.take i).flatMap (oW t x)).length (ecl ((l.take i).flatMap (oW t x)))) := hO
    clear hO
    by_cases hlt : i < N
    · have j1 : decide ((i : Int) < (N : Int)) = true := decide_eq_true (by omega)
      have j2 : decide (i < N) = true := decide_eq_true hlt
      have j3 : (i : Int) < (N : Int) := by omega
      have j4 : (0 : Int) ≤ (i : Int) := by omega
      have hwi : IntKind.i64.wrap ((i : Int) + 1) = (i : Int) + 1 := by rw [IntKind.wrap_i64]; omega
      have hil : i < l.length := by rw [HN.out]; exact hlt
      obtain ⟨b, off, rfl, hc⟩ := HM.out i hil
      have hR1 := run_atAt (W := wr) (o := off + i * 5) (fun j v e => kr.cell (hc j v e) (fun e => e))
      have HTK : Hid ((l.take (i + 1)).flatMap (oW t x) = (l.take i).flatMap (oW t x) ++ oW t x (l.getD i at0)) := flat_take (oW t x) hil
      have hlen : ((l.take i).flatMap (oW t x)).length ≤ i := Nat.le_trans (flat_len _ (oW_len t x) _) (by rw [List.length_take]; omega)
      clear hc hil
      generalize (l.take i).flatMap (oW t x) = O at *
      generalize ho2 : (l.take (i + 1)).flatMap (oW t x) = O2 at *
      have HO2 : Hid ((l.take (i + 1)).flatMap (oW t x) = O2) := ho2
      clear ho2
      generalize l.getD i at0 = s at *
      obtain ⟨W4, hW4⟩ : ∃ W4, W4 = wr.alloc (.cells #[.int .i64 0, .int .i64 0, .int .i64 0, .slice none 0 0, .slice none 0 0] 58) := ⟨_, rfl⟩
      have k4 : Keeps (fun _ => False) wr W4 := by rw [hW4]; exact (Keeps.refl _ wr).alloc _
      have hU4 : CL W4 wr.heap.size at0.cells := by rw [hW4]; exact CL.made wr at0.cells 58
      have HW4 : Hid (W4 = wr.alloc (.cells #[.int .i64 0, .int .i64 0, .int .i64 0, .slice none 0 0, .slice none 0 0] 58)) := hW4
      have hOC : s.cells.toArray.all (·.oneCell') = true := all_oneCell_toArray (by simp [At.cells, Value.oneCell'])
      have HAP : Hid (∀ W (y : Ed), Keeps (fun _ => False) w0 W → W.ownsRow w0.heap.size 34 4 u7 O.length (ecl O) → ∃ v' W', (Builtin.append_ #[23, 23] 23 #[u7, .slice (some ⟨W.heap.size, 0, none⟩) 1 1]).run Try.prog (W.alloc (.cells #[.int .i64 y.f, .int .i64 y.t, .int .i64 y.k, .int .i64 y.o] 34)) = .ok v' W' ∧ W'.ownsRow w0.heap.size 34 4 v' (O ++ [y]).length (ecl (O ++ [y])) ∧ Keeps (fun _ => False) w0 W') := fun W y k h => by
        obtain ⟨v', W', q1, q2, q3⟩ := append_e h k.size (by omega) y
        exact ⟨v', W', q1, by rw [List.length_append]; exact q2, k.trans' q3 (fun _ _ e => e) (fun i hi e => by have := owns_baseT h i e; omega)⟩
      clear hW4
      obtain ⟨sn, hsn⟩ : ∃ sn, sn = s.nd := ⟨_, rfl⟩
      obtain ⟨se, hse⟩ : ∃ se, se = s.en := ⟨_, rfl⟩
      have HSN : Hid (sn = s.nd ∧ se = s.en) := ⟨hsn, hse⟩
      clear hsn hse
      by_cases h1 : se < t.en
      · have s1 : decide (se < t.en) = true := decide_eq_true h1
        have HTKX : Hid (O2 = O ++ [(⟨sn, t.nd, 1, x⟩ : Ed)]) := by rw [HTK.out, HSN.out.1]; unfold oW; rw [← HSN.out.2, if_pos h1]; rfl
        clear h1 HTK
        go_wp2_with (first | (refine wpList_load_runL rfl 58 _ rfl ⟨b, off + i * 5, none⟩ rfl _ hR1 ?_; clear hR1) | (rw [← HW4.out]; clear HW4; refine wpList_store_cl rfl 58 _ _ rfl wr.heap.size 0 5 s.cells.toArray rfl rfl rfl hU4 (by show 5 ≤ 5; decide) iAt hOC ?_; intro w5 hc5 k5 hsz5; clear hsz5; have hI5 : CL w5 wr.heap.size s.cells := hc5; clear hc5; have K5 : Keeps (fun _ => False) w0 w5 := (kr.trans k4).trans' k5 (fun _ _ e => e) (fun i2 hi2 e => (by have e : i2 = wr.heap.size := e; have := kr.size; omega)); have hO5 := (k4.owns HO.out (fun _ _ e => e)); have HO5 : Hid (w5.ownsRow w0.heap.size 34 4 u7 O.length (ecl O)) := k5.owns hO5 (fun i2 e1 e2 => (by have e2 : i2 = wr.heap.size := e2; have := owns_lt' HO.out i2 e1; omega)); clear hO5; have z0 := hI5.c 0 _ rfl; have z2 := hI5.c 2 _ rfl; rw [← HSN.out.1] at z0; rw [← HSN.out.2] at z2; obtain ⟨y0, y1, y2⟩ := HT.out w5 K5; clear hI5; obtain ⟨v', W', hr, ho, kk⟩ := HAP.out w5 ((⟨sn, t.nd, 1, x⟩ : Ed) : Ed) K5 HO5.out; have HHO : Hid (W'.ownsRow w0.heap.size 34 4 v' (O ++ [(⟨sn, t.nd, 1, x⟩ : Ed)]).length (ecl (O ++ [(⟨sn, t.nd, 1, x⟩ : Ed)]))) := ho; clear ho) | (at_builtin; refine wpList_append_tL rfl _ _ _ rfl _ _ _ W' rfl rfl hr ?_; clear hr))
        go_roundw
        case rel => exact ⟨i + 1, by go_num, by omega, by rw [HO2.out, HTKX.out]; exact HHO.out, kk⟩
        case measure => simp [intOf]; omega
      · have s1 : decide (se < t.en) = false := decide_eq_false h1
        have HTKX : Hid (O2 = O) := by rw [HTK.out]; unfold oW; rw [← HSN.out.2, if_neg h1, List.append_nil]; rfl
        clear h1 HTK
        go_wp2_with (first | (refine wpList_load_runL rfl 58 _ rfl ⟨b, off + i * 5, none⟩ rfl _ hR1 ?_; clear hR1) | (rw [← HW4.out]; clear HW4; refine wpList_store_cl rfl 58 _ _ rfl wr.heap.size 0 5 s.cells.toArray rfl rfl rfl hU4 (by show 5 ≤ 5; decide) iAt hOC ?_; intro w5 hc5 k5 hsz5; clear hsz5; have hI5 : CL w5 wr.heap.size s.cells := hc5; clear hc5; have K5 : Keeps (fun _ => False) w0 w5 := (kr.trans k4).trans' k5 (fun _ _ e => e) (fun i2 hi2 e => (by have e : i2 = wr.heap.size := e; have := kr.size; omega)); have hO5 := (k4.owns HO.out (fun _ _ e => e)); have HO5 : Hid (w5.ownsRow w0.heap.size 34 4 u7 O.length (ecl O)) := k5.owns hO5 (fun i2 e1 e2 => (by have e2 : i2 = wr.heap.size := e2; have := owns_lt' HO.out i2 e1; omega)); clear hO5; have z0 := hI5.c 0 _ rfl; have z2 := hI5.c 2 _ rfl; rw [← HSN.out.1] at z0; rw [← HSN.out.2] at z2; obtain ⟨y0, y1, y2⟩ := HT.out w5 K5; clear hI5))
        go_roundw
        case rel => exact ⟨i + 1, by go_num, by omega, by rw [HO2.out, HTKX.out]; exact HO5.out, K5⟩
        case measure => simp [intOf]; omega
    · have j1 : decide ((i : Int) < (N : Int)) = false := decide_eq_false (by omega)
      have j2 : decide (i < N) = false := decide_eq_false hlt
      have h := HO.out
      rw [List.take_of_length_le (by rw [HN.out]; omega)] at h
      have HX := HEND.out wr u7 h kr
      have HX2 : Hid (∃ la ln lc, Ending.returned u7 = .returned (.slice la ln lc) ∧ OE bx wr (.slice la ln lc) ln (l.flatMap (oW t x)) ∧ Keeps (fun _ => False) w wr) := HX
      clear h HX HEND kr
      go_wp2_with fail
      go_ret
      exact HX2.out
set_option maxHeartbeats 1500000 in
set_option maxRecDepth 100000 in
theorem ofRead_any {w : World} {a : Option Addr} {cap : Nat} {l : List At} (t : At) (hl : ATM w a l) (hn : l.length ≤ 1048576) (x : Int) : Calls Try.prog 18 #[.agg t.cells.toArray, .slice a l.length cap, .int .i64 x] w fun e w' => ∃ la ln lc, e = .returned (.slice la ln lc) ∧ OE w.heap.size w' (.slice la ln lc) ln (l.flatMap (oR t x)) ∧ Keeps (fun _ => False) w w' := by
  obtain ⟨w0, hw0⟩ : ∃ w0, w0 = w.alloc (.cells t.cells.toArray 58) := ⟨_, rfl⟩
  have k0 : Keeps (fun _ => False) w w0 := by rw [hw0]; exact (Keeps.refl _ w).alloc _
  have C0 : CL w0 w.heap.size t.cells := by rw [hw0]; exact CL.made w t.cells 58
  have HW0 : Hid (w0 = w.alloc (.cells t.cells.toArray 58)) := hw0
  have HT : Hid (∀ W, Keeps (fun _ => False) w0 W → W.cell? ⟨w.heap.size, 0, none⟩ = some (.int .i64 t.nd) ∧ W.cell? ⟨w.heap.size, 1, none⟩ = some (.int .i64 t.fn) ∧ W.cell? ⟨w.heap.size, 2, none⟩ = some (.int .i64 t.en)) := fun W k => ⟨k.cell (C0.c 0 _ rfl) (fun e => e), k.cell (C0.c 1 _ rfl) (fun e => e), k.cell (C0.c 2 _ rfl) (fun e => e)⟩
  have HM : Hid (ATM w0 a l) := hl.keep k0
  have HEND : Hid (∀ W v, W.ownsRow w0.heap.size 34 4 v (l.flatMap (oR t x)).length (ecl (l.flatMap (oR t x))) → Keeps (fun _ => False) w0 W → ∃ la ln lc, Ending.returned v = .returned (.slice la ln lc) ∧ OE w.heap.size W (.slice la ln lc) ln (l.flatMap (oR t x)) ∧ Keeps (fun _ => False) w W) := fun W v h k => by
    obtain ⟨a', c', e, -⟩ := own_slice h
    subst e
    exact ⟨a', _, c', rfl, ⟨owns_low h k0.size, rfl⟩, k0.trans k⟩
  clear hw0 C0 hl
  generalize hN : l.length = N at *
  have HN : Hid (l.length = N) := hN
  clear hN
  go_enter Try.func18, Try.ntmps18
  refine wp_seq_k (fun KK hKK => ?_)
  have hKH : Hid _ := hKK
  clear hKK
  go_wp2_with fail
  refine hKH.out _ _ ?_
  clear hKH KK
  rw [← HW0.out]
  clear HW0
  have HK0 : Hid (w.heap.size ≤ w0.heap.size) := k0.size
  clear k0
  generalize hbx : w.heap.size = bx at *
  clear hbx
  go_wp2_with fail
  go_loopw [7, 12] (fun ov iv Wr => ∃ (i : Nat), iv = .int .i64 (i : Int) ∧ i ≤ N ∧ Wr.ownsRow w0.heap.size 34 4 ov ((l.take i).flatMap (oR t x)).length (ecl ((l.take i).flatMap (oR t x))) ∧ Keeps (fun _ => False) w0 Wr) (fun _ iv _ => N - (intOf iv).toNat)
  case atStart => exact ⟨0, rfl, Nat.zero_le _, World.ownsRow_nil _ _ _ _, Keeps.refl _ w0⟩
  case round =>
    obtain ⟨i, rfl, hiN, hO, kr⟩ := hrel
    have HO : Hid (wr.ownsRow w0.heap.size 34 4 u7 ((l.take i).flatMap (oR t x)).length (ecl ((l.take i).flatMap (oR t x)))) := hO
    clear hO
    by_cases hlt : i < N
    · have j1 : decide ((i : Int) < (N : Int)) = true := decide_eq_true (by omega)
      have j2 : decide (i < N) = true := decide_eq_true hlt
      have j3 : (i : Int) < (N : Int) := by omega
      have j4 : (0 : Int) ≤ (i : Int) := by omega
      have hwi : IntKind.i64.wrap ((i : Int) + 1) = (i : Int) + 1 := by rw [IntKind.wrap_i64]; omega
      have hil : i < l.length := by rw [HN.out]; exact hlt
      obtain ⟨b, off, rfl, hc⟩ := HM.out i hil
      have hR1 := run_atAt (W := wr) (o := off + i * 5) (fun j v e => kr.cell (hc j v e) (fun e => e))
      have HTK : Hid ((l.take (i + 1)).flatMap (oR t x) = (l.take i).flatMap (oR t x) ++ oR t x (l.getD i at0)) := flat_take (oR t x) hil
      have hlen : ((l.take i).flatMap (oR t x)).length ≤ i := Nat.le_trans (flat_len _ (oR_len t x) _) (by rw [List.length_take]; omega)
      clear hc hil
      generalize (l.take i).flatMap (oR t x) = O at *
      generalize ho2 : (l.take (i + 1)).flatMap (oR t x) = O2 at *
      have HO2 : Hid ((l.take (i + 1)).flatMap (oR t x) = O2) := ho2
      clear ho2
      generalize l.getD i at0 = s at *
      obtain ⟨W4, hW4⟩ : ∃ W4, W4 = wr.alloc (.cells #[.int .i64 0, .int .i64 0, .int .i64 0, .slice none 0 0, .slice none 0 0] 58) := ⟨_, rfl⟩
      have k4 : Keeps (fun _ => False) wr W4 := by rw [hW4]; exact (Keeps.refl _ wr).alloc _
      have hU4 : CL W4 wr.heap.size at0.cells := by rw [hW4]; exact CL.made wr at0.cells 58
      have HW4 : Hid (W4 = wr.alloc (.cells #[.int .i64 0, .int .i64 0, .int .i64 0, .slice none 0 0, .slice none 0 0] 58)) := hW4
      have hOC : s.cells.toArray.all (·.oneCell') = true := all_oneCell_toArray (by simp [At.cells, Value.oneCell'])
      have HAP : Hid (∀ W (y : Ed), Keeps (fun _ => False) w0 W → W.ownsRow w0.heap.size 34 4 u7 O.length (ecl O) → ∃ v' W', (Builtin.append_ #[23, 23] 23 #[u7, .slice (some ⟨W.heap.size, 0, none⟩) 1 1]).run Try.prog (W.alloc (.cells #[.int .i64 y.f, .int .i64 y.t, .int .i64 y.k, .int .i64 y.o] 34)) = .ok v' W' ∧ W'.ownsRow w0.heap.size 34 4 v' (O ++ [y]).length (ecl (O ++ [y])) ∧ Keeps (fun _ => False) w0 W') := fun W y k h => by
        obtain ⟨v', W', q1, q2, q3⟩ := append_e h k.size (by omega) y
        exact ⟨v', W', q1, by rw [List.length_append]; exact q2, k.trans' q3 (fun _ _ e => e) (fun i hi e => by have := owns_baseT h i e; omega)⟩
      clear hW4
      obtain ⟨sn, hsn⟩ : ∃ sn, sn = s.nd := ⟨_, rfl⟩
      obtain ⟨se, hse⟩ : ∃ se, se = s.en := ⟨_, rfl⟩
      have HSN : Hid (sn = s.nd ∧ se = s.en) := ⟨hsn, hse⟩
      clear hsn hse
      by_cases h0 : sn = t.nd
      · have s0 : (sn == t.nd) = true := by simp [h0]
        have HTKX : Hid (O2 = O) := by rw [HTK.out]; unfold oR; rw [← HSN.out.1, if_pos h0, List.append_nil]; rfl
        clear h0 HTK
        go_wp2_with (first | (refine wpList_load_runL rfl 58 _ rfl ⟨b, off + i * 5, none⟩ rfl _ hR1 ?_; clear hR1) | (rw [← HW4.out]; clear HW4; refine wpList_store_cl rfl 58 _ _ rfl wr.heap.size 0 5 s.cells.toArray rfl rfl rfl hU4 (by show 5 ≤ 5; decide) iAt hOC ?_; intro w5 hc5 k5 hsz5; clear hsz5; have hI5 : CL w5 wr.heap.size s.cells := hc5; clear hc5; have K5 : Keeps (fun _ => False) w0 w5 := (kr.trans k4).trans' k5 (fun _ _ e => e) (fun i2 hi2 e => (by have e : i2 = wr.heap.size := e; have := kr.size; omega)); have hO5 := (k4.owns HO.out (fun _ _ e => e)); have HO5 : Hid (w5.ownsRow w0.heap.size 34 4 u7 O.length (ecl O)) := k5.owns hO5 (fun i2 e1 e2 => (by have e2 : i2 = wr.heap.size := e2; have := owns_lt' HO.out i2 e1; omega)); clear hO5; have z0 := hI5.c 0 _ rfl; have z2 := hI5.c 2 _ rfl; rw [← HSN.out.1] at z0; rw [← HSN.out.2] at z2; obtain ⟨y0, y1, y2⟩ := HT.out w5 K5; clear hI5))
        go_roundw
        case rel => exact ⟨i + 1, by go_num, by omega, by rw [HO2.out, HTKX.out]; exact HO5.out, K5⟩
        case measure => simp [intOf]; omega
      · have s0 : (sn == t.nd) = false := beq_eq_false_iff_ne.2 h0
        by_cases h1 : se < t.fn
        · have s1 : decide (se < t.fn) = true := decide_eq_true h1
          have HTKX : Hid (O2 = O ++ [(⟨sn, t.nd, 0, x⟩ : Ed)]) := by rw [HTK.out]; unfold oR; rw [← HSN.out.1, ← HSN.out.2, if_neg h0, if_pos h1]; rfl
          clear h0 h1 HTK
          go_wp2_with (first | (refine wpList_load_runL rfl 58 _ rfl ⟨b, off + i * 5, none⟩ rfl _ hR1 ?_; clear hR1) | (rw [← HW4.out]; clear HW4; refine wpList_store_cl rfl 58 _ _ rfl wr.heap.size 0 5 s.cells.toArray rfl rfl rfl hU4 (by show 5 ≤ 5; decide) iAt hOC ?_; intro w5 hc5 k5 hsz5; clear hsz5; have hI5 : CL w5 wr.heap.size s.cells := hc5; clear hc5; have K5 : Keeps (fun _ => False) w0 w5 := (kr.trans k4).trans' k5 (fun _ _ e => e) (fun i2 hi2 e => (by have e : i2 = wr.heap.size := e; have := kr.size; omega)); have hO5 := (k4.owns HO.out (fun _ _ e => e)); have HO5 : Hid (w5.ownsRow w0.heap.size 34 4 u7 O.length (ecl O)) := k5.owns hO5 (fun i2 e1 e2 => (by have e2 : i2 = wr.heap.size := e2; have := owns_lt' HO.out i2 e1; omega)); clear hO5; have z0 := hI5.c 0 _ rfl; have z2 := hI5.c 2 _ rfl; rw [← HSN.out.1] at z0; rw [← HSN.out.2] at z2; obtain ⟨y0, y1, y2⟩ := HT.out w5 K5; clear hI5; obtain ⟨v', W', hr, ho, kk⟩ := HAP.out w5 ((⟨sn, t.nd, 0, x⟩ : Ed) : Ed) K5 HO5.out; have HHO : Hid (W'.ownsRow w0.heap.size 34 4 v' (O ++ [(⟨sn, t.nd, 0, x⟩ : Ed)]).length (ecl (O ++ [(⟨sn, t.nd, 0, x⟩ : Ed)]))) := ho; clear ho) | (at_builtin; refine wpList_append_tL rfl _ _ _ rfl _ _ _ W' rfl rfl hr ?_; clear hr))
          go_roundw
          case rel => exact ⟨i + 1, by go_num, by omega, by rw [HO2.out, HTKX.out]; exact HHO.out, kk⟩
          case measure => simp [intOf]; omega
        · have s1 : decide (se < t.fn) = false := decide_eq_false h1
          have HTKX : Hid (O2 = O ++ [(⟨t.nd, sn, 2, x⟩ : Ed)]) := by rw [HTK.out]; unfold oR; rw [← HSN.out.1, ← HSN.out.2, if_neg h0, if_neg h1]; rfl
          clear h0 h1 HTK
          go_wp2_with (first | (refine wpList_load_runL rfl 58 _ rfl ⟨b, off + i * 5, none⟩ rfl _ hR1 ?_; clear hR1) | (rw [← HW4.out]; clear HW4; refine wpList_store_cl rfl 58 _ _ rfl wr.heap.size 0 5 s.cells.toArray rfl rfl rfl hU4 (by show 5 ≤ 5; decide) iAt hOC ?_; intro w5 hc5 k5 hsz5; clear hsz5; have hI5 : CL w5 wr.heap.size s.cells := hc5; clear hc5; have K5 : Keeps (fun _ => False) w0 w5 := (kr.trans k4).trans' k5 (fun _ _ e => e) (fun i2 hi2 e => (by have e : i2 = wr.heap.size := e; have := kr.size; omega)); have hO5 := (k4.owns HO.out (fun _ _ e => e)); have HO5 : Hid (w5.ownsRow w0.heap.size 34 4 u7 O.length (ecl O)) := k5.owns hO5 (fun i2 e1 e2 => (by have e2 : i2 = wr.heap.size := e2; have := owns_lt' HO.out i2 e1; omega)); clear hO5; have z0 := hI5.c 0 _ rfl; have z2 := hI5.c 2 _ rfl; rw [← HSN.out.1] at z0; rw [← HSN.out.2] at z2; obtain ⟨y0, y1, y2⟩ := HT.out w5 K5; clear hI5; obtain ⟨v', W', hr, ho, kk⟩ := HAP.out w5 ((⟨t.nd, sn, 2, x⟩ : Ed) : Ed) K5 HO5.out; have HHO : Hid (W'.ownsRow w0.heap.size 34 4 v' (O ++ [(⟨t.nd, sn, 2, x⟩ : Ed)]).length (ecl (O ++ [(⟨t.nd, sn, 2, x⟩ : Ed)]))) := ho; clear ho) | (at_builtin; refine wpList_append_tL rfl _ _ _ rfl _ _ _ W' rfl rfl hr ?_; clear hr))
          go_roundw
          case rel => exact ⟨i + 1, by go_num, by omega, by rw [HO2.out, HTKX.out]; exact HHO.out, kk⟩
          case measure => simp [intOf]; omega
    · have j1 : decide ((i : Int) < (N : Int)) = false := decide_eq_false (by omega)
      have j2 : decide (i < N) = false := decide_eq_false hlt
      have h := HO.out
      rw [List.take_of_length_le (by rw [HN.out]; omega)] at h
      have HX := HEND.out wr u7 h kr
      have HX2 : Hid (∃ la ln lc, Ending.returned u7 = .returned (.slice la ln lc) ∧ OE bx wr (.slice la ln lc) ln (l.flatMap (oR t x)) ∧ Keeps (fun _ => False) w wr) := HX
      clear h HX HEND kr
      go_wp2_with fail
      go_ret
      exact HX2.out
end Go.Proofs.Ythmlppepgcjfgaa
