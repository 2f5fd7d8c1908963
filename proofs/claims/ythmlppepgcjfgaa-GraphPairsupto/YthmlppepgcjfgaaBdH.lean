import Derived.Test.YthmlppepgcjfgaaBdG
namespace Go.Proofs.Ythmlppepgcjfgaa
open Go.RowKit Go.Deep
attribute [local go_sem] Oper.semAt_some run_store_nf run_store_f
def ivs (l : List Int) : List Value := l.map (fun x => .int .i64 x)
theorem append_i {W : World} {base m : Nat} {v : Value} {L : List Int} (hO : W.ownsRow base 3 1 v m (ivs L)) (hb : base ≤ W.heap.size) (hm : (m + 1) * 8 ≤ 140737488355328) (x : Int) :
    ∃ v' W', (Builtin.append_ #[56, 56] 56 #[v, .slice (some ⟨W.heap.size, 0, none⟩) 1 1]).run Try.prog (W.alloc (.cells #[.int .i64 x] 3)) = .ok v' W' ∧ W'.ownsRow base 3 1 v' (m + 1) (ivs (L ++ [x])) ∧ Keeps (fun i => v.ownBlock = some i) W W' := by
  obtain ⟨v', W', q1, q2, q3, q4⟩ := append_sz uI iI rfl (by decide) hO hb (by decide) hm [.int .i64 x] rfl (fun u hu => by simp at hu; subst hu; rfl)
  refine ⟨v', W', q1, ?_, q3⟩
  unfold ivs
  rw [List.map_append]
  exact q2
/-- Numbers in memory, to be read. -/
def IMr (w : World) (a : Option Addr) (L : List Int) : Prop := ∀ i, i < L.length → ∃ b, a = some ⟨b, 0, none⟩ ∧ w.cell? ⟨b, i, none⟩ = some (.int .i64 (L.getD i 0))
/-- What once answers of a list of the call's own. -/
def OnP (base : Nat) (v : Value) (xs : List Int) (W : World) (e : Ending) (w' : World) : Prop := ∃ a ys cap, e = .returned (.slice a ys.length cap) ∧ IMr w' a ys ∧ (0 < ys.length → ∀ b off, a = some ⟨b, off, none⟩ → base ≤ b) ∧ ys.Pairwise (fun x y => x < y) ∧ (∀ x, x ∈ ys ↔ x ∈ xs) ∧ ys.length ≤ xs.length ∧ Keeps (fun k => v.ownBlock = some k) W w'
def OnC : Prop := ∀ (W : World) (base : Nat) (v : Value) (xs : List Int), W.ownsRow base 3 1 v xs.length (ivs xs) → base ≤ W.heap.size → xs.length ≤ 1048576 → (∀ x ∈ xs, I64 x) → Calls Try.prog 28 #[v] W (OnP base v xs W)
/-- What an attempt's lists answer. -/
def ObP (xs : List Int) (w : World) (e : Ending) (w' : World) : Prop := ∃ a ys cap, e = .returned (.slice a ys.length cap) ∧ IMr w' a ys ∧ (0 < ys.length → ∀ b off, a = some ⟨b, off, none⟩ → w.heap.size ≤ b) ∧ ys.Pairwise (fun x y => x < y) ∧ (∀ x, x ∈ ys ↔ x ∈ xs) ∧ ys.length ≤ xs.length ∧ Keeps (fun _ => False) w w'
def rdL (l : List Sw) : List Int := (l.filter (fun s => !s.own && !s.rel)).map (fun s => s.object)
def wrL (l : List Wo) : List Int := l.map (fun q => q.object)
theorem rdL_take {l : List Sw} {i : Nat} (h : i < l.length) : rdL (l.take (i + 1)) = rdL (l.take i) ++ (if (!(l.getD i sw0).own && !(l.getD i sw0).rel) = true then [(l.getD i sw0).object] else []) := by
  unfold rdL
  rw [List.take_add_one, List.getElem?_eq_getElem h, List.getD_eq_getElem?_getD, List.getElem?_eq_getElem h, List.filter_append, List.map_append]
  simp only [Option.toList_some, Option.getD_some, List.filter_cons, List.filter_nil]
  split
  · rfl
  · rfl
theorem wrL_take {l : List Wo} {i : Nat} (h : i < l.length) : wrL (l.take (i + 1)) = wrL (l.take i) ++ [(l.getD i wo0).object] := by
  unfold wrL
  rw [List.take_add_one, List.getElem?_eq_getElem h, List.getD_eq_getElem?_getD, List.getElem?_eq_getElem h, List.map_append]
  rfl
theorem rdL_len (l : List Sw) : (rdL l).length ≤ l.length := by unfold rdL; rw [List.length_map]; exact List.length_filter_le _ _
theorem wrL_len (l : List Wo) : (wrL l).length = l.length := by unfold wrL; rw [List.length_map]
theorem rdL_mem {l : List Sw} {x : Int} (h : x ∈ rdL l) : ∃ s ∈ l, s.object = x := by
  obtain ⟨s, hs, e⟩ := List.mem_map.1 h
  exact ⟨s, (List.mem_filter.1 hs).1, e⟩
theorem iWoS : (Try.prog.info? 48).map (·.size) = some 4 := by kernel_rfl
theorem run_woAt {W : World} {b o : Nat} {s : Wo} (hc : ∀ j v, s.cells[j]? = some v → W.cell? ⟨b, o + j, none⟩ = some v) : (loadVar 48 ⟨b, o, none⟩).run Try.prog W = .ok (.agg s.cells.toArray) W :=
  run_loadVar_mid W b o 48 s.cells _ hc Try.underlying48 rfl (by rw [iWoS]; rfl)
set_option maxHeartbeats 1500000 in
set_option maxRecDepth 100000 in
theorem readsOf_any (hon : OnC) {w : World} {a : Option Addr} {cap : Nat} {l : List Sw} (hl : SWM w a l) (hn : l.length ≤ 1048576) (hI : ∀ s ∈ l, I64 s.object) : Calls Try.prog 21 #[.slice a l.length cap] w (ObP (rdL l) w) := by
  have HM : Hid (SWM w a l) := hl
  have HON : Hid (∀ W v xs, Keeps (fun _ => False) w W → W.ownsRow w.heap.size 3 1 v xs.length (ivs xs) → xs = rdL l → Calls Try.prog 28 #[v] W fun e w' => ObP (rdL l) w e w') := fun W v xs k h e => by
    subst e
    refine (hon W w.heap.size v (rdL l) h k.size (Nat.le_trans (rdL_len l) hn) (fun x hx => (by obtain ⟨s, hs, e⟩ := rdL_mem hx; rw [← e]; exact hI s hs))).mono ?_
    rintro e w' ⟨a', ys, c', h1, h2, h3, h4, h5, h6, h7⟩
    exact ⟨a', ys, c', h1, h2, h3, h4, h5, h6, k.trans' h7 (fun _ _ e => e) (fun i hi e => by have := owns_baseT h i e; omega)⟩
  clear hl hI
  generalize hN : l.length = N at *
  have HN : Hid (l.length = N) := hN
  clear hN hon
  go_enter Try.func21, Try.ntmps21
  go_wp2_with fail
  go_loopw [3, 8] (fun ov iv Wr => ∃ (i : Nat), iv = .int .i64 (i : Int) ∧ i ≤ N ∧ Wr.ownsRow w.heap.size 3 1 ov (rdL (l.take i)).length (ivs (rdL (l.take i))) ∧ Keeps (fun _ => False) w Wr) (fun _ iv _ => N - (intOf iv).toNat)
  case atStart => exact ⟨0, rfl, Nat.zero_le _, World.ownsRow_nil _ _ _ _, Keeps.refl _ w⟩
  case round =>
    obtain ⟨i, rfl, hiN, hO, kr⟩ := hrel
    have HO : Hid (wr.ownsRow w.heap.size 3 1 u3 (rdL (l.take i)).length (ivs (rdL (l.take i)))) := hO
    have HKR : Hid (Keeps (fun _ => False) w wr) := kr
    clear hO
    by_cases hlt : i < N
    · have j1 : decide ((i : Int) < (N : Int)) = true := decide_eq_true (by omega)
      have j2 : decide (i < N) = true := decide_eq_true hlt
      have j3 : (i : Int) < (N : Int) := by omega
      have j4 : (0 : Int) ≤ (i : Int) := by omega
      have hwi : IntKind.i64.wrap ((i : Int) + 1) = (i : Int) + 1 := by rw [IntKind.wrap_i64]; omega
      have hil : i < l.length := by rw [HN.out]; exact hlt
      obtain ⟨b, off, rfl, hc⟩ := HM.out i hil
      have hR1 := run_swAt (W := wr) (o := off + i * 9) (fun j v e => kr.cell (hc j v e) (fun e => e))
      have HTK := rdL_take hil
      have hlen : (rdL (l.take i)).length ≤ i := Nat.le_trans (rdL_len _) (by rw [List.length_take]; omega)
      have HTK2 : Hid (rdL (l.take (i + 1)) = rdL (l.take i) ++ (if (!(l.getD i sw0).own && !(l.getD i sw0).rel) = true then [(l.getD i sw0).object] else [])) := HTK
      clear hc hil HTK
      generalize rdL (l.take i) = O at *
      generalize ho2 : rdL (l.take (i + 1)) = O2 at *
      have HO2 : Hid (rdL (l.take (i + 1)) = O2) := ho2
      clear ho2
      generalize l.getD i sw0 = s at *
      obtain ⟨W4, hW4⟩ : ∃ W4, W4 = wr.alloc (.cells #[.int .i64 0, .int .i64 0, .int .i64 0, .bool false, .bool false, .bool false, .int .i64 0, .int .i64 0, .bool false] 46) := ⟨_, rfl⟩
      have k4 : Keeps (fun _ => False) wr W4 := by rw [hW4]; exact (Keeps.refl _ wr).alloc _
      have hU4 : CL W4 wr.heap.size sw0.cells := by rw [hW4]; exact CL.made wr sw0.cells 46
      have HW4 : Hid (W4 = wr.alloc (.cells #[.int .i64 0, .int .i64 0, .int .i64 0, .bool false, .bool false, .bool false, .int .i64 0, .int .i64 0, .bool false] 46)) := hW4
      have hOC : s.cells.toArray.all (·.oneCell') = true := all_oneCell_toArray (by simp [Sw.cells, Value.oneCell'])
      have HAP : Hid (∀ W x, Keeps (fun _ => False) w W → W.ownsRow w.heap.size 3 1 u3 O.length (ivs O) → ∃ v' W', (Builtin.append_ #[56, 56] 56 #[u3, .slice (some ⟨W.heap.size, 0, none⟩) 1 1]).run Try.prog (W.alloc (.cells #[.int .i64 x] 3)) = .ok v' W' ∧ W'.ownsRow w.heap.size 3 1 v' (O ++ [x]).length (ivs (O ++ [x])) ∧ Keeps (fun _ => False) w W') := fun W x k h => by
        obtain ⟨v', W', q1, q2, q3⟩ := append_i h k.size (by omega) x
        exact ⟨v', W', q1, by rw [List.length_append]; exact q2, k.trans' q3 (fun _ _ e => e) (fun i hi e => by have := owns_baseT h i e; omega)⟩
      clear hW4
      have HCO : Hid ((!s.own && !s.rel) = true → O2 = O ++ [s.object]) := fun h => by rw [HTK2.out, if_pos h]
      have HCN : Hid (¬ (!s.own && !s.rel) = true → O2 = O) := fun h => by rw [HTK2.out, if_neg h, List.append_nil]
      obtain ⟨ow, how⟩ : ∃ ow, ow = s.own := ⟨_, rfl⟩
      obtain ⟨re, hre⟩ : ∃ re, re = s.rel := ⟨_, rfl⟩
      rw [← how, ← hre] at HCO HCN
      have HOB : Hid (ow = s.own ∧ re = s.rel) := ⟨how, hre⟩
      clear how hre HTK2
      cases ow
      · cases re
        · have HTKX : Hid (O2 = O ++ [s.object]) := HCO.out rfl
          clear HCO HCN
          go_wp2_with (first | (refine wpList_load_runL rfl 46 _ rfl ⟨b, off + i * 9, none⟩ rfl _ hR1 ?_; clear hR1) | (rw [← HW4.out]; clear HW4; refine wpList_store_cl rfl 46 _ _ rfl wr.heap.size 0 9 s.cells.toArray rfl rfl rfl hU4 (by show 9 ≤ 9; decide) iSwS hOC ?_; intro w5 hc5 k5 hsz5; clear hsz5; have hI5 : CL w5 wr.heap.size s.cells := hc5; clear hc5; have K5 : Keeps (fun _ => False) w w5 := (kr.trans k4).trans' k5 (fun _ _ e => e) (fun i2 hi2 e => (by have e : i2 = wr.heap.size := e; have := kr.size; omega)); have hO5 := (k4.owns HO.out (fun _ _ e => e)); have HO5 : Hid (w5.ownsRow w.heap.size 3 1 u3 O.length (ivs O)) := k5.owns hO5 (fun i2 e1 e2 => (by have e2 : i2 = wr.heap.size := e2; have := owns_lt' HO.out i2 e1; omega)); clear hO5; have z1 := hI5.c 1 _ rfl; have z3 := hI5.c 3 _ rfl; have z5 := hI5.c 5 _ rfl; rw [← HOB.out.1] at z3; rw [← HOB.out.2] at z5; obtain ⟨v', W', hr, ho, kk⟩ := HAP.out w5 s.object K5 HO5.out; have HHO : Hid (W'.ownsRow w.heap.size 3 1 v' (O ++ [s.object]).length (ivs (O ++ [s.object]))) := ho; clear ho hI5) | (at_builtin; refine wpList_append_tL rfl _ _ _ rfl _ _ _ W' rfl rfl hr ?_; clear hr))
          go_roundw
          case rel => exact ⟨i + 1, by go_num, by omega, by rw [HO2.out, HTKX.out]; exact HHO.out, kk⟩
          case measure => simp [intOf]; omega
        · have HTKX : Hid (O2 = O) := HCN.out (by decide)
          clear HCO HCN
          go_wp2_with (first | (refine wpList_load_runL rfl 46 _ rfl ⟨b, off + i * 9, none⟩ rfl _ hR1 ?_; clear hR1) | (rw [← HW4.out]; clear HW4; refine wpList_store_cl rfl 46 _ _ rfl wr.heap.size 0 9 s.cells.toArray rfl rfl rfl hU4 (by show 9 ≤ 9; decide) iSwS hOC ?_; intro w5 hc5 k5 hsz5; clear hsz5; have hI5 : CL w5 wr.heap.size s.cells := hc5; clear hc5; have K5 : Keeps (fun _ => False) w w5 := (kr.trans k4).trans' k5 (fun _ _ e => e) (fun i2 hi2 e => (by have e : i2 = wr.heap.size := e; have := kr.size; omega)); have hO5 := (k4.owns HO.out (fun _ _ e => e)); have HO5 : Hid (w5.ownsRow w.heap.size 3 1 u3 O.length (ivs O)) := k5.owns hO5 (fun i2 e1 e2 => (by have e2 : i2 = wr.heap.size := e2; have := owns_lt' HO.out i2 e1; omega)); clear hO5; have z3 := hI5.c 3 _ rfl; have z5 := hI5.c 5 _ rfl; rw [← HOB.out.1] at z3; rw [← HOB.out.2] at z5; clear hI5))
          go_roundw
          case rel => exact ⟨i + 1, by go_num, by omega, by rw [HO2.out, HTKX.out]; exact HO5.out, K5⟩
          case measure => simp [intOf]; omega
      · have HTKX : Hid (O2 = O) := HCN.out (by simp)
        clear HCO HCN
        go_wp2_with (first | (refine wpList_load_runL rfl 46 _ rfl ⟨b, off + i * 9, none⟩ rfl _ hR1 ?_; clear hR1) | (rw [← HW4.out]; clear HW4; refine wpList_store_cl rfl 46 _ _ rfl wr.heap.size 0 9 s.cells.toArray rfl rfl rfl hU4 (by show 9 ≤ 9; decide) iSwS hOC ?_; intro w5 hc5 k5 hsz5; clear hsz5; have hI5 : CL w5 wr.heap.size s.cells := hc5; clear hc5; have K5 : Keeps (fun _ => False) w w5 := (kr.trans k4).trans' k5 (fun _ _ e => e) (fun i2 hi2 e => (by have e : i2 = wr.heap.size := e; have := kr.size; omega)); have hO5 := (k4.owns HO.out (fun _ _ e => e)); have HO5 : Hid (w5.ownsRow w.heap.size 3 1 u3 O.length (ivs O)) := k5.owns hO5 (fun i2 e1 e2 => (by have e2 : i2 = wr.heap.size := e2; have := owns_lt' HO.out i2 e1; omega)); clear hO5; have z3 := hI5.c 3 _ rfl; rw [← HOB.out.1] at z3; clear hI5))
        go_roundw
        case rel => exact ⟨i + 1, by go_num, by omega, by rw [HO2.out, HTKX.out]; exact HO5.out, K5⟩
        case measure => simp [intOf]; omega
    · have j1 : decide ((i : Int) < (N : Int)) = false := decide_eq_false (by omega)
      have j2 : decide (i < N) = false := decide_eq_false hlt
      have hon := HON.out wr u3 (rdL (l.take i)) kr HO.out (by rw [List.take_of_length_le (by rw [HN.out]; omega)])
      clear HON kr
      go_wp2_with (go_at_call 28; refine hon.mono ?_; clear hon; intro e w8 hob; obtain ⟨ra, ys, rc, rfl, hrest⟩ := hob; have HOB : Hid (ObP (rdL l) w (.returned (.slice ra ys.length rc)) w8) := ⟨ra, ys, rc, rfl, hrest⟩; clear hrest)
      go_ret
      exact HOB.out
set_option maxHeartbeats 1500000 in
set_option maxRecDepth 100000 in
theorem writesOf_any (hon : OnC) {w : World} {a : Option Addr} {cap : Nat} {l : List Wo} (hl : WOM w a l) (hn : l.length ≤ 1048576) (hI : ∀ s ∈ l, I64 s.object) : Calls Try.prog 22 #[.slice a l.length cap] w (ObP (wrL l) w) := by
  have HM : Hid (WOM w a l) := hl
  have HON : Hid (∀ W v xs, Keeps (fun _ => False) w W → W.ownsRow w.heap.size 3 1 v xs.length (ivs xs) → xs = wrL l → Calls Try.prog 28 #[v] W fun e w' => ObP (wrL l) w e w') := fun W v xs k h e => by
    subst e
    refine (hon W w.heap.size v (wrL l) h k.size (Nat.le_trans (Nat.le_of_eq (wrL_len l)) hn) (fun x hx => (by obtain ⟨s, hs, e⟩ := List.mem_map.1 hx; rw [← e]; exact hI s hs))).mono ?_
    rintro e w' ⟨a', ys, c', h1, h2, h3, h4, h5, h6, h7⟩
    exact ⟨a', ys, c', h1, h2, h3, h4, h5, h6, k.trans' h7 (fun _ _ e => e) (fun i hi e => by have := owns_baseT h i e; omega)⟩
  clear hl hI
  generalize hN : l.length = N at *
  have HN : Hid (l.length = N) := hN
  clear hN hon
  go_enter Try.func22, Try.ntmps22
  go_wp2_with fail
  go_loopw [3, 8] (fun ov iv Wr => ∃ (i : Nat), iv = .int .i64 (i : Int) ∧ i ≤ N ∧ Wr.ownsRow w.heap.size 3 1 ov (wrL (l.take i)).length (ivs (wrL (l.take i))) ∧ Keeps (fun _ => False) w Wr) (fun _ iv _ => N - (intOf iv).toNat)
  case atStart => exact ⟨0, rfl, Nat.zero_le _, World.ownsRow_nil _ _ _ _, Keeps.refl _ w⟩
  case round =>
    obtain ⟨i, rfl, hiN, hO, kr⟩ := hrel
    have HO : Hid (wr.ownsRow w.heap.size 3 1 u3 (wrL (l.take i)).length (ivs (wrL (l.take i)))) := hO
    have HKR : Hid (Keeps (fun _ => False) w wr) := kr
    clear hO
    by_cases hlt : i < N
    · have j1 : decide ((i : Int) < (N : Int)) = true := decide_eq_true (by omega)
      have j2 : decide (i < N) = true := decide_eq_true hlt
      have j3 : (i : Int) < (N : Int) := by omega
      have j4 : (0 : Int) ≤ (i : Int) := by omega
      have hwi : IntKind.i64.wrap ((i : Int) + 1) = (i : Int) + 1 := by rw [IntKind.wrap_i64]; omega
      have hil : i < l.length := by rw [HN.out]; exact hlt
      obtain ⟨b, off, rfl, hc⟩ := HM.out i hil
      have hR1 := run_woAt (W := wr) (o := off + i * 4) (fun j v e => kr.cell (hc j v e) (fun e => e))
      have HTK := wrL_take hil
      have hlen : (wrL (l.take i)).length ≤ i := Nat.le_trans (Nat.le_of_eq (wrL_len _)) (by rw [List.length_take]; omega)
      have HTK2 : Hid (wrL (l.take (i + 1)) = wrL (l.take i) ++ [(l.getD i wo0).object]) := HTK
      clear hc hil HTK
      generalize wrL (l.take i) = O at *
      generalize ho2 : wrL (l.take (i + 1)) = O2 at *
      have HO2 : Hid (wrL (l.take (i + 1)) = O2) := ho2
      clear ho2
      generalize l.getD i wo0 = s at *
      obtain ⟨W4, hW4⟩ : ∃ W4, W4 = wr.alloc (.cells #[.int .i64 0, .int .i64 0, .int .i64 0, .bool false] 48) := ⟨_, rfl⟩
      have k4 : Keeps (fun _ => False) wr W4 := by rw [hW4]; exact (Keeps.refl _ wr).alloc _
      have hU4 : CL W4 wr.heap.size wo0.cells := by rw [hW4]; exact CL.made wr wo0.cells 48
      have HW4 : Hid (W4 = wr.alloc (.cells #[.int .i64 0, .int .i64 0, .int .i64 0, .bool false] 48)) := hW4
      have hOC : s.cells.toArray.all (·.oneCell') = true := all_oneCell_toArray (by simp [Wo.cells, Value.oneCell'])
      have HAP : Hid (∀ W x, Keeps (fun _ => False) w W → W.ownsRow w.heap.size 3 1 u3 O.length (ivs O) → ∃ v' W', (Builtin.append_ #[56, 56] 56 #[u3, .slice (some ⟨W.heap.size, 0, none⟩) 1 1]).run Try.prog (W.alloc (.cells #[.int .i64 x] 3)) = .ok v' W' ∧ W'.ownsRow w.heap.size 3 1 v' (O ++ [x]).length (ivs (O ++ [x])) ∧ Keeps (fun _ => False) w W') := fun W x k h => by
        obtain ⟨v', W', q1, q2, q3⟩ := append_i h k.size (by omega) x
        exact ⟨v', W', q1, by rw [List.length_append]; exact q2, k.trans' q3 (fun _ _ e => e) (fun i hi e => by have := owns_baseT h i e; omega)⟩
      clear hW4
      have HTKX : Hid (O2 = O ++ [s.object]) := HTK2.out
      clear HTK2
      go_wp2_with (first | (refine wpList_load_runL rfl 48 _ rfl ⟨b, off + i * 4, none⟩ rfl _ hR1 ?_; clear hR1) | (rw [← HW4.out]; clear HW4; refine wpList_store_cl rfl 48 _ _ rfl wr.heap.size 0 4 s.cells.toArray rfl rfl rfl hU4 (by show 4 ≤ 4; decide) iWoS hOC ?_; intro w5 hc5 k5 hsz5; clear hsz5; have hI5 : CL w5 wr.heap.size s.cells := hc5; clear hc5; have K5 : Keeps (fun _ => False) w w5 := (kr.trans k4).trans' k5 (fun _ _ e => e) (fun i2 hi2 e => (by have e : i2 = wr.heap.size := e; have := kr.size; omega)); have hO5 := (k4.owns HO.out (fun _ _ e => e)); have HO5 : Hid (w5.ownsRow w.heap.size 3 1 u3 O.length (ivs O)) := k5.owns hO5 (fun i2 e1 e2 => (by have e2 : i2 = wr.heap.size := e2; have := owns_lt' HO.out i2 e1; omega)); clear hO5; have z0 := hI5.c 0 _ rfl; obtain ⟨v', W', hr, ho, kk⟩ := HAP.out w5 s.object K5 HO5.out; have HHO : Hid (W'.ownsRow w.heap.size 3 1 v' (O ++ [s.object]).length (ivs (O ++ [s.object]))) := ho; clear ho hI5) | (at_builtin; refine wpList_append_tL rfl _ _ _ rfl _ _ _ W' rfl rfl hr ?_; clear hr))
      go_roundw
      case rel => exact ⟨i + 1, by go_num, by omega, by rw [HO2.out, HTKX.out]; exact HHO.out, kk⟩
      case measure => simp [intOf]; omega
    · have j1 : decide ((i : Int) < (N : Int)) = false := decide_eq_false (by omega)
      have j2 : decide (i < N) = false := decide_eq_false hlt
      have hon := HON.out wr u3 (wrL (l.take i)) kr HO.out (by rw [List.take_of_length_le (by rw [HN.out]; omega)])
      clear HON kr
      go_wp2_with (go_at_call 28; refine hon.mono ?_; clear hon; intro e w8 hob; obtain ⟨ra, ys, rc, rfl, hrest⟩ := hob; have HOB : Hid (ObP (wrL l) w (.returned (.slice ra ys.length rc)) w8) := ⟨ra, ys, rc, rfl, hrest⟩; clear hrest)
      go_ret
      exact HOB.out
end Go.Proofs.Ythmlppepgcjfgaa
