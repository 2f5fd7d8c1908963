import Derived.Test.YtmnmphkkcabkiaaG11
import Derived.Maps.OwnSet
import Derived.Carry
namespace Go.Proofs.Ytmnmphkkcabkiaa
open Go.RowKit
attribute [local go_sem] Oper.semAt_some run_store_nf run_store_f
def sw0 : Sw := ⟨0, 0, 0, false, false, false, 0, 0, false⟩
theorem scl_getD {o : Nat} {u : Value} : ∀ {l : List Sw} {j : Nat}, j < l.length → (l.getD j sw0).cells[o]? = some u → (scl l)[j * 9 + o]? = some u
  | [], _, h, _ => by simp at h
  | s :: l, 0, _, e => by
    have ho : o < s.cells.length := (List.getElem?_eq_some_iff.1 e).1
    show (s.cells ++ scl l)[0 * 9 + o]? = _
    rw [Nat.zero_mul, Nat.zero_add, List.getElem?_append_left ho]
    exact e
  | s :: l, j + 1, h, e => by
    have hs : s.cells.length = 9 := rfl
    show (s.cells ++ scl l)[(j + 1) * 9 + o]? = _
    rw [List.getElem?_append_right (by omega), hs, show (j + 1) * 9 + o - 9 = j * 9 + o by omega]
    exact scl_getD (by simpa using h) e
theorem scl_rel : ∀ {l : List Sw} {j : Nat}, j < l.length → (scl l).set (j * 9 + 5) (.bool true) = scl (l.set j { l.getD j sw0 with rel := true })
  | [], _, h => by simp at h
  | s :: l, 0, _ => by
    show (s.cells ++ scl l).set (0 * 9 + 5) _ = ({ s with rel := true } : Sw).cells ++ scl l
    rw [List.set_append_left _ _ (by show 0 * 9 + 5 < 9; decide)]
    rfl
  | s :: l, j + 1, h => by
    have hs : s.cells.length = 9 := rfl
    show (s.cells ++ scl l).set ((j + 1) * 9 + 5) _ = s.cells ++ scl (l.set j { l.getD j sw0 with rel := true })
    rw [List.set_append_right _ _ (by omega), hs, show (j + 1) * 9 + 5 - 9 = j * 9 + 5 by omega, scl_rel (by simpa using h)]
def rlJ (e : Int) (l : List Sw) (j : Nat) : List Sw := (l.take j).map (relS e) ++ l.drop j
theorem rlJ_len (e : Int) (l : List Sw) (j : Nat) : (rlJ e l j).length = l.length := by
  unfold rlJ
  rw [List.length_append, List.length_map, List.length_take, List.length_drop]
  omega
theorem rlJ_zero (e : Int) (l : List Sw) : rlJ e l 0 = l := by unfold rlJ; simp
theorem rlJ_all (e : Int) {l : List Sw} {j : Nat} (h : l.length ≤ j) : rlJ e l j = l.map (relS e) := by
  unfold rlJ
  rw [List.take_of_length_le h, List.drop_of_length_le h, List.append_nil]
theorem rlJ_get {e : Int} {l : List Sw} {j : Nat} (h : j < l.length) : (rlJ e l j).getD j sw0 = l.getD j sw0 := by
  unfold rlJ
  rw [List.getD_eq_getElem?_getD, List.getD_eq_getElem?_getD, List.getElem?_append_right (by rw [List.length_map, List.length_take]; omega), List.length_map, List.length_take, List.getElem?_drop, show j + (j - min j l.length) = j by omega]
theorem rlJ_next {e : Int} {l : List Sw} {j : Nat} (h : j < l.length) : rlJ e l (j + 1) = (rlJ e l j).set j (relS e (l.getD j sw0)) := by
  unfold rlJ
  have hg : l.getD j sw0 = l[j] := by rw [List.getD_eq_getElem?_getD, List.getElem?_eq_getElem h]; rfl
  have hl : ((l.take j).map (relS e)).length = j := by rw [List.length_map, List.length_take]; omega
  rw [List.set_append_right _ _ (by omega), hl, Nat.sub_self, List.take_add_one, List.getElem?_eq_getElem h, hg, List.map_append]
  have e2 : l.drop j = l[j] :: l.drop (j + 1) := List.drop_eq_getElem_cons h
  rw [e2]
  simp only [Option.toList, List.map_cons, List.map_nil, List.append_assoc, List.cons_append, List.nil_append, List.set_cons_zero]
theorem rlJ_no {e : Int} {l : List Sw} {j : Nat} (h : j < l.length) (hn : (l.getD j sw0).entry ≠ e) : rlJ e l (j + 1) = rlJ e l j := by
  rw [rlJ_next h]
  have e1 : relS e (l.getD j sw0) = (rlJ e l j).getD j sw0 := by
    rw [rlJ_get h]
    unfold relS
    rw [if_neg hn]
  rw [e1]
  have hj : j < (rlJ e l j).length := by rw [rlJ_len]; exact h
  rw [List.getD_eq_getElem?_getD, List.getElem?_eq_getElem hj]
  simp
theorem rlJ_yes {e : Int} {l : List Sw} {j : Nat} (h : j < l.length) (hn : (l.getD j sw0).entry = e) : scl (rlJ e l (j + 1)) = (scl (rlJ e l j)).set (j * 9 + 5) (.bool true) := by
  rw [rlJ_next h, scl_rel (by rw [rlJ_len]; exact h), rlJ_get h]
  unfold relS
  rw [if_pos hn]
theorem TL.saw {base m i : Nat} {W W' : World} {v : Value} {ts : List Tv} {sv wv : Nat → Value} {ρ : Nat → Nat} (h : TL base W v ts sv wv ρ m) (hi : i < ts.length) (ss : List Sw) (hl : ss.length = (ts.getD i tv0).saws.length) (hk : Keeps (fun b => (sv i).ownBlock = some b) W W') (ho : W'.ownsRow base 44 9 (sv i) ss.length (scl ss)) : TL base W' v (ts.set i { ts.getD i tv0 with saws := ss }) sv wv ρ m := by
  refine ⟨?_, fun j hj => ?_, fun j hj => ?_, h.r0, fun j hj => ?_, fun j hj => ?_, fun j hj => ?_, Nat.le_trans h.bb hk.size⟩
  · have e : tcl (ts.set i { ts.getD i tv0 with saws := ss }) sv wv = tcl ts sv wv := by
      unfold tcl
      rw [List.length_set]
      refine gcl_congr (fun j hj => ?_)
      by_cases e : j = i
      · subst e
        rw [getD_set_eq hj]
        rfl
      · rw [getD_set_ne e]
    rw [e, List.length_set]
    exact hk.owns h.o (fun b e1 e2 => by have := h.r0 b e1; have := h.rs i hi b e2; omega)
  · rw [List.length_set] at hj
    by_cases e : j = i
    · subst e
      rw [getD_set_eq hj]
      exact ho
    · rw [getD_set_ne e]
      exact hk.owns (h.s j hj) (fun b e1 e2 => by have := h.rs j hj b e1; have := h.rs i hi b e2; omega)
  · rw [List.length_set] at hj
    have e2 : ((ts.set i { ts.getD i tv0 with saws := ss }).getD j tv0).wrs = (ts.getD j tv0).wrs := by
      by_cases e : j = i
      · subst e
        rw [getD_set_eq hj]
      · rw [getD_set_ne e]
    rw [e2]
    exact hk.owns (h.w j hj) (fun b e1 e2 => by have := h.rw j hj b e1; have := h.rs i hi b e2; omega)
  · exact h.rs j (by rw [List.length_set] at hj; exact hj)
  · exact h.rw j (by rw [List.length_set] at hj; exact hj)
  · rw [List.length_set] at hj
    by_cases e : j = i
    · subst e
      rw [getD_set_eq hj]
      have := h.ls j hj
      dsimp only
      omega
    · rw [getD_set_ne e]
      exact h.ls j hj
set_option maxHeartbeats 1000000 in
set_option maxRecDepth 100000 in
theorem txs_2 {base N cap m : Nat} {w X : World} {l : List Rw} {a : Option Addr} {lv : Value} {sv wv : Nat → Value} {ρ : Nat → Nat} {R : Ending → World → Prop} {x1 x2 x3 x4 x5 x7 x8 x9 x10 x11 x12 x13 x14 x15 x16 x17 x18 x19 x20 x21 x22 x23 x24 x25 x26 x27 x28 x29 x30 x31 x32 x33 x34 x35 x36 x37 x38 x39 x40 x41 x42 x43 x44 x45 x46 x47 x48 x49 x50 x51 x52 x53 x54 x55 x56 x57 x58 x59 x60 x61 x62 x63 x64 x65 x66 x67 x68 x69 x70 x71 x72 x73 x74 x75 x76 x77 x78 x79 x80 x81 x82 x83 x84 x85 x86 x87 x88 x89 x90 x91 x92 x93 x94 x95 x96 x97 x98 x99 x100 x101 x102 x103 x104 x105 x106 x107 x108 x109 x110 x111 x112 x113 x114 x115 x116 x117 x118 x119 x120 x121 x122 x123 x124 x125 x126 x127 x128 : Value} (hl : RSL w a l) (hN : l.length = N) (hN2 : N ≤ 980000000000) (hf : fstP l 0 (f0 6) = none) (hwb : w.heap.size ≤ base) (hT0 : TL base X lv (txK l N).1 sv wv ρ m) (hm : m ≤ 980000000000) (kX : Keeps (fun _ => False) w X)
    (hP : ∀ W, TL base W lv (rlK l (txK l N).1 N) sv wv ρ m → Keeps (fun _ => False) w W → R (.returned (.tuple #[lv, .int .i64 0])) W) : (txT6 Try.f19).wp Try.prog (bodyPost Try.prog Try.f19 R) { tmps := #[.slice a N cap, x1, x2, x3, x4, x5, lv, x7, x8, x9, x10, x11, x12, x13, x14, x15, x16, x17, x18, x19, x20, x21, x22, x23, x24, x25, x26, x27, x28, x29, x30, x31, x32, x33, x34, x35, x36, x37, x38, x39, x40, x41, x42, x43, x44, x45, x46, x47, x48, x49, x50, x51, x52, x53, x54, x55, x56, x57, x58, x59, x60, x61, x62, x63, x64, x65, x66, x67, x68, x69, x70, x71, x72, x73, x74, x75, x76, x77, x78, x79, x80, x81, x82, x83, x84, x85, x86, x87, x88, x89, x90, x91, x92, x93, x94, x95, x96, x97, x98, x99, x100, x101, x102, x103, x104, x105, x106, x107, x108, x109, x110, x111, x112, x113, x114, x115, x116, x117, x118, x119, x120, x121, x122, x123, x124, x125, x126, x127, x128], defers := [] } X := by
  have HP : Hid (∀ W, TL base W lv (rlK l (txK l N).1 N) sv wv ρ m → Keeps (fun _ => False) w W → R (.returned (.tuple #[lv, .int .i64 0])) W) := hP
  clear hP
  obtain ⟨a6, c6, rfl, -⟩ := own_slice hT0.o
  have HRO : Hid (∀ k, k < l.length → (l.getD k rw0).kind = 4 → 1 ≤ (l.getD k rw0).no ∧ (l.getD k rw0).no ≤ ((txK l N).1.length : Int)) := fun k hk h4 => by
    have h1 := (txK_ro hf hk).o (by rw [h4]; rfl)
    have h2 := txK_mono l k (N - k)
    rw [show k + (N - k) = N by omega] at h2
    omega
  have HLE : Hid ((txK l N).1.length ≤ N) := txK_le l N
  generalize (txK l N).1 = ts at *
  have HTN : Hid (∀ k, (rlK l ts k).length = ts.length) := rlK_len l ts
  generalize hM : ts.length = M at *
  have hT1 : TL base X (.slice a6 M c6) (rlK l ts 0) sv wv ρ m := hT0
  dsimp only [txT6, Try.f19]
  go_wp2_with fail
  go_loopw [10] (fun iv Wr => ∃ (k : Nat), iv = .int .i64 (k : Int) ∧ k ≤ N ∧ TL base Wr (.slice a6 M c6) (rlK l ts k) sv wv ρ m ∧ Keeps (fun _ => False) w Wr) (fun iv _ => N - (intOf iv).toNat)
  case atStart => exact ⟨0, rfl, Nat.zero_le _, hT1, kX⟩
  case round =>
    obtain ⟨k, rfl, hk, hT, kr⟩ := hrel
    clear hT0 hT1 kX
    by_cases hlt : k < N
    · have l1 : decide ((k : Int) < (N : Int)) = true := decide_eq_true (by omega)
      have l2 : (k : Int) < (N : Int) := by omega
      have l4 : decide (k < N) = true := decide_eq_true hlt
      obtain ⟨b, off, rfl, hc⟩ := hl k (by omega)
      have hro := HRO.out k (by omega)
      have htn := HTN.out k
      have HNX : Hid (rlK l ts (k + 1) = relR (rlK l ts k) (l.getD k rw0)) := rfl
      generalize l.getD k rw0 = r at *
      generalize rlK l ts k = tk at *
      have HC : Hid (∀ W, Keeps (fun _ => False) w W → W.cell? ⟨b, off + k * 26 + 8, none⟩ = some (.int .i64 r.entry)) := fun W kk => kk.cell (hc 8 _ rfl) (fun e => e)
      have d4 := kr.cell (hc 4 _ rfl) (fun e => e)
      have d5 := kr.cell (hc 5 _ rfl) (fun e => e)
      have d8 := kr.cell (hc 8 _ rfl) (fun e => e)
      clear hc
      by_cases hk4 : r.kind = 4
      · by_cases he : 0 ≤ r.entry
        · have s4 : (r.kind == 4) = true := by simp [hk4]
          have e1 : decide (0 ≤ r.entry) = true := decide_eq_true he
          have e2 : (0 : Int) ≤ r.entry := he
          have hno := hro hk4
          obtain ⟨i, en⟩ : ∃ i : Nat, r.no = (i : Int) + 1 := ⟨(r.no - 1).toNat, by omega⟩
          have i1 : (0 : Int) ≤ (i : Int) := by omega
          have i2 : (i : Int) < (M : Int) := by omega
          have i3 : i < tk.length := by omega
          have hw : IntKind.i64.wrap ((i : Int) + 1 - 1) = (i : Int) := by rw [IntKind.wrap_i64]; have := HLE.out; omega
          have hw2 : IntKind.i64.wrap (i : Int) = (i : Int) := by rw [IntKind.wrap_i64]; have := HLE.out; omega
          obtain ⟨g6, rfl⟩ : ∃ g6, a6 = some ⟨g6, 0, none⟩ := by
            rcases hT.o.2 with ⟨_, h0⟩ | ⟨g', _, _, e, _⟩
            · omega
            · injection e with e _ _
              exact ⟨g', e⟩
          have hcl := own_cl (htn ▸ hT.o)
          have x9 := hcl.c _ _ (gcl_get (c := fun i => (tk.getD i tv0).cells (sv i) (wv i)) (fun _ _ => rfl) i3 9 (sv i) rfl)
          have hss := hT.s i i3
          have hls := (hT.ls i i3).1
          have HTS : Hid (∀ ss W', ss.length = (tk.getD i tv0).saws.length → Keeps (fun b => (sv i).ownBlock = some b) wr W' → W'.ownsRow base 44 9 (sv i) ss.length (scl ss) → TL base W' (.slice (some ⟨g6, 0, none⟩) M c6) (tk.set i { tk.getD i tv0 with saws := ss }) sv wv ρ m) := fun ss W' h1 h2 h3 => hT.saw i3 ss h1 h2 h3
          have HN2 : Hid (rlK l ts (k + 1) = tk.set i { tk.getD i tv0 with saws := (tk.getD i tv0).saws.map (relS r.entry) }) := by
            show _ = _
            rw [HNX.out]
            unfold relR
            rw [if_pos ⟨hk4, he⟩, en, show ((i : Int) + 1 - 1).toNat = i by omega]
          have HOB : Hid (∀ b, (sv i).ownBlock = some b → base ≤ b) := fun b e => owns_baseT hss b e
          rw [en] at d4
          clear HNX hro en hno hcl hT hk4 he
          obtain ⟨asl, csl, es, -⟩ := own_slice hss
          rw [es] at HTS HOB hss x9
          generalize (tk.getD i tv0).saws = SS at *
          generalize hns : SS.length = ns at *
          obtain ⟨WO, eWO⟩ : ∃ WO, WO = wr := ⟨_, rfl⟩
          have krO : Keeps (fun _ => False) w WO := by rw [eWO]; exact kr
          have kO : Keeps (fun b => (Value.slice asl ns csl).ownBlock = some b) WO wr := by rw [eWO]; exact Keeps.refl _ _
          rw [← eWO] at HTS
          clear eWO
          go_wp2_with fail
          go_loopw [12] (fun jv Wr => ∃ (j : Nat), jv = .int .i64 (j : Int) ∧ j ≤ ns ∧ Wr.ownsRow base 44 9 (.slice asl ns csl) ns (scl (rlJ r.entry SS j)) ∧ Keeps (fun b => (Value.slice asl ns csl).ownBlock = some b) WO Wr) (fun jv _ => ns - (intOf jv).toNat)
          case atStart => exact ⟨0, rfl, Nat.zero_le _, by rw [rlJ_zero]; exact hss, kO⟩
          case round =>
            obtain ⟨j, rfl, hj, ho, kj⟩ := hrel
            clear hss kO
            have KJ : Keeps (fun _ => False) w wr := krO.trans' kj (fun _ _ e => e) (fun i hi e => by have := HOB.out i e; omega)
            by_cases hjt : j < ns
            · have m1 : decide ((j : Int) < (ns : Int)) = true := decide_eq_true (by omega)
              have m2 : (j : Int) < (ns : Int) := by omega
              have m3 : (0 : Int) ≤ (j : Int) := by omega
              have hx2 : (scl (rlJ r.entry SS j))[j * 9 + 2]? = some (.int .i64 (SS.getD j sw0).entry) := scl_getD (by rw [rlJ_len]; omega) (by rw [rlJ_get (by omega)]; rfl)
              have hx5 : (scl (rlJ r.entry SS j))[j * 9 + 5]? = some (.bool (SS.getD j sw0).rel) := scl_getD (by rw [rlJ_len]; omega) (by rw [rlJ_get (by omega)]; rfl)
              obtain ⟨g, rfl⟩ : ∃ g, asl = some ⟨g, 0, none⟩ := by
                rcases ho.2 with ⟨_, h0⟩ | ⟨g', _, _, e, _⟩
                · omega
                · injection e with e _ _
                  exact ⟨g', e⟩
              have hcj := own_cl ho
              have y2 := hcj.c _ _ hx2
              have y5 := hcj.c _ _ hx5
              have z5 := hcj.z (j * 9 + 5) (List.getElem?_eq_some_iff.1 hx5).1
              have d8j := HC.out _ KJ
              have HS1 : Hid ((SS.getD j sw0).entry = r.entry → scl (rlJ r.entry SS (j + 1)) = (scl (rlJ r.entry SS j)).set (j * 9 + 5) (.bool true)) := fun e => rlJ_yes (by omega) e
              have HS0 : Hid ((SS.getD j sw0).entry ≠ r.entry → rlJ r.entry SS (j + 1) = rlJ r.entry SS j) := fun e => rlJ_no (by omega) e
              generalize (SS.getD j sw0).entry = E at *
              generalize (SS.getD j sw0).rel = B at *
              clear hx2 hx5 hcj
              go_wp2_with fail
              refine wp_region_held_drew (S := fun w' => Keeps (fun _ => False) wr w') (by kernel_rfl) (Keeps.refl _ wr).drew (fun hHeld => ?_)
              refine wpAnyH_take (i := 0) (v := ?_) rfl (by kernel_rfl) (by kernel_rfl) (by kernel_rfl) (fun _ _ _ h => h) (Or.inl ⟨by rfl, ?_⟩) (by assumption) ?_
              rotate_left
              · intro wx hSw; clear hSw; go_simp <;> with_reducible rfl
              (try simp only [List.getElem_toArray]); (try simp only [List.getElem_cons_succ]); (try simp only [List.getElem_cons_zero]); (try simp only [Act.put]); (try simp only [List.setIfInBounds_toArray]); (repeat first | simp only [List.set_cons_succ] | simp only [List.set_cons_zero])
              refine wpAnyH_take (i := 1) (v := ?_) rfl (by kernel_rfl) (by kernel_rfl) (by kernel_rfl) (fun _ _ _ h => h) (Or.inl ⟨by rfl, ?_⟩) (by assumption) ?_
              rotate_left
              · intro wx hSw; clear hSw; go_simp <;> with_reducible rfl
              (try simp only [List.getElem_toArray]); (try simp only [List.getElem_cons_succ]); (try simp only [List.getElem_cons_zero]); (try simp only [Act.put]); (try simp only [List.setIfInBounds_toArray]); (repeat first | simp only [List.set_cons_succ] | simp only [List.set_cons_zero])
              refine wpAnyH_take (i := 2) (v := ?_) rfl (by kernel_rfl) (by kernel_rfl) (by kernel_rfl) (fun _ _ _ h => h) (Or.inl ⟨by rfl, ?_⟩) (by assumption) ?_
              rotate_left
              · intro wx hSw; clear hSw; go_simp <;> with_reducible rfl
              (try simp only [List.getElem_toArray]); (try simp only [List.getElem_cons_succ]); (try simp only [List.getElem_cons_zero]); (try simp only [Act.put]); (try simp only [List.setIfInBounds_toArray]); (repeat first | simp only [List.set_cons_succ] | simp only [List.set_cons_zero])
              refine wpAnyH_take (i := 3) (v := ?_) rfl (by kernel_rfl) (by kernel_rfl) (by kernel_rfl) (fun _ _ _ h => h) (Or.inl ⟨by rfl, ?_⟩) (by assumption) ?_
              rotate_left
              · intro wx hSw; clear hSw; go_simp <;> with_reducible rfl
              (try simp only [List.getElem_toArray]); (try simp only [List.getElem_cons_succ]); (try simp only [List.getElem_cons_zero]); (try simp only [Act.put]); (try simp only [List.setIfInBounds_toArray]); (repeat first | simp only [List.set_cons_succ] | simp only [List.set_cons_zero])
              refine wpAnyH_take (i := 4) (v := ?_) rfl (by kernel_rfl) (by kernel_rfl) (by kernel_rfl) (fun _ _ _ h => h) (Or.inl ⟨by rfl, ?_⟩) (by assumption) ?_
              rotate_left
              · intro wx hSw; have p2 := hSw.cell y2 (fun e => e); clear hSw; go_simp <;> with_reducible rfl
              (try simp only [List.getElem_toArray]); (try simp only [List.getElem_cons_succ]); (try simp only [List.getElem_cons_zero]); (try simp only [Act.put]); (try simp only [List.setIfInBounds_toArray]); (repeat first | simp only [List.set_cons_succ] | simp only [List.set_cons_zero])
              refine wpAnyH_take (i := 5) (v := ?_) rfl (by kernel_rfl) (by kernel_rfl) (by kernel_rfl) (fun _ _ _ h => h) (Or.inl ⟨by rfl, ?_⟩) (by assumption) ?_
              rotate_left
              · intro wx hSw; clear hSw; go_simp <;> with_reducible rfl
              (try simp only [List.getElem_toArray]); (try simp only [List.getElem_cons_succ]); (try simp only [List.getElem_cons_zero]); (try simp only [Act.put]); (try simp only [List.setIfInBounds_toArray]); (repeat first | simp only [List.set_cons_succ] | simp only [List.set_cons_zero])
              refine wpAnyH_take (i := 6) (v := ?_) rfl (by kernel_rfl) (by kernel_rfl) (by kernel_rfl) (fun _ _ _ h => h) (Or.inl ⟨by rfl, ?_⟩) (by assumption) ?_
              rotate_left
              · intro wx hSw; clear hSw; go_simp <;> with_reducible rfl
              (try simp only [List.getElem_toArray]); (try simp only [List.getElem_cons_succ]); (try simp only [List.getElem_cons_zero]); (try simp only [Act.put]); (try simp only [List.setIfInBounds_toArray]); (repeat first | simp only [List.set_cons_succ] | simp only [List.set_cons_zero])
              refine wpAnyH_take (i := 7) (v := ?_) rfl (by kernel_rfl) (by kernel_rfl) (by kernel_rfl) (fun _ _ _ h => h) (Or.inl ⟨by rfl, ?_⟩) (by assumption) ?_
              rotate_left
              · intro wx hSw; clear hSw; go_simp <;> with_reducible rfl
              (try simp only [List.getElem_toArray]); (try simp only [List.getElem_cons_succ]); (try simp only [List.getElem_cons_zero]); (try simp only [Act.put]); (try simp only [List.setIfInBounds_toArray]); (repeat first | simp only [List.set_cons_succ] | simp only [List.set_cons_zero])
              refine wpAnyH_take (i := 8) (v := ?_) rfl (by kernel_rfl) (by kernel_rfl) (by kernel_rfl) (fun _ _ _ h => h) (Or.inl ⟨by rfl, ?_⟩) (by assumption) ?_
              rotate_left
              · intro wx hSw; clear hSw; go_simp <;> with_reducible rfl
              (try simp only [List.getElem_toArray]); (try simp only [List.getElem_cons_succ]); (try simp only [List.getElem_cons_zero]); (try simp only [Act.put]); (try simp only [List.setIfInBounds_toArray]); (repeat first | simp only [List.set_cons_succ] | simp only [List.set_cons_zero])
              refine wpAnyH_take (i := 9) (v := ?_) rfl (by kernel_rfl) (by kernel_rfl) (by kernel_rfl) (fun _ _ _ h => h) (Or.inl ⟨by rfl, ?_⟩) (by assumption) ?_
              rotate_left
              · intro wx hSw; have p8 := hSw.cell d8j (fun e => e); clear hSw; go_simp <;> with_reducible rfl
              (try simp only [List.getElem_toArray]); (try simp only [List.getElem_cons_succ]); (try simp only [List.getElem_cons_zero]); (try simp only [Act.put]); (try simp only [List.setIfInBounds_toArray]); (repeat first | simp only [List.set_cons_succ] | simp only [List.set_cons_zero])
              refine wpAnyH_take (i := 10) (v := ?_) rfl (by kernel_rfl) (by kernel_rfl) (by kernel_rfl) (fun _ _ _ h => h) (Or.inl ⟨by rfl, ?_⟩) (by assumption) ?_
              rotate_left
              · intro wx hSw; clear hSw; go_simp <;> with_reducible rfl
              (try simp only [List.getElem_toArray]); (try simp only [List.getElem_cons_succ]); (try simp only [List.getElem_cons_zero]); (try simp only [Act.put]); (try simp only [List.setIfInBounds_toArray]); (repeat first | simp only [List.set_cons_succ] | simp only [List.set_cons_zero])
              refine wpAnyH_done (by kernel_rfl) ?_ _
              have hod := (Keeps.refl (fun _ => False) wr).drew.owns ho (fun _ _ e => e)
              have kjd := kj.trans' (Keeps.refl (fun _ => False) wr).drew (fun _ _ e => e) (fun _ _ e => e.elim)
              by_cases hE : E = r.entry
              · have q1 : (E == r.entry) = true := by simp [hE]
                have ho1 := (hod.stored (j * 9 + 5) (.bool true)).1
                rw [← HS1.out hE] at ho1
                have kj1 : Keeps (fun b => (Value.slice (some ⟨g, 0, none⟩) ns csl).ownBlock = some b) WO (wr.drew.setCell ⟨g, j * 9 + 5, none⟩ (.bool true)) := kjd.trans' ((Keeps.refl (fun b => b = g) wr.drew).setCell (p := ⟨g, j * 9 + 5, none⟩) (fun _ => rfl) _) (fun _ _ e => e) (fun i hi e => by have e : i = g := e; subst e; rfl)
                clear hE HS1 HS0
                go_wp2_with fail
                go_roundw
                case rel => exact ⟨j + 1, by go_num, by omega, ho1, kj1⟩
                case measure => simp [intOf]; omega
              · have q1 : (E == r.entry) = false := by simp [hE]
                have ee := HS0.out hE
                clear hE HS1 HS0
                go_wp2_with fail
                go_roundw
                case rel => exact ⟨j + 1, by go_num, by omega, by rw [ee]; exact hod, kjd⟩
                case measure => simp [intOf]; omega
            · have e : j = ns := by omega
              subst e
              have m1 : decide ((j : Int) < (j : Int)) = false := decide_eq_false (by omega)
              have m4 : decide (j < j) = false := decide_eq_false (by omega)
              rw [rlJ_all _ (by omega)] at ho
              have hT9 := HTS.out (SS.map (relS r.entry)) wr (by rw [List.length_map]; omega) kj (by rw [List.length_map, hns]; exact ho)
              go_wp2_with fail
              go_roundw
              case rel => exact ⟨k + 1, by go_num, by omega, by rw [HN2.out]; exact hT9, KJ⟩
              case measure => simp [intOf]; omega
        · have HN2 : Hid (rlK l ts (k + 1) = tk) := by
            show _ = _
            rw [HNX.out]
            unfold relR
            rw [if_neg (by omega)]
          clear HNX hro
          have s4 : (r.kind == 4) = true := by simp [hk4]
          have e1 : decide (0 ≤ r.entry) = false := decide_eq_false he
          have e2 : ¬ (0 : Int) ≤ r.entry := he
          clear hk4 he
          go_wp2_with fail
          go_roundw
          case rel => exact ⟨k + 1, by go_num, by omega, by rw [HN2.out]; exact hT, kr⟩
          case measure => simp [intOf]; omega
      · have HN2 : Hid (rlK l ts (k + 1) = tk) := by
          show _ = _
          rw [HNX.out]
          unfold relR
          rw [if_neg (by omega)]
        clear HNX hro
        have s4 : (r.kind == 4) = false := by simp [hk4]
        clear hk4
        go_wp2_with fail
        go_roundw
        case rel => exact ⟨k + 1, by go_num, by omega, by rw [HN2.out]; exact hT, kr⟩
        case measure => simp [intOf]; omega
    · have e : k = N := by omega
      subst e
      have l1 : decide ((k : Int) < (k : Int)) = false := decide_eq_false (by omega)
      have l4 : decide (k < k) = false := decide_eq_false (by omega)
      go_wp2_with fail
      exact HP.out _ hT kr
end Go.Proofs.Ytmnmphkkcabkiaa

namespace Go.Proofs.Ytmnmphkkcabkiaa
open Go.RowKit
attribute [local go_sem] Oper.semAt_some run_store_nf run_store_f
set_option maxHeartbeats 1000000 in
set_option maxRecDepth 100000 in
theorem rtxs_no {w : World} {a : Option Addr} {cap i : Nat} {l : List Rw} (hl : RSL w a l) (hlen : l.length ≤ 980000000000) (hf : fstP l 0 (f0 6) = some i) : Calls Try.prog 19 #[.slice a l.length cap] w fun e w' => e = .returned (.tuple #[.slice none 0 0, .int .i64 150]) ∧ Keeps (fun _ => False) w w' := by
  have hck := rcheck_any (cap := cap) hl (by omega)
  rw [hf] at hck
  unfold ansP at hck
  dsimp only at hck
  clear hl hf
  generalize l.length = N at *
  go_enter Try.func19, Try.ntmps19
  go_wp2_with (go_at_call 33; refine hck.mono ?_; clear hck; rintro e w1 ⟨rfl, k1⟩)
  go_ret2
  exact ⟨rfl, k1⟩
set_option maxHeartbeats 1000000 in
set_option maxRecDepth 100000 in
theorem rtxs_ok {w : World} {a : Option Addr} {cap : Nat} {l : List Rw} (hl : RSL w a l) (hlen : l.length ≤ 980000000000) (hf : fstP l 0 (f0 6) = none) : Calls Try.prog 19 #[.slice a l.length cap] w fun e w' => ∃ base lv sv wv ρ, e = .returned (.tuple #[lv, .int .i64 0]) ∧ w.heap.size ≤ base ∧ TL base w' lv (txD l) sv wv ρ l.length ∧ Keeps (fun _ => False) w w' := by
  have hck := rcheck_any (cap := cap) hl (by omega)
  rw [hf] at hck
  unfold ansP at hck
  dsimp only at hck
  have HL : Hid (RSL w a l) := hl
  have HF : Hid (fstP l 0 (f0 6) = none) := hf
  clear hl hf
  unfold txD
  generalize hN : l.length = N at *
  go_enter Try.func19, Try.ntmps19
  refine wp_seq_k (fun KK hKK => ?_)
  have hKH : Hid _ := hKK
  clear hKK
  go_wp2_with fail
  refine hKH.out _ _ ?_
  clear hKH KK
  refine wp_seq_k (fun KK hKK => ?_)
  have hKH : Hid _ := hKK
  clear hKK
  go_wp2_with (go_at_call 33; refine hck.mono ?_; clear hck; rintro e w1 ⟨rfl, k1⟩)
  refine hKH.out _ _ ?_
  clear hKH KK
  refine wp_seq_k (fun KK hKK => ?_)
  have hKH : Hid _ := hKK
  clear hKK
  go_wp2_with fail
  refine hKH.out _ _ ?_
  clear hKH KK
  refine wp_seq_k (fun KK hKK => ?_)
  have hKH : Hid _ := hKK
  clear hKK
  go_wp2_with fail
  refine hKH.out _ _ ?_
  clear hKH KK
  refine wp_seq_k (fun KK hKK => ?_)
  have hKH : Hid _ := hKK
  clear hKK
  go_wp2_with fail
  refine hKH.out _ _ ?_
  clear hKH KK
  have hI := IB.made w1 6 0 86
  have kX := k1.alloc (.cells (List.replicate 6 (.int .i64 0)).toArray 86)
  exact txs_1 HL.out hN hlen HF.out kX hI k1.size rfl (by
    intros
    rename_i hT kk
    exact txs_2 HL.out hN hlen HF.out (Nat.le_trans k1.size (by simp)) hT hlen kk (fun W h1 h2 => ⟨_, _, _, _, _, rfl, Nat.le_trans k1.size (by simp), h1, h2⟩))
end Go.Proofs.Ytmnmphkkcabkiaa

namespace Go.Proofs.Ytmnmphkkcabkiaa
open Go.RowKit
attribute [local go_sem] Oper.semAt_some run_store_nf run_store_f
theorem iSwS : (Try.prog.info? 44).map (·.size) = some 9 := by kernel_rfl
theorem run_swAt {W : World} {b o : Nat} {s : Sw} (hc : ∀ j v, s.cells[j]? = some v → W.cell? ⟨b, o + j, none⟩ = some v) : (loadVar 44 ⟨b, o, none⟩).run Try.prog W = .ok (.agg s.cells.toArray) W :=
  run_loadVar_mid W b o 44 s.cells _ hc Try.underlying44 rfl (by rw [iSwS]; rfl)
end Go.Proofs.Ytmnmphkkcabkiaa

namespace Go.Proofs.Ytmnmphkkcabkiaa
open Go.RowKit Go.Maps Go.ChangeMaps Go.MapKept Go.WideShapes
theorem underI : Try.prog.underlying 3 = some (.int .i64) := by kernel_rfl
theorem underW : Try.prog.underlying 64 = some (.map 3 27) := by kernel_rfl
theorem keyed : Keyed Try.prog 3 := int_keyed underI
theorem tight {H : Type} {P : Program} {k : TypeId} {R : Value → Option (DataW H × List MemPlace)} {w : World} {b n : Nat} {D : DataW H} (h : w.ownsMap P k R b n D) : w.ownsMap P k R b (Maps.size D) D := by
  obtain ⟨es, clock, hb, F, hs, rfl⟩ := h
  exact ⟨es, clock, hb, F, by simp [Maps.size, length_sorted], rfl⟩
def Rh (v : Value) : Option (DataW Value × List MemPlace) := some (.held v, [])
def MV (w : World) (mb n : Nat) (f : Int → Option Value) : Prop :=
  ∃ D : DataW Value, w.ownsMap Try.prog 3 Rh mb n D ∧ Maps.size D = n ∧
    ∀ k, I64 k → Maps.has D (.int .i64 k) = (f k).isSome ∧ ∀ u, f k = some u → ∀ z, D.atKey (.int .i64 k) z = .held u
theorem MV.lt {w : World} {mb n : Nat} {f : Int → Option Value} (h : MV w mb n f) : mb < w.heap.size := by
  obtain ⟨D, h, _⟩ := h
  exact h.lt
theorem MV.same {w w' : World} {mb n : Nat} {f : Int → Option Value} (h : MV w mb n f) (hb : w'.heap[mb]? = w.heap[mb]?) : MV w' mb n f := by
  obtain ⟨D, ⟨es, c, hb', r⟩, r'⟩ := h
  exact ⟨D, ⟨es, c, hb.trans hb', r⟩, r'⟩
theorem MV.keep {w w' : World} {mb n : Nat} {f : Int → Option Value} {S : Nat → Prop} (h : MV w mb n f) (k : Keeps S w w') (hS : ¬ S mb) : MV w' mb n f := h.same (k.block mb h.lt hS)
theorem key_int {k : Int} (h : I64 k) : keyOf Try.prog 3 (.int .i64 k) = some (.int .i64 k) := keyOf_int_mk underI (wf_of_i64 h)
theorem keeps_turned {w w' : World} {b : Nat} (h : w.mapTurned w' b) : Keeps (fun k => k = b) w w' := (Keeps.refl _ w).grown h.grown (fun _ _ e => by cases e; rfl)
theorem ne_key {a b : Int} (h : a ≠ b) : (Lit.int .i64 a) ≠ (Lit.int .i64 b) := fun e => h (by cases e; rfl)
def updV (f : Int → Option Value) (k : Int) (v : Value) : Int → Option Value := fun x => if x = k then some v else f x
theorem MV.put {w : World} {mb n : Nat} {f : Int → Option Value} (h : MV w mb n f) {t e : TypeId} (ht : Try.prog.underlying t = some (.map 3 e)) {k : Int} (hk : I64 k) (v : Value) (hn : n < 9223372036854775807) :
    ∃ w', (Instr.mapUpdate t (.map (some mb)) (.int .i64 k) v).run Try.prog w = .ok () w' ∧ MV w' mb (if (f k).isSome then n else n + 1) (updV f k v) ∧ Keeps (fun i => i = mb) w w' := by
  obtain ⟨D, h1, h2, h3⟩ := h
  obtain ⟨w', hrun, hown, htn⟩ := h1.store keyed ht (by unfold maxLen; omega) (key_int hk) (d := .held v) (ps := []) rfl
  have hT := h1.tidy keyed
  have e := size_put (k := .int .i64 k) hT (.held v)
  rw [(h3 k hk).1, h2] at e
  refine ⟨w', hrun, ⟨D.put (.int .i64 k) (.held v), ?_, e, fun x hx => ?_⟩, keeps_turned htn⟩
  · rw [← e]
    exact tight hown
  · unfold updV
    by_cases c : x = k
    · subst c
      have hkl : WideAt.IsKeyLit (.int .i64 x) := trivial
      rw [if_pos rfl, has_put_same h1.isMap hkl]
      refine ⟨rfl, fun u hu z => ?_⟩
      rw [atKey_put_same h1.isMap hkl, Option.some.inj hu]
    · rw [if_neg c, has_put_other (ne_key c)]
      refine ⟨(h3 x hx).1, fun u hu z => ?_⟩
      rw [atKey_put_other (ne_key c)]
      exact (h3 x hx).2 u hu z
theorem MV.made (w : World) : MV (w.alloc (.map #[] 0)) w.heap.size 0 (fun _ => none) :=
  ⟨.map [], World.ownsMap_made w _ _ _, rfl, fun _ _ => ⟨rfl, fun u hu => by cases hu⟩⟩
def Wo.val (x : Wo) : Value := .agg #[.int .i64 x.vN, .int .i64 x.vX, .bool x.vD]
def wof : List Wo → Int → Option Value
  | [], _ => none
  | x :: l, o => if x.object = o then some x.val else wof l o
def Inc (l : List Wo) : Prop := l.Pairwise (fun x y => x.object < y.object)
theorem wof_app (l m : List Wo) (o : Int) : wof (l ++ m) o = (wof l o).or (wof m o) := by
  induction l with
  | nil => rfl
  | cons x l ih =>
    show (if x.object = o then _ else wof (l ++ m) o) = (if x.object = o then some x.val else wof l o).or _
    split
    · rfl
    · exact ih
end Go.Proofs.Ytmnmphkkcabkiaa

namespace Go.Proofs.Ytmnmphkkcabkiaa
open Go.RowKit
def insW (x : Wo) : List Wo → List Wo
  | [] => [x]
  | y :: l => if y.object = x.object then x :: l else if x.object < y.object then x :: y :: l else y :: insW x l
theorem put_done (x : Wo) : ∀ (l : List Wo) (acc : List Wo), (∀ y ∈ l, y.object ≠ x.object) → l.foldl (putS x) (acc, true) = (acc ++ l, true)
  | [], acc, _ => by simp
  | y :: l, acc, h => by
    have h1 : y.object ≠ x.object := h y (by simp)
    have e : putS x (acc, true) y = (acc ++ [y], true) := by
      unfold putS
      rw [if_neg h1, if_neg (fun e => by cases e.1)]
    rw [List.foldl_cons, e, put_done x l _ (fun z hz => h z (by simp [hz]))]
    simp
theorem put_run (x : Wo) : ∀ (l : List Wo) (acc : List Wo), Inc l → (if (l.foldl (putS x) (acc, false)).2 then (l.foldl (putS x) (acc, false)).1 else (l.foldl (putS x) (acc, false)).1 ++ [x]) = acc ++ insW x l
  | [], acc, _ => by simp [insW]
  | y :: l, acc, h => by
    have hy := (List.pairwise_cons.1 h).1
    have hl := (List.pairwise_cons.1 h).2
    unfold insW
    rw [List.foldl_cons]
    by_cases h1 : y.object = x.object
    · have e : putS x (acc, false) y = (acc ++ [x], true) := by
        unfold putS
        rw [if_pos h1]
      rw [if_pos h1, e, put_done x l _ (fun z hz => by have := hy z hz; omega)]
      simp
    · rw [if_neg h1]
      by_cases h2 : x.object < y.object
      · have e : putS x (acc, false) y = (acc ++ [x] ++ [y], true) := by
          unfold putS
          rw [if_neg h1, if_pos ⟨rfl, h2⟩]
        rw [if_pos h2, e, put_done x l _ (fun z hz => by have := hy z hz; omega)]
        simp
      · have e : putS x (acc, false) y = (acc ++ [y], false) := by
          unfold putS
          rw [if_neg h1, if_neg (fun e => h2 e.2)]
        rw [if_neg h2, e, put_run x l _ hl]
        simp
theorem putD_ins {l : List Wo} (h : Inc l) (x : Wo) : putD l x = insW x l := by
  have := put_run x l [] h
  unfold putD putK
  rw [List.take_length]
  simpa using this
theorem mem_ins {x z : Wo} : ∀ {l : List Wo}, z ∈ insW x l → z = x ∨ z ∈ l
  | [], h => by
    have h : z ∈ [x] := h
    simp at h
    exact .inl h
  | y :: l, h => by
    unfold insW at h
    split at h
    · rcases List.mem_cons.1 h with h | h
      · exact .inl h
      · exact .inr (by simp [h])
    · split at h
      · rcases List.mem_cons.1 h with h | h
        · exact .inl h
        · exact .inr h
      · rcases List.mem_cons.1 h with h | h
        · exact .inr (by simp [h])
        · rcases mem_ins h with h | h
          · exact .inl h
          · exact .inr (by simp [h])
theorem Inc.ins {x : Wo} : ∀ {l : List Wo}, Inc l → Inc (insW x l)
  | [], _ => List.pairwise_cons.2 ⟨fun _ h => by simp at h, List.Pairwise.nil⟩
  | y :: l, h => by
    have hy := (List.pairwise_cons.1 h).1
    have hl := (List.pairwise_cons.1 h).2
    unfold insW
    by_cases h1 : y.object = x.object
    · rw [if_pos h1]
      exact List.pairwise_cons.2 ⟨fun z hz => by have := hy z hz; omega, hl⟩
    · rw [if_neg h1]
      by_cases h2 : x.object < y.object
      · rw [if_pos h2]
        refine List.pairwise_cons.2 ⟨fun z hz => ?_, h⟩
        rcases List.mem_cons.1 hz with rfl | hz
        · exact h2
        · have := hy z hz; omega
      · rw [if_neg h2]
        refine List.pairwise_cons.2 ⟨fun z hz => ?_, Inc.ins hl⟩
        rcases mem_ins hz with rfl | hz
        · omega
        · exact hy z hz
theorem wof_none {o : Int} : ∀ {l : List Wo}, (∀ y ∈ l, y.object ≠ o) → wof l o = none
  | [], _ => rfl
  | y :: l, h => by
    unfold wof
    rw [if_neg (h y (by simp))]
    exact wof_none (fun z hz => h z (by simp [hz]))
theorem wof_ins {x : Wo} : ∀ {l : List Wo}, Inc l → ∀ o, wof (insW x l) o = updV (wof l) x.object x.val o
  | [], _, o => by
    show (if x.object = o then some x.val else none) = (if o = x.object then some x.val else none)
    by_cases e : x.object = o
    · rw [if_pos e, if_pos e.symm]
    · rw [if_neg e, if_neg (fun h => e h.symm)]
  | y :: l, h, o => by
    have hy := (List.pairwise_cons.1 h).1
    have hl := (List.pairwise_cons.1 h).2
    unfold updV
    unfold insW
    by_cases h1 : y.object = x.object
    · rw [if_pos h1]
      show (if x.object = o then some x.val else wof l o) = (if o = x.object then some x.val else if y.object = o then some y.val else wof l o)
      by_cases e : x.object = o
      · rw [if_pos e, if_pos e.symm]
      · rw [if_neg e, if_neg (fun h => e h.symm), if_neg (fun h => e (h1 ▸ h))]
    · rw [if_neg h1]
      by_cases h2 : x.object < y.object
      · rw [if_pos h2]
        show (if x.object = o then some x.val else wof (y :: l) o) = _
        by_cases e : x.object = o
        · rw [if_pos e, if_pos e.symm]
        · rw [if_neg e, if_neg (fun h => e h.symm)]
      · rw [if_neg h2]
        show (if y.object = o then some y.val else wof (insW x l) o) = (if o = x.object then some x.val else if y.object = o then some y.val else wof l o)
        rw [wof_ins hl o]
        unfold updV
        by_cases e : y.object = o
        · rw [if_pos e, if_pos e, if_neg (fun h => h1 (e.trans h))]
        · rw [if_neg e, if_neg e]
end Go.Proofs.Ytmnmphkkcabkiaa

namespace Go.Proofs.Ytmnmphkkcabkiaa
open Go.RowKit
attribute [local go_sem] Oper.semAt_some run_store_nf run_store_f
def cf (c : Int → Nat) : Int → Option Value := fun k => if c k = 0 then none else some (.int .i64 (c k : Int))
structure PA (base : Nat) (W : World) (p : Nat) (t : Tv) (sv : Value) (wb rb : Nat) (c : Int → Nat) (m : Nat) : Prop where
  cl : CL W p (t.cells sv nilv ++ [.map (some wb), .map (some rb)])
  s : W.ownsRow base 44 9 sv t.saws.length (scl t.saws)
  w : MV W wb t.wrs.length (wof t.wrs)
  i : Inc t.wrs
  r : ∃ n, n ≤ m ∧ MV W rb n (cf c)
  n1 : wb ≠ p
  n2 : rb ≠ p
  n3 : wb ≠ rb
  sb : ∀ b, sv.ownBlock = some b → b ≠ p ∧ b ≠ wb ∧ b ≠ rb
  cm : ∀ k, c k ≤ m
  ls : t.saws.length ≤ m ∧ t.wrs.length ≤ m
theorem PA.keep {base p wb rb m : Nat} {W W' : World} {t : Tv} {sv : Value} {c : Int → Nat} (h : PA base W p t sv wb rb c m) {S : Nat → Prop} (k : Keeps S W W') (h1 : ¬ S p) (h2 : ¬ S wb) (h3 : ¬ S rb) (h4 : ∀ b, sv.ownBlock = some b → ¬ S b) : PA base W' p t sv wb rb c m :=
  ⟨h.cl.keep (by show 0 < 13; decide) k h1, k.owns h.s h4, h.w.keep k h2, h.i, (by obtain ⟨n, hn, hr⟩ := h.r; exact ⟨n, hn, hr.keep k h3⟩), h.n1, h.n2, h.n3, h.sb, h.cm, h.ls⟩
end Go.Proofs.Ytmnmphkkcabkiaa

namespace Go.Proofs.Ytmnmphkkcabkiaa
open Go.RowKit Go.WideShapes
attribute [local go_sem] Oper.semAt_some run_store_nf run_store_f
def relC (c : Int → Nat) (r : Rw) : Int → Nat := if r.kind = 4 ∧ r.entry ≠ -1 then fun k => if k = r.entry then c k + 1 else c k else c
structure PL (base : Nat) (w X : World) (B p : Nat) (r : Rw) (t : Tv) (sv0 sv : Value) (wb rb : Nat) (c : Int → Nat) (m : Nat) : Prop where
  ro : CL X B r.cells
  a : PA base X p t sv wb rb c (m + 1)
  cc : ∀ k, c k ≤ m
  cr : ∃ n, n ≤ m ∧ MV X rb n (cf c)
  k : Keeps (fun b => b = p ∨ b = wb ∨ b = rb ∨ sv0.ownBlock = some b) w X
  b1 : p < B
  b2 : wb < B
  b3 : rb < B
  eb : w.heap.size = B
  bs : ∀ b, sv.ownBlock = some b → sv0.ownBlock = some b ∨ B < b
  b0 : ∀ b, sv0.ownBlock = some b → b < B
  bb : base ≤ B
  lt : B < X.heap.size
structure PF (base : Nat) (w X : World) (p : Nat) (t : Tv) (sv0 sv : Value) (wb rb : Nat) (c : Int → Nat) (m : Nat) : Prop where
  a : PA base X p t sv wb rb c (m + 1)
  k : Keeps (fun b => b = p ∨ b = wb ∨ b = rb ∨ sv0.ownBlock = some b) w X
  bs : ∀ b, sv.ownBlock = some b → sv0.ownBlock = some b ∨ w.heap.size ≤ b
theorem PL.fin {base B p wb rb m : Nat} {w X : World} {r : Rw} {t : Tv} {sv0 sv : Value} {c : Int → Nat} (h : PL base w X B p r t sv0 sv wb rb c m) : PF base w X p t sv0 sv wb rb c m :=
  ⟨h.a, h.k, fun b e => (h.bs b e).imp id (fun e => by have := h.eb; omega)⟩
theorem PL.ne {base B p wb rb m : Nat} {w X : World} {r : Rw} {t : Tv} {sv0 sv : Value} {c : Int → Nat} (h : PL base w X B p r t sv0 sv wb rb c m) : ∀ b, sv.ownBlock = some b → b ≠ B := fun b e e' => by
  rcases h.bs b e with h1 | h1
  · have := h.b0 b h1; omega
  · omega
structure S2 (p B : Nat) (l : List Value) (r : Rw) (W : World) : Prop where
  a : CL W p l
  r : CL W B r.cells
def lrT1 (f : Func) : Code := match f.body with | some (.seq _ t) => t | _ => .skip
def lrT2 (f : Func) : Code := match f.body with | some (.seq _ (.seq _ t)) => t | _ => .skip
def lrT3 (f : Func) : Code := match f.body with | some (.seq _ (.seq _ (.seq _ t))) => t | _ => .skip
def lrT4 (f : Func) : Code := match f.body with | some (.seq _ (.seq _ (.seq _ (.seq _ t)))) => t | _ => .skip
def lrT5 (f : Func) : Code := match f.body with | some (.seq _ (.seq _ (.seq _ (.seq _ (.seq _ t))))) => t | _ => .skip
theorem ins_len {x : Wo} : ∀ {l : List Wo}, Inc l → (insW x l).length = if (wof l x.object).isSome then l.length else l.length + 1
  | [], _ => rfl
  | y :: l, h => by
    have hy := (List.pairwise_cons.1 h).1
    have hl := (List.pairwise_cons.1 h).2
    unfold insW
    by_cases h1 : y.object = x.object
    · rw [if_pos h1]
      unfold wof
      rw [if_pos h1]
      rfl
    · rw [if_neg h1]
      by_cases h2 : x.object < y.object
      · rw [if_pos h2, wof_none (l := y :: l) (fun z hz => by
          rcases List.mem_cons.1 hz with rfl | hz
          · omega
          · have := hy z hz; omega)]
        rfl
      · rw [if_neg h2]
        unfold wof
        rw [if_neg h1]
        show (insW x l).length + 1 = _
        rw [ins_len hl]
        cases (wof l x.object).isSome <;> rfl
end Go.Proofs.Ytmnmphkkcabkiaa

namespace Go.Proofs.Ytmnmphkkcabkiaa
open Go.RowKit Go.WideShapes
attribute [local go_sem] Oper.semAt_some run_store_nf run_store_f
theorem PL.put {base B p wb rb m : Nat} {w X X' : World} {r : Rw} {t t' : Tv} {sv0 sv : Value} {c : Int → Nat} (h : PL base w X B p r t sv0 sv wb rb c m) (kk : Keeps (fun b => b = p) X X') (hc : CL X' p (t'.cells sv nilv ++ [.map (some wb), .map (some rb)])) (es : t'.saws = t.saws) (ew : t'.wrs = t.wrs) : PL base w X' B p r t' sv0 sv wb rb c m := by
  have b1 := h.b1
  refine ⟨h.ro.keep (by show 0 < 26; decide) kk (fun e => by have e : B = p := e; omega), ⟨hc, ?_, ?_, ?_, ?_, h.a.n1, h.a.n2, h.a.n3, h.a.sb, h.a.cm, ?_⟩, h.cc, ?_, ?_, h.b1, h.b2, h.b3, h.eb, h.bs, h.b0, h.bb, Nat.lt_of_lt_of_le h.lt kk.size⟩
  · rw [es]
    exact kk.owns h.a.s (fun b e1 e2 => (h.a.sb b e1).1 e2)
  · rw [ew]
    exact h.a.w.keep kk h.a.n1
  · rw [ew]
    exact h.a.i
  · obtain ⟨n, h1, h2⟩ := h.a.r
    exact ⟨n, h1, h2.keep kk h.a.n2⟩
  · rw [es, ew]
    exact h.a.ls
  · obtain ⟨n, h1, h2⟩ := h.cr
    exact ⟨n, h1, h2.keep kk h.a.n2⟩
  · exact h.k.trans' kk (fun _ _ e => e) (fun b _ e => .inl e)
theorem PL.saw {base B p wb rb m : Nat} {w X X' : World} {r : Rw} {t : Tv} {sv0 sv sv' : Value} {c : Int → Nat} (h : PL base w X B p r t sv0 sv wb rb c m) (kk : Keeps (fun b => b = p ∨ sv.ownBlock = some b) X X') (s : Sw) (hl : t.saws.length ≤ m) (hc : CL X' p (t.cells sv' nilv ++ [.map (some wb), .map (some rb)])) (hs : X'.ownsRow base 44 9 sv' (t.saws.length + 1) (scl (t.saws ++ [s]))) (hb : ∀ b, sv'.ownBlock = some b → sv.ownBlock = some b ∨ X.heap.size ≤ b) : PL base w X' B p r { t with saws := t.saws ++ [s] } sv0 sv' wb rb c m := by
  have b1 := h.b1
  have b2 := h.b2
  have b3 := h.b3
  have lt := h.lt
  have hn : ∀ b, b = p ∨ sv.ownBlock = some b → b ≠ B ∧ b ≠ wb ∧ b ≠ rb := fun b e => by
    rcases e with e | e
    · have := h.a.n1
      have := h.a.n2
      refine ⟨by omega, by omega, by omega⟩
    · exact ⟨h.ne b e, (h.a.sb b e).2⟩
  refine ⟨h.ro.keep (by show 0 < 26; decide) kk (fun e => (hn _ e).1 rfl), ⟨hc, ?_, h.a.w.keep kk (fun e => (hn _ e).2.1 rfl), h.a.i, ?_, h.a.n1, h.a.n2, h.a.n3, fun b e => ?_, h.a.cm, ?_, h.a.ls.2⟩, h.cc, ?_, ?_, h.b1, h.b2, h.b3, h.eb, fun b e => ?_, h.b0, h.bb, Nat.lt_of_lt_of_le h.lt kk.size⟩
  · rw [List.length_append]
    exact hs
  · obtain ⟨n, h1, h2⟩ := h.a.r
    exact ⟨n, h1, h2.keep kk (fun e => (hn _ e).2.2 rfl)⟩
  · rcases hb b e with h1 | h1
    · exact h.a.sb b h1
    · refine ⟨by omega, by omega, by omega⟩
  · rw [List.length_append]
    show t.saws.length + 1 ≤ m + 1
    omega
  · obtain ⟨n, h1, h2⟩ := h.cr
    exact ⟨n, h1, h2.keep kk (fun e => (hn _ e).2.2 rfl)⟩
  · refine h.k.trans' kk (fun _ _ e => e) (fun b hb e => ?_)
    rcases e with e | e
    · exact .inl e
    · rcases h.bs b e with h1 | h1
      · exact .inr (.inr (.inr h1))
      · have := h.eb; omega
  · rcases hb b e with h1 | h1
    · exact h.bs b h1
    · exact .inr (by omega)
end Go.Proofs.Ytmnmphkkcabkiaa

namespace Go.Proofs.Ytmnmphkkcabkiaa
open Go.RowKit Go.WideShapes
attribute [local go_sem] Oper.semAt_some run_store_nf run_store_f
end Go.Proofs.Ytmnmphkkcabkiaa

