import Derived.Test.YtfbbllokpikbiaaGrP
namespace Go.Proofs.Ytfbbllokpikbiaa
open Go.RowKit Go.Deep
attribute [local go_sem] Oper.semAt_some run_store_nf run_store_f
/-- The document's Order on its way. -/
structure DO (base : Nat) (w W : World) (g : List Eg) (n C : Nat) (v : Value) (L : List Nat) (M : Nat → Bool) : Prop where
  o : OrdL g n L
  c : FB W C n (mks M)
  m : ∀ u, u < n → (M u = true ↔ u ∈ L)
  r : W.ownsRow base 3 1 v L.length (pvs L)
  k : Keeps (fun _ => False) w W
  b : base ≤ W.heap.size
set_option maxHeartbeats 1500000 in
set_option maxRecDepth 100000 in
theorem rOrder_any {w : World} {a : Option Addr} {cap : Nat} {l : List Ed} (n : Int) (hl : EL w a l) (hlen : l.length ≤ 4398046510976) : Calls Try.prog 13 #[.int .i64 n, .slice a l.length cap] w (OrP n l w) := by
  have hfa := refused_any (cap := cap) n hl (by omega)
  have HP : Hid (∀ v L ok ec w', w'.ownsRow w.heap.size 3 1 v L.length (pvs L) → OrA n l L ok ec → Keeps (fun _ => False) w w' → OrP n l w (.returned (.tuple #[v, .bool ok, .int .i64 ec])) w') := fun v L ok ec w' h1 h2 h3 => ⟨v, L, ok, ec, rfl, h1, h2, h3⟩
  by_cases h0 : fltG n l = 0
  · obtain ⟨m, g, rfl, hm, rfl, hbl⟩ := good_eg h0
    have HPX : Hid (∀ v L w', w'.ownsRow w.heap.size 3 1 v L.length (pvs L) → OrdL g m L → (∀ u, ¬ Fre g m L u) → Keeps (fun _ => False) w w' → OrP (m : Int) (g.map Eg.ed) w (.returned (.tuple #[v, .bool (decide (L.length = m)), .int .i64 0])) w') := fun v L w' h1 h2 h3 h4 => HP.out v L _ 0 w' h1 (OrA.ok h0 h2 h3) h4
    rw [List.length_map] at hlen
    have HFI : Hid (∀ W C L M, Keeps (fun _ => False) w W → FB W C m (mks M) → (∀ u, u < m → (M u = true ↔ u ∈ L)) → Calls Try.prog 30 #[.int .i64 (m : Int), .slice a g.length cap, .slice (some ⟨C, 0, none⟩) m m] W (FiP g m L W)) := fun W C L M k h1 h2 => first_any (hl.keep k) hbl hm (by omega) h1 h2
    have HMK : Hid (∀ W : World, ∃ W2, (Instr.makeSlice 70 (.int .i64 (m : Int)) (.int .i64 (m : Int))).run Try.prog W = .ok (.slice (some ⟨W.heap.size, 0, none⟩) m m) W2 ∧ Keeps (fun _ => False) W W2 ∧ FB W2 W.heap.size m (mks (fun _ => false)) ∧ W2.heap.size = W.heap.size + 1) := fun W => ⟨_, run_make_row' (P := Try.prog) 70 4 (.bool false) 1 Try.underlying70 bInfo rfl .i64 .i64 m (by omega) (by omega) W, (Keeps.refl _ W).alloc _, FB.made W m (.bool false) 4, by simp⟩
    rw [h0] at hfa
    clear HP h0 hl
    rw [List.length_map] at hfa ⊢
    generalize g.length = N at *
    go_enter Try.func13, Try.ntmps13
    go_wp2_with (first | (go_at_call 24; refine hfa.mono ?_; clear hfa; rintro e w1 ⟨rfl, k1⟩; obtain ⟨W2, hmk, k2, hF2, hz2⟩ := HMK.out w1; have HZ2 : Hid (W2.heap.size = w1.heap.size + 1) := hz2; clear hz2 HMK; have hfi := HFI.out W2 w1.heap.size [] _ (k1.trans k2) hF2 (fun u _ => (by simp))) | (go_at_call 30; refine hfi.mono ?_; clear hfi; rintro e w3 ⟨r, rfl, hr3, k3⟩))
    have HD0 : Hid (DO W2.heap.size w w3 g m w1.heap.size (.slice none 0 0) [] (fun _ => false)) := ⟨.nil, hF2.keep k3 (fun e => e), fun u _ => by simp, World.ownsRow_nil _ _ _ _, (k1.trans k2).trans k3, k3.size⟩
    have HW1 : Hid (w.heap.size ≤ w1.heap.size) := k1.size
    have HR0 : Hid (FiR g m [] r) := hr3
    clear hF2 k1 k2 k3 hr3 hmk
    generalize hC : w1.heap.size = C at *
    have HC2 : Hid (W2.heap.size = C + 1) := HZ2.out
    clear HZ2 hC
    generalize hB : W2.heap.size = B at *
    clear hB
    go_loopg [8, 10] m (fun gh lv rv Wr => ∃ (L : List Nat) (la : Option Addr) (lc : Nat) (M : Nat → Bool) (r : Int), lv = .slice la L.length lc ∧ rv = .int .i64 r ∧ gh + L.length = m ∧ DO B w Wr g m C (.slice la L.length lc) L M ∧ FiR g m L r)
    case atStart => exact ⟨[], none, 0, _, r, rfl, rfl, rfl, HD0.out, HR0.out⟩
    case round =>
      obtain ⟨L, la, lc, M, r2, rfl, rfl, hgh, hD, hR⟩ := hrel
      clear HD0 HR0
      rcases hR with ⟨v, rfl, hf, hle⟩ | ⟨rfl, hno⟩
      · have hvm := hf.1
        have d1 : decide ((v : Int) ≥ 0) = true := decide_eq_true (by omega)
        have d2 : decide ((0 : Int) ≤ (v : Int)) = true := decide_eq_true (by omega)
        have j1 : (0 : Int) ≤ (v : Int) := by omega
        have j2 : (v : Int) < (m : Int) := by omega
        have hFB := hD.c
        have hlen2 := hD.o.len
        have HO2 : Hid (OrdL g m (L ++ [v])) := hD.o.snoc hf hle
        have HX : Hid (∀ w4, FB w4 C m (upV (mks M) v (.bool true)) → Keeps (fun k => k = C) wr w4 → ∃ a5 c5 W5, (Builtin.append_ #[35, 35] 35 #[.slice la L.length lc, .slice (some ⟨w4.heap.size, 0, none⟩) 1 1]).run Try.prog (w4.alloc (.cells #[.int .i64 (v : Int)] 3)) = .ok (.slice a5 (L.length + 1) c5) W5 ∧ DO B w W5 g m C (.slice a5 (L.length + 1) c5) (L ++ [v]) (upB M v)) := fun w4 hf4 k4 => by
          have hzb := HC2.out
          have hzw := HW1.out
          have hr4 : w4.ownsRow B 3 1 (.slice la L.length lc) L.length (pvs L) := k4.owns hD.r (fun b h1 h2 => by have := owns_baseT hD.r b h1; have h2 : b = C := h2; omega)
          obtain ⟨a5, c5, W5, q1, q2, q3, -⟩ := append_n hr4 (by have := k4.size; have := hD.b; omega) (by omega) v
          refine ⟨a5, c5, W5, q1, HO2.out, (hf4.congr (fun p _ => mks_up p)).keep q3 (fun e => by have := owns_baseT hr4 _ e; omega), fun u hu => ?_, by rw [List.length_append]; exact q2, ?_, by have := k4.size; have := q3.size; have := hD.b; omega⟩
          · unfold upB
            rw [List.mem_append, List.mem_singleton, ← hD.m u hu]
            by_cases e : u = v
            · simp [e]
            · simp [e]
          · exact (hD.k.trans' k4 (fun _ _ e => e) (fun i hi e => by have e : i = C := e; omega)).trans' q3 (fun _ _ e => e) (fun i hi e => by have := owns_baseT hr4 i e; omega)
        clear hD hf hle
        go_wp2_with (first | (refine wpList_store_fb rfl rfl _ _ rfl C v rfl true rfl hFB hvm ?_; intro w4 hf4 k4 hz4; clear hz4 hFB; obtain ⟨a5, c5, W5, hr5, hD5⟩ := HX.out w4 hf4 k4; clear HX hf4; have hfi := HFI.out W5 C (L ++ [v]) _ hD5.k hD5.c hD5.m; have HD5 : Hid (DO B w W5 g m C (.slice a5 (L.length + 1) c5) (L ++ [v]) (upB M v)) := hD5; clear hD5) | (at_builtin; refine wpList_append_tL rfl _ _ _ rfl _ _ _ W5 rfl rfl hr5 ?_; clear hr5) | (go_at_call 30; refine hfi.mono ?_; clear hfi; rintro e w6 ⟨r6, rfl, hr6, k6⟩))
        have hln := HO2.out.len
        rw [List.length_append] at hln
        have hln : L.length + 1 ≤ m := hln
        go_roundg (gk - 1)
        case measure => omega
        case rel =>
          have h5 := HD5.out
          refine ⟨L ++ [v], a5, c5, upB M v, r6, by rw [List.length_append]; rfl, rfl, by rw [List.length_append]; show gk - 1 + (L.length + 1) = m; omega, ?_, hr6⟩
          rw [List.length_append]
          exact ⟨h5.o, h5.c.keep k6 (fun e => e), h5.m, k6.owns h5.r (fun _ _ e => e), h5.k.trans k6, Nat.le_trans h5.b k6.size⟩
      · have d1 : decide ((-1 : Int) ≥ 0) = false := by decide
        have HX : Hid (OrP (m : Int) (g.map Eg.ed) w (.returned (.tuple #[.slice la L.length lc, .bool (decide (L.length = m)), .int .i64 0])) wr) := HPX.out _ L wr (owns_low hD.r (by have := HC2.out; have := HW1.out; omega)) hD.o hno hD.k
        clear hD hno
        obtain ⟨Q, hQ⟩ : ∃ Q, Q = L.length := ⟨_, rfl⟩
        rw [← hQ] at HX
        rw [← hQ]
        clear hQ
        have s1 : ((Q : Int) == (m : Int)) = decide (Q = m) := by rw [Bool.eq_iff_iff, beq_iff_eq, decide_eq_true_iff]; omega
        have s2 : (Q == m) = decide (Q = m) := by rw [Bool.eq_iff_iff]; simp
        go_wp2_with fail
        generalize decide (Q = m) = bb at *
        go_ret3
        exact HX.out
  · have s1 : (fltG n l == 0) = false := by rw [beq_eq_false_iff_ne]; exact h0
    have s2 : (fltG n l != 0) = true := by rw [bne_iff_ne]; exact h0
    have HPX : Hid (∀ w', Keeps (fun _ => False) w w' → OrP n l w (.returned (.tuple #[.slice none 0 0, .bool false, .int .i64 (fltG n l)])) w') := fun w' k => HP.out _ [] _ _ w' (World.ownsRow_nil _ _ _ _) (.inl ⟨h0, rfl, rfl, rfl⟩) k
    clear HP h0
    generalize fltG n l = R at *
    generalize l.length = N at *
    go_enter Try.func13, Try.ntmps13
    go_wp2_with (go_at_call 24; refine hfa.mono ?_; clear hfa; rintro e w1 ⟨rfl, k1⟩)
    go_ret3
    exact HPX.out _ k1
set_option maxHeartbeats 1500000 in
set_option maxRecDepth 100000 in
theorem sameInts_ok {w : World} {a b : Option Addr} {xs : List Nat} (ca cb : Nat) (ha : PM w a xs) (hb : PM w b xs) (hn : xs.length ≤ 4611686018427387904) : Calls Try.prog 15 #[.slice a xs.length ca, .slice b xs.length cb] w fun e w' => e = .returned (.bool true) ∧ Keeps (fun _ => False) w w' := by
  have HA : Hid (PM w a xs) := ha
  have HB : Hid (PM w b xs) := hb
  clear ha hb
  generalize hN : xs.length = N at *
  have HN : Hid (xs.length = N) := hN
  clear hN
  have hnn : ((N : Int) != (N : Int)) = false := by simp
  have hnm : (N != N) = false := by simp
  go_enter Try.func15, Try.ntmps15
  go_wp2_with fail
  go_loopw [5] (fun iv Wr => ∃ k : Nat, iv = .int .i64 (k : Int) ∧ k ≤ N ∧ Keeps (fun _ => False) w Wr) (fun iv _ => N - (intOf iv).toNat)
  case atStart => exact ⟨0, rfl, Nat.zero_le _, Keeps.refl _ w⟩
  case round =>
    obtain ⟨k, rfl, hk, kr⟩ := hrel
    by_cases hlt : k < N
    · have hltI : decide ((k : Int) < (N : Int)) = true := decide_eq_true (by omega)
      have hltN : decide (k < N) = true := decide_eq_true hlt
      have hltJ : (k : Int) < (N : Int) := by omega
      have hk0 : (0 : Int) ≤ (k : Int) := by omega
      have hw1 : IntKind.i64.wrap ((k : Int) + 1) = (k : Int) + 1 := by rw [IntKind.wrap_i64]; omega
      obtain ⟨ba, o1, rfl, c1⟩ := HA.out k (by rw [HN.out]; exact hlt)
      obtain ⟨bb, o2, rfl, c2⟩ := HB.out k (by rw [HN.out]; exact hlt)
      have p1 : ∀ u : KS wr, u.1.cell? ⟨ba, o1 + k, none⟩ = some (.int .i64 ((xs.getD k 0 : Nat) : Int)) := ks_cell (kr.cell c1 (fun e => e))
      have p2 : ∀ u : KS wr, u.1.cell? ⟨bb, o2 + k, none⟩ = some (.int .i64 ((xs.getD k 0 : Nat) : Int)) := ks_cell (kr.cell c2 (fun e => e))
      clear c1 c2
      generalize xs.getD k 0 = x at *
      have t1 : ((x : Int) != (x : Int)) = false := by simp
      have t2 : (x != x) = false := by simp
      have hNE : Nonempty (KS wr) := ⟨⟨wr, Keeps.refl _ wr⟩⟩
      go_wp2_with fail
      refine wp_region_ks (by kernel_rfl) (by kernel_rfl) ?_
      (repeat (first | go_big_quiet_skip | go_big_quiet_step (fail)))
      refine wpQuiet_nil ?_
      rintro _ ⟨u, rfl⟩
      have ku := kr.trans u.property
      generalize u.val = wu at *
      clear hNE p1 p2
      go_wp2_with fail
      go_roundw
      case rel => exact ⟨k + 1, by go_num, by omega, ku⟩
      case measure => simp [intOf]; omega
    · have hltI : decide ((k : Int) < (N : Int)) = false := decide_eq_false (by omega)
      have hltN : decide (k < N) = false := decide_eq_false hlt
      go_wp2_with fail
      go_ret
      exact ⟨rfl, kr⟩
def e20 : Ed := ⟨2, 0, 0, 0⟩
def e31 : Ed := ⟨3, 1, 0, 0⟩
def g4 : List Eg := [⟨2, 0, 0, 0⟩, ⟨3, 1, 0, 0⟩]
instance (g : List Eg) (n : Nat) (L : List Nat) (v : Nat) : Decidable (Fre g n L v) := by unfold Fre; infer_instance
theorem fst_lt {g : List Eg} {n : Nat} {L : List Nat} {v : Nat} (h : ∀ u, u < n → Fre g n L u → v ≤ u) : ∀ u, Fre g n L u → v ≤ u := fun u hu => h u hu.1 hu
theorem ord4 : OrA 4 [e20, e31] [2, 0, 3, 1] true 0 := .inr ⟨by decide, rfl, fun m g e1 e2 => by
  obtain rfl : m = 4 := by omega
  have e3 : [e20, e31] = g4.map Eg.ed := rfl
  rw [e3] at e2
  rw [← eg_inj e2]
  refine ⟨((((OrdL.nil (g := g4) (n := 4)).snoc (v := 2) (by decide) (fst_lt (by decide))).snoc (v := 0) (by decide) (fst_lt (by decide))).snoc (v := 3) (by decide) (fst_lt (by decide))).snoc (v := 1) (by decide) (fst_lt (by decide)), fun u hu => ?_, rfl⟩
  have h : ∀ u, u < 4 → ¬ Fre g4 4 [2, 0, 3, 1] u := by decide
  exact h u hu.1 hu⟩
set_option maxHeartbeats 1500000 in
set_option maxRecDepth 100000 in
theorem fixed_any (w : World) : Calls Try.prog 16 #[] w fun e w' => e = .returned (.bool true) ∧ Keeps (fun _ => False) w w' := by
  have hor : Calls Try.prog 14 #[.int .i64 4, .slice (some ⟨w.heap.size, 0, none⟩) 2 2] (w.alloc (.cells (e20.cells ++ e31.cells).toArray 32)) fun e w' => ∃ va vc, e = .returned (.tuple #[.slice va 4 vc, .bool true, .int .i64 0]) ∧ PM w' va [2, 0, 3, 1] ∧ Keeps (fun _ => False) w w' := by
    refine (Order_any (cap := 2) (l := [e20, e31]) 4 (el_made w [e20, e31]) (by decide)).mono ?_
    rintro e w' ⟨v, L, ok, ec, rfl, hr, hA, k⟩
    obtain ⟨rfl, rfl, rfl⟩ := hA.one ord4
    obtain ⟨va, vc, rfl, -⟩ := own_slice hr
    exact ⟨va, vc, rfl, PM.of hr, ((Keeps.refl _ w).alloc _).trans k⟩
  have HSI : Hid (∀ (W : World) va vc, PM W va [2, 0, 3, 1] → Calls Try.prog 15 #[.slice va 4 vc, .slice (some ⟨W.heap.size, 0, none⟩) 4 4] (W.alloc (.cells #[.int .i64 2, .int .i64 0, .int .i64 3, .int .i64 1] 3)) fun e w' => e = .returned (.bool true) ∧ Keeps (fun _ => False) W w') := fun W va vc h => by
    have ka := (Keeps.refl (fun _ => False) W).alloc (.cells #[.int .i64 2, .int .i64 0, .int .i64 3, .int .i64 1] 3)
    refine (sameInts_ok (xs := [2, 0, 3, 1]) vc 4 (h.keep ka) (fun i hi => ⟨_, 0, rfl, ?_⟩) (by decide)).mono ?_
    · have hc := (CL.made W (pvs [2, 0, 3, 1]) 3).c i (.int .i64 (([2, 0, 3, 1].getD i 0 : Nat) : Int)) (by
        unfold pvs
        rw [List.getElem?_map, List.getElem?_eq_getElem hi, List.getD_eq_getElem?_getD, List.getElem?_eq_getElem hi]
        rfl)
      rw [Nat.zero_add]
      exact hc
    · rintro e w' ⟨rfl, k⟩
      exact ⟨rfl, ka.trans k⟩
  go_enter Try.func16, Try.ntmps16
  go_wp2_with (first | (refine wpList_build2L uE iE (by decide) (by decide) rfl _ _ rfl e20.cells e31.cells rfl rfl rfl rfl ?_) | (go_at_call 14; refine hor.mono ?_; clear hor; rintro e w1 ⟨va, vc, rfl, hpm, k1⟩; have hsi := HSI.out w1 va vc hpm; clear hpm) | (go_at_call 15; refine hsi.mono ?_; clear hsi; rintro e w2 ⟨rfl, k2⟩))
  go_ret
  exact ⟨rfl, k1.trans k2⟩
end Go.Proofs.Ytfbbllokpikbiaa
