import Derived.Test.YtfbbllokpikbiabGrP
namespace Go.Proofs.Ytfbbllokpikbiab
open Go.RowKit Go.Deep
attribute [local go_sem] Oper.semAt_some run_store_nf run_store_f
/-- The document's Order on its way. -/
structure DO (base : Nat) (w W : World) (g : List Eg) (n C : Nat) (v : Value) (L : List Nat) (M : Nat → Bool) : Prop where
  o : OrdL g n L
  c : FB W C n (mks M)
  m : ∀ u, u < n → (M u = true ↔ u ∈ L)
  r : W.ownsRow base 3 1 v L.length (pvs L)
  k : Keeps (fun _ => False) w W
  b : base ≤ W.heap.size
set_option maxHeartbeats 1500000 in
set_option maxRecDepth 100000 in
theorem sameInts_ok {w : World} {a b : Option Addr} {xs : List Nat} (ca cb : Nat) (ha : PM w a xs) (hb : PM w b xs) (hn : xs.length ≤ 4611686018427387904) : Calls Try.prog 12 #[.slice a xs.length ca, .slice b xs.length cb] w fun e w' => e = .returned (.bool true) ∧ Keeps (fun _ => False) w w' := by
  have HA : Hid (PM w a xs) := ha
  have HB : Hid (PM w b xs) := hb
  clear ha hb
  generalize hN : xs.length = N at *
  have HN : Hid (xs.length = N) := hN
  clear hN
  have hnn : ((N : Int) != (N : Int)) = false := by simp
  have hnm : (N != N) = false := by simp
  go_enter Try.func12, Try.ntmps12
  go_wp2_with fail
  go_loopw [5] (fun iv Wr => ∃ k : Nat, iv = .int .i64 (k : Int) ∧ k ≤ N ∧ Keeps (fun _ => False) w Wr) (fun iv _ => N - (intOf iv).toNat)
  case atStart => exact ⟨0, rfl, Nat.zero_le _, Keeps.refl _ w⟩
  case round =>
    obtain ⟨k, rfl, hk, kr⟩ := hrel
    by_cases hlt : k < N
    · have hltI : decide ((k : Int) < (N : Int)) = true := decide_eq_true (by omega)
      have hltN : decide (k < N) = true := decide_eq_true hlt
      have hltJ : (k : Int) < (N : Int) := by omega
      have hk0 : (0 : Int) ≤ (k : Int) := by omega
      have hw1 : IntKind.i64.wrap ((k : Int) + 1) = (k : Int) + 1 := by rw [IntKind.wrap_i64]; omega
      obtain ⟨ba, o1, rfl, c1⟩ := HA.out k (by rw [HN.out]; exact hlt)
      obtain ⟨bb, o2, rfl, c2⟩ := HB.out k (by rw [HN.out]; exact hlt)
      have p1 : ∀ u : KS wr, u.1.cell? ⟨ba, o1 + k, none⟩ = some (.int .i64 ((xs.getD k 0 : Nat) : Int)) := ks_cell (kr.cell c1 (fun e => e))
      have p2 : ∀ u : KS wr, u.1.cell? ⟨bb, o2 + k, none⟩ = some (.int .i64 ((xs.getD k 0 : Nat) : Int)) := ks_cell (kr.cell c2 (fun e => e))
      clear c1 c2
      generalize xs.getD k 0 = x at *
      have t1 : ((x : Int) != (x : Int)) = false := by simp
      have t2 : (x != x) = false := by simp
      have hNE : Nonempty (KS wr) := ⟨⟨wr, Keeps.refl _ wr⟩⟩
      go_wp2_with fail
      refine wp_region_ks (by kernel_rfl) (by kernel_rfl) ?_
      (repeat (first | go_big_quiet_skip | go_big_quiet_step (fail)))
      refine wpQuiet_nil ?_
      rintro _ ⟨u, rfl⟩
      have ku := kr.trans u.property
      generalize u.val = wu at *
      clear hNE p1 p2
      go_wp2_with fail
      go_roundw
      case rel => exact ⟨k + 1, by go_num, by omega, ku⟩
      case measure => simp [intOf]; omega
    · have hltI : decide ((k : Int) < (N : Int)) = false := decide_eq_false (by omega)
      have hltN : decide (k < N) = false := decide_eq_false hlt
      go_wp2_with fail
      go_ret
      exact ⟨rfl, kr⟩
def e20 : Ed := ⟨2, 0, 0, 0⟩
def e31 : Ed := ⟨3, 1, 0, 0⟩
def g4 : List Eg := [⟨2, 0, 0, 0⟩, ⟨3, 1, 0, 0⟩]
instance (g : List Eg) (n : Nat) (L : List Nat) (v : Nat) : Decidable (Fre g n L v) := by unfold Fre; infer_instance
theorem fst_lt {g : List Eg} {n : Nat} {L : List Nat} {v : Nat} (h : ∀ u, u < n → Fre g n L u → v ≤ u) : ∀ u, Fre g n L u → v ≤ u := fun u hu => h u hu.1 hu
theorem ord4 : OrA 4 [e20, e31] [2, 0, 3, 1] true 0 := .inr ⟨by decide, rfl, fun m g e1 e2 => by
  obtain rfl : m = 4 := by omega
  have e3 : [e20, e31] = g4.map Eg.ed := rfl
  rw [e3] at e2
  rw [← eg_inj e2]
  refine ⟨((((OrdL.nil (g := g4) (n := 4)).snoc (v := 2) (by decide) (fst_lt (by decide))).snoc (v := 0) (by decide) (fst_lt (by decide))).snoc (v := 3) (by decide) (fst_lt (by decide))).snoc (v := 1) (by decide) (fst_lt (by decide)), fun u hu => ?_, rfl⟩
  have h : ∀ u, u < 4 → ¬ Fre g4 4 [2, 0, 3, 1] u := by decide
  exact h u hu.1 hu⟩
set_option maxHeartbeats 1500000 in
set_option maxRecDepth 100000 in
theorem fixed_any (w : World) : Calls Try.prog 15 #[] w fun e w' => e = .returned (.bool true) ∧ Keeps (fun _ => False) w w' := by
  have hor : Calls Try.prog 16 #[.int .i64 4, .slice (some ⟨w.heap.size, 0, none⟩) 2 2] (w.alloc (.cells (e20.cells ++ e31.cells).toArray 30)) fun e w' => ∃ va vc, e = .returned (.tuple #[.slice va 4 vc, .bool true, .int .i64 0]) ∧ PM w' va [2, 0, 3, 1] ∧ Keeps (fun _ => False) w w' := by
    refine (Order_any (cap := 2) (l := [e20, e31]) 4 (el_made w [e20, e31]) (by decide)).mono ?_
    rintro e w' ⟨v, L, ok, ec, rfl, hr, hA, k⟩
    obtain ⟨rfl, rfl, rfl⟩ := hA.one ord4
    obtain ⟨va, vc, rfl, -⟩ := own_slice hr
    exact ⟨va, vc, rfl, PM.of hr, ((Keeps.refl _ w).alloc _).trans k⟩
  have HSI : Hid (∀ (W : World) va vc, PM W va [2, 0, 3, 1] → Calls Try.prog 12 #[.slice va 4 vc, .slice (some ⟨W.heap.size, 0, none⟩) 4 4] (W.alloc (.cells #[.int .i64 2, .int .i64 0, .int .i64 3, .int .i64 1] 3)) fun e w' => e = .returned (.bool true) ∧ Keeps (fun _ => False) W w') := fun W va vc h => by
    have ka := (Keeps.refl (fun _ => False) W).alloc (.cells #[.int .i64 2, .int .i64 0, .int .i64 3, .int .i64 1] 3)
    refine (sameInts_ok (xs := [2, 0, 3, 1]) vc 4 (h.keep ka) (fun i hi => ⟨_, 0, rfl, ?_⟩) (by decide)).mono ?_
    · have hc := (CL.made W (pvs [2, 0, 3, 1]) 3).c i (.int .i64 (([2, 0, 3, 1].getD i 0 : Nat) : Int)) (by
        unfold pvs
        rw [List.getElem?_map, List.getElem?_eq_getElem hi, List.getD_eq_getElem?_getD, List.getElem?_eq_getElem hi]
        rfl)
      rw [Nat.zero_add]
      exact hc
    · rintro e w' ⟨rfl, k⟩
      exact ⟨rfl, ka.trans k⟩
  go_enter Try.func15, Try.ntmps15
  go_wp2_with (first | (refine wpList_build2L uE iE (by decide) (by decide) rfl _ _ rfl e20.cells e31.cells rfl rfl rfl rfl ?_) | (go_at_call 16; refine hor.mono ?_; clear hor; rintro e w1 ⟨va, vc, rfl, hpm, k1⟩; have hsi := HSI.out w1 va vc hpm; clear hpm) | (go_at_call 12; refine hsi.mono ?_; clear hsi; rintro e w2 ⟨rfl, k2⟩))
  go_ret
  exact ⟨rfl, k1.trans k2⟩
end Go.Proofs.Ytfbbllokpikbiab
