import Derived.Test.YtdmfkepnopppaaaGreatDoorPjJ
import Derived.Test.YtdmfkepnopppaaaGreatDoorPhI
namespace Go.Proofs.YtdmfkepnopppaaaGreatDoor
open Go.RowKit Go.Deep Go.ChangeShapes Go.WideShapes Go.ChangeAt
attribute [local go_sem] Oper.semAt_some run_store_nf run_store_f
theorem iFa : (Tryz.prog.info? 26).map (·.size) = some 3 := by kernel_rfl
theorem run_fa {W : World} {b : Nat} {x y z : Int} (h : CL W b [.int .i64 x, .int .i64 y, .int .i64 z]) : (loadVar 26 ⟨b, 0, none⟩).run Tryz.prog W = .ok (.agg #[.int .i64 x, .int .i64 y, .int .i64 z]) W :=
  run_loadVar_mid W b 0 26 [.int .i64 x, .int .i64 y, .int .i64 z] _ (fun j v e => by have := h.c j v e; rwa [Nat.zero_add]) Tryz.underlying26 rfl (by rw [iFa]; rfl)
set_option maxHeartbeats 400000 in
set_option maxRecDepth 1000000 in
theorem caught_any (w : World) (x y z : Int) : Calls Tryz.prog 13 #[.iface 26 (.agg #[.int .i64 x, .int .i64 y, .int .i64 z])] w fun e w' => e = .returned (.agg #[.int .i64 x, .int .i64 y, .int .i64 z]) ∧ Keeps (fun _ => False) w w' := by
  have ht : ∀ w : World, (Instr.typeAssert (.iface 26 (.agg #[.int .i64 x, .int .i64 y, .int .i64 z])) 20 26 true).run Tryz.prog w = .ok (.tuple #[.agg #[.int .i64 x, .int .i64 y, .int .i64 z], .bool true]) w := fun _ => rfl
  obtain ⟨W2, hW2⟩ : ∃ W2, W2 = (w.alloc (.cells #[.int .i64 0, .int .i64 0, .int .i64 0] 26)).alloc (.cells #[.int .i64 x, .int .i64 y, .int .i64 z] 26) := ⟨_, rfl⟩
  have m1 : CL W2 w.heap.size [.int .i64 0, .int .i64 0, .int .i64 0] := by rw [hW2]; exact made1 w [.int .i64 0, .int .i64 0, .int .i64 0] 26 _ (by show 0 < 3; decide)
  have m2 : CL W2 (w.heap.size + 1) [.int .i64 x, .int .i64 y, .int .i64 z] := by rw [hW2]; exact made2 w [.int .i64 x, .int .i64 y, .int .i64 z] 26 _
  have k2 : Keeps (fun _ => False) w W2 := by rw [hW2]; exact ks2 w _ _
  have HW : Hid (_ = _) := hW2
  have hRL := run_fa m2
  have hA : ([.int .i64 x, .int .i64 y, .int .i64 z] : List Value).toArray.all (·.oneCell') = true := all_oneCell_toArray (by simp [Value.oneCell'])
  clear hW2 m2
  go_enter Tryz.func13, Tryz.ntmps13
  go_wp2_with (first | (rw [← HW.out]; clear HW; refine wpList_load_run rfl 26 _ rfl ⟨w.heap.size + 1, 0, none⟩ rfl _ hRL ?_; clear hRL) | (refine wpList_store_cl rfl 26 _ _ rfl w.heap.size 0 3 _ rfl rfl rfl m1 (by show 3 ≤ 3; decide) iFa hA ?_; intro w5 hc5 k5 hsz5; clear hsz5))
  have hc6 : CL w5 w.heap.size [.int .i64 x, .int .i64 y, .int .i64 z] := hc5
  have hr6 := run_fa hc6
  refine bodyPost_ret (v := .agg #[.int .i64 x, .int .i64 y, .int .i64 z]) (by rw [results_cell1 rfl]; simp [asAddr, hr6]) rfl ⟨rfl, ?_⟩
  exact k2.trans' k5 (fun _ _ e => e) (fun i hi e => by have e : i = w.heap.size := e; omega)
set_option maxHeartbeats 800000 in
set_option maxRecDepth 1000000 in
/-- The deferred closure on a frame that a fault has left. -/
theorem pcatch_fault {A B : Nat} (older : List PanicEntry) {v0 : Value} {a0 b0 c0 : Int} (x y z : Int) {w : World} (ca : CL w A [v0]) (cb : CL w B [.int .i64 a0, .int .i64 b0, .int .i64 c0]) (hAB : A ≠ B) :
    CallsD Tryz.prog 12 #[.pointer (some ⟨A, 0, none⟩), .pointer (some ⟨B, 0, none⟩)] (.panicking ({ v := .iface 26 (.agg #[.int .i64 x, .int .i64 y, .int .i64 z]), recovered := false } :: older)) w fun e u' w' =>
      e = .returned (.tuple #[]) ∧ u' = .panicking ({ v := .iface 26 (.agg #[.int .i64 x, .int .i64 y, .int .i64 z]), recovered := true } :: older) ∧ CL w' A [.slice none 0 0] ∧ CL w' B [.int .i64 x, .int .i64 y, .int .i64 z] ∧ Keeps (fun k => k = A ∨ k = B) w w' := by
  have hK := caught_any w x y z
  refine callsD_of_wpS Tryz.func12 rfl fun c₀ cs hu => ?_
  apply wpS_seq
  apply wpS_region
  simp [wpOpsS, go_sem, recoverD, hu, Tryz.ntmps12, Exit.thenS]
  apply wpS_seq
  apply wpS_region
  simp [wpOpsS, go_sem, Exit.thenS]
  refine wpS_cond (t := true) (by simp [Act.eval, Array.replicate]) ?_
  simp only [if_true]
  refine wpS_of_wp ?_
  change Code.wp _ _ _ { tmps := #[.pointer (some ⟨A, 0, none⟩), .pointer (some ⟨B, 0, none⟩), .iface 26 (.agg #[.int .i64 x, .int .i64 y, .int .i64 z]), .iface 26 (.agg #[.int .i64 x, .int .i64 y, .int .i64 z]), .iface 26 (.agg #[.int .i64 x, .int .i64 y, .int .i64 z]), .bool true, undef, undef], defers := [] } w
  have hA : ([.int .i64 x, .int .i64 y, .int .i64 z] : List Value).toArray.all (·.oneCell') = true := all_oneCell_toArray (by simp [Value.oneCell'])
  go_wp2_with fail
  refine hK.mono ?_
  rintro e w1 ⟨rfl, k1⟩
  have ca1 := ca.keep (by show 0 < 1; decide) k1 (fun e => e)
  have cb1 := cb.keep (by show 0 < 3; decide) k1 (fun e => e)
  have y0 := ca1.c 0 _ rfl
  have z0 := ca1.z 0 (by show 0 < 1; decide)
  have ca2 := ca1.set (o := 0) (by show 0 < 1; decide) (.slice none 0 0)
  have cb2 := cb1.other (p := ⟨A, 0, none⟩) hAB (.slice none 0 0)
  have k2 : Keeps (fun k => k = A ∨ k = B) w (w1.setCell ⟨A, 0, none⟩ (.slice none 0 0)) := (k1.mono (fun _ _ e => e.elim)).setCell (fun _ => .inl rfl) _
  clear ca1 cb1 hK
  go_wp2_with (refine wpList_store_cl rfl 26 _ _ rfl B 0 3 _ rfl rfl rfl cb2 (by show 3 ≤ 3; decide) iFa hA ?_; intro w5 hc5 k5 hsz5; clear hsz5)
  have hc6 : CL w5 B [.int .i64 x, .int .i64 y, .int .i64 z] := hc5
  have ca6 := ca2.keep (by show 0 < _; simp) k5 hAB
  simp [bodyPostS, results, Tryz.results12]
  exact ⟨ca6, hc6, k2.trans (k5.mono (fun _ _ e => .inr e))⟩
/-- A text's program, or its fault. -/
def prsR (s : ByteArray) : Except Flt (List Ins) := if 4096 < s.size then .error (100, 0, 0) else match rdR (lns s) 0 ⟨[], 0, fun _ => none, []⟩ with
  | .error e => .error e
  | .ok st => joR st.f st.js st.qs
def prL (r : Except Flt (List Ins)) : List Ins := match r with | .ok l => l | .error _ => []
def prF (r : Except Flt (List Ins)) : Flt := match r with | .ok _ => (0, 0, 0) | .error f => f
theorem joR_len (f : ByteArray → Option Nat) : ∀ (js : List (Nat × Pc)) (qs l : List Ins), joR f js qs = .ok l → l.length = qs.length
  | [], qs, l, h => by
    have h : Except.ok qs = Except.ok l := h
    injection h with h
    rw [h]
  | x :: r, qs, l, h => by
    have h : (match f x.2.t with | none => .error (107, x.2.ln, x.2.col) | some v => joR f r (qs.set x.1 { qs.getD x.1 ins0 with to := (v : Int) })) = Except.ok l := h
    split at h
    · cases h
    · rw [joR_len f r _ l h, List.length_set]
theorem splitB_size : ∀ (k : Nat) (s : ByteArray) (x : ByteArray), x ∈ Lib.splitB ⟨#[10]⟩ 0 k s → x.size ≤ s.size
  | 0, s, x, h => by
    have : x = s := by simpa [Lib.splitB] using h
    rw [this]; exact Nat.le_refl _
  | k + 1, s, x, h => by
    unfold Lib.splitB at h
    split at h
    · have : x = s := by simpa using h
      rw [this]; exact Nat.le_refl _
    · rcases List.mem_cons.1 h with h | h
      · rw [h, ByteArray.size_extract]; omega
      · have := splitB_size k _ x h
        rw [ByteArray.size_extract] at this
        omega
set_option maxHeartbeats 1600000 in
set_option maxRecDepth 1000000 in
theorem parse_all {w : World} (s : ByteArray) (hs0 : s.size ≤ 9223372036854775807) (hT : PT w) (hNT : NT w) : Calls Tryz.prog 6 #[.string s] w fun e w' => ∃ v, e = .returned (.tuple #[v, .agg #[.int .i64 (prF (prsR s)).1, .int .i64 (prF (prsR s)).2.1, .int .i64 (prF (prsR s)).2.2]]) ∧ w'.ownsRow w.heap.size 45 11 v (prL (prsR s)).length (icl (prL (prsR s))) ∧ Keeps (fun _ => False) w w' ∧ (prL (prsR s)).length ≤ 64 := by
  have hmf : ∀ (fn : Fn) (first cap : Array Value) (w : World), (Instr.makeFunc fn first cap).run Tryz.prog w = .ok (.func fn first cap) w := fun _ _ _ _ => rfl
  have hmm := @run_makeMap Tryz.prog
  obtain ⟨w0, hw0⟩ : ∃ w0, w0 = (w.alloc (.cells #[.slice none 0 0] 23)).alloc (.cells #[.int .i64 0, .int .i64 0, .int .i64 0] 26) := ⟨_, rfl⟩
  have k0 : Keeps (fun _ => False) w w0 := by rw [hw0]; exact ks2 w _ _
  have c0 : CL w0 w.heap.size [.slice none 0 0] := by rw [hw0]; exact made1 w [.slice none 0 0] 23 _ (by show 0 < 1; decide)
  have c1 : CL w0 (w.heap.size + 1) [.int .i64 0, .int .i64 0, .int .i64 0] := by rw [hw0]; exact made2 w [.int .i64 0, .int .i64 0, .int .i64 0] 26 _
  have hz0 : w0.heap.size = w.heap.size + 1 + 1 := by rw [hw0]; simp
  have n01 : w.heap.size + 1 ≠ w.heap.size := by omega
  have n10 : w.heap.size ≠ w.heap.size + 1 := by omega
  by_cases hlong : 4096 < s.size
  · have hle : decide ((4096 : Int) < (s.size : Int)) = true := by simp; omega
    have hRES : prsR s = .error (100, 0, 0) := if_pos hlong
    rw [hRES]
    have HW : Hid (_ = _) := hw0
    clear hw0 hlong hRES
    go_enter_defers Tryz.func6, Tryz.ntmps6
    refine wp_seq_k (fun KK hKK => ?_)
    have hKH : Hid _ := hKK
    clear hKK
    go_wp2_with fail
    refine hKH.out _ _ ?_
    clear hKH KK
    rw [← HW.out]
    clear HW
    have y0 := c0.c 0 _ rfl
    have yz := c0.z 0 (by show 0 < 1; decide)
    have f0 := c1.c 0 _ rfl
    have f1 := c1.c 1 _ rfl
    have f2 := c1.c 2 _ rfl
    have g0 := c1.z 0 (by show 0 < 3; decide)
    have g1 := c1.z 1 (by show 1 < 3; decide)
    have g2 := c1.z 2 (by show 2 < 3; decide)
    go_wp2_with fail
    have e0 : CL ((((w0.setCell ⟨w.heap.size, 0, none⟩ (.slice none 0 0)).setCell ⟨w.heap.size + 1, 0, none⟩ (.int .i64 100)).setCell ⟨w.heap.size + 1, 1, none⟩ (.int .i64 0)).setCell ⟨w.heap.size + 1, 2, none⟩ (.int .i64 0)) w.heap.size [.slice none 0 0] := (((c0.set (o := 0) (by show 0 < 1; decide) (.slice none 0 0)).other (p := ⟨w.heap.size + 1, 0, none⟩) n01 _).other (p := ⟨w.heap.size + 1, 1, none⟩) n01 _).other (p := ⟨w.heap.size + 1, 2, none⟩) n01 _
    have e1 : CL ((((w0.setCell ⟨w.heap.size, 0, none⟩ (.slice none 0 0)).setCell ⟨w.heap.size + 1, 0, none⟩ (.int .i64 100)).setCell ⟨w.heap.size + 1, 1, none⟩ (.int .i64 0)).setCell ⟨w.heap.size + 1, 2, none⟩ (.int .i64 0)) (w.heap.size + 1) [.int .i64 100, .int .i64 0, .int .i64 0] := (((c1.other (p := ⟨w.heap.size, 0, none⟩) n10 (.slice none 0 0)).set (o := 0) (by show 0 < 3; decide) (.int .i64 100)).set (o := 1) (by show 1 < 3; decide) (.int .i64 0)).set (o := 2) (by show 2 < 3; decide) (.int .i64 0)
    have kk : Keeps (fun k => k = w.heap.size ∨ k = w.heap.size + 1) w0 ((((w0.setCell ⟨w.heap.size, 0, none⟩ (.slice none 0 0)).setCell ⟨w.heap.size + 1, 0, none⟩ (.int .i64 100)).setCell ⟨w.heap.size + 1, 1, none⟩ (.int .i64 0)).setCell ⟨w.heap.size + 1, 2, none⟩ (.int .i64 0)) := ((((Keeps.refl _ w0).setCell (p := ⟨w.heap.size, 0, none⟩) (fun _ => .inl rfl) _).setCell (p := ⟨w.heap.size + 1, 0, none⟩) (fun _ => .inr rfl) _).setCell (p := ⟨w.heap.size + 1, 1, none⟩) (fun _ => .inr rfl) _).setCell (p := ⟨w.heap.size + 1, 2, none⟩) (fun _ => .inr rfl) _
    generalize ((((w0.setCell ⟨w.heap.size, 0, none⟩ (.slice none 0 0)).setCell ⟨w.heap.size + 1, 0, none⟩ (.int .i64 100)).setCell ⟨w.heap.size + 1, 1, none⟩ (.int .i64 0)).setCell ⟨w.heap.size + 1, 2, none⟩ (.int .i64 0)) = W6 at *
    have K6 : Keeps (fun _ => False) w W6 := k0.trans' kk (fun _ _ e => e) (fun i hi e => by omega)
    have x0 := e0.c 0 _ rfl
    have u0 := e1.c 0 _ rfl
    have u1 := e1.c 1 _ rfl
    have u2 := e1.c 2 _ rfl
    refine ⟨.tuple #[.slice none 0 0, .agg #[.int .i64 100, .int .i64 0, .int .i64 0]], ?_, _, rfl, World.ownsRow_nil _ _ _ _, K6, Nat.zero_le _⟩
    refine results_cell2y Tryz.results6 _ _ _ (a := ⟨w.heap.size, 0, none⟩) (b := ⟨w.heap.size + 1, 0, none⟩) rfl rfl ?_ ?_
    · go_simp
    · go_simp
  have hs : s.size ≤ 4096 := by omega
  have hle : decide ((4096 : Int) < (s.size : Int)) = false := by simp; omega
  have hRES : prsR s = match rdR (lns s) 0 ⟨[], 0, fun _ => none, []⟩ with
    | .error e => .error e
    | .ok st => joR st.f st.js st.qs := if_neg hlong
  rw [hRES]
  clear hRES hlong
  obtain ⟨W4, hW4⟩ : ∃ W4, W4 = (w0.alloc (.map #[] 0)).alloc (.cells #[.slice none 0 0, .map (some (w.heap.size + 1 + 1)), .slice none 0 0] 50) := ⟨_, rfl⟩
  have k4 : Keeps (fun _ => False) w0 W4 := by rw [hW4]; exact ks2 w0 _ _
  have c4 : CL W4 (w.heap.size + 1 + 1 + 1) [.slice none 0 0, .map (some (w.heap.size + 1 + 1)), .slice none 0 0] := by
    rw [hW4, ← hz0]; exact made2 w0 [.slice none 0 0, .map (some w0.heap.size), .slice none 0 0] 50 _
  have m4 : SM W4 (w.heap.size + 1 + 1) 0 (fun _ => none) := by
    rw [hW4, ← hz0]
    exact (SM.made w0).keep ((Keeps.refl (fun _ => False) _).alloc _) (fun e => e)
  have hI : RX W4 w0.heap.size (w.heap.size + 1 + 1 + 1) (w.heap.size + 1 + 1) (.slice none 0 0) (.slice none 0 0) [] 0 (fun _ => none) [] := ⟨c4, World.ownsRow_nil _ _ _ _, World.ownsRow_nil _ _ _ _, m4, ⟨by omega, by omega, by omega⟩, ⟨(fun e => by cases e), (fun e => by cases e)⟩, ⟨(fun e => by cases e), (fun e => by cases e)⟩, (fun g e => by cases e)⟩
  have hRd := read_any (w0 := w0) (w := W4) s hs (hT.keep k0) (hNT.keep k0) k4 hI (fun x hx => by have := splitB_size _ s x hx; omega)
  obtain ⟨RR, hRR⟩ : ∃ RR, rdR (lns s) 0 ⟨[], 0, fun _ => none, []⟩ = RR := ⟨_, rfl⟩
  rw [hRR] at hRd ⊢
  rw [hw0] at hW4
  have HW4 : Hid (_ = _) := hW4
  clear hW4 hw0 hI hT hNT c4 k4 hRR
  go_enter_defers Tryz.func6, Tryz.ntmps6
  cases RR with
  | error fl =>
    obtain ⟨fe, fln, fc⟩ := fl
    go_wp2_with fail
    rw [← HW4.out]
    clear HW4
    refine hRd.mono ?_
    clear hRd
    rintro e w5 ⟨rfl, k5⟩
    have d0 := c0.keep (by show 0 < 1; decide) k5 (fun e => e)
    have d1 := c1.keep (by show 0 < 3; decide) k5 (fun e => e)
    have K5 := k0.trans k5
    clear c0 c1 k5
    show bodyPostD Tryz.prog Tryz.f6 _ (Exit.panic _) _ w5
    refine leaves_cons (f := 12) (args := #[.pointer (some ⟨w.heap.size, 0, none⟩), .pointer (some ⟨w.heap.size + 1, 0, none⟩)]) (by simp) (by simp [go_sem]) ?_
    refine (pcatch_fault [] fe fln fc d0 d1 n10).mono ?_
    rintro e u' w6 ⟨rfl, rfl, e0, e1, k6⟩
    have K6 : Keeps (fun _ => False) w w6 := K5.trans' k6 (fun _ _ e => e) (fun i hi e => by omega)
    have x0 := e0.c 0 _ rfl
    have u0 := e1.c 0 _ rfl
    have u1 := e1.c 1 _ rfl
    have u2 := e1.c 2 _ rfl
    refine ⟨.tuple #[.slice none 0 0, .agg #[.int .i64 fe, .int .i64 fln, .int .i64 fc]], ?_, _, rfl, World.ownsRow_nil _ _ _ _, K6, Nat.zero_le _⟩
    refine results_cell2y Tryz.results6 _ _ _ (a := ⟨w.heap.size, 0, none⟩) (b := ⟨w.heap.size + 1, 0, none⟩) rfl rfl ?_ ?_
    · go_simp
    · go_simp
  | ok st =>
    obtain ⟨qs, n, f, js⟩ := st
    obtain ⟨JR, hJR⟩ : ∃ JR, joR f js qs = JR := ⟨_, rfl⟩
    have HJR : Hid (_ = _) := hJR
    clear hJR
    simp only
    rw [HJR.out]
    go_wp2_with fail
    rw [← HW4.out]
    clear HW4
    refine hRd.mono ?_
    clear hRd
    rintro e w4 ⟨rfl, ⟨cv, jv, hI5⟩, hq, hjl, hjs, k4⟩
    simp only at hI5 hq hjl hjs
    have hJ := join_any hI5 hjs hq (by omega)
    rw [HJR.out] at hJ
    have hcb : ∀ i, cv.ownBlock = some i → w0.heap.size ≤ i := fun i e => owns_base hI5.o i e
    clear hjs hjl
    have HQ : Hid (qs.length ≤ 64) := hq
    clear hq
    go_wp2_with fail
    refine hJ.mono ?_
    clear hJ
    cases JR with
    | error fl =>
      obtain ⟨fe, fln, fc⟩ := fl
      rintro e w5 ⟨rfl, k5'⟩
      have k5 : Keeps (fun _ => False) w0 w5 := k4.trans' k5' (fun _ _ e => e) (fun i hi e => by have := hcb i e; omega)
      have d0 := c0.keep (by show 0 < 1; decide) k5 (fun e => e)
      have d1 := c1.keep (by show 0 < 3; decide) k5 (fun e => e)
      have K5 := k0.trans k5
      clear c0 c1 k5
      show bodyPostD Tryz.prog Tryz.f6 _ (Exit.panic _) _ w5
      refine leaves_cons (f := 12) (args := #[.pointer (some ⟨w.heap.size, 0, none⟩), .pointer (some ⟨w.heap.size + 1, 0, none⟩)]) (by simp) (by simp [go_sem]) ?_
      refine (pcatch_fault [] fe fln fc d0 d1 n10).mono ?_
      rintro e u' w6 ⟨rfl, rfl, e0, e1, k6⟩
      have K6 : Keeps (fun _ => False) w w6 := K5.trans' k6 (fun _ _ e => e) (fun i hi e => by omega)
      have x0 := e0.c 0 _ rfl
      have u0 := e1.c 0 _ rfl
      have u1 := e1.c 1 _ rfl
      have u2 := e1.c 2 _ rfl
      refine ⟨.tuple #[.slice none 0 0, .agg #[.int .i64 fe, .int .i64 fln, .int .i64 fc]], ?_, _, rfl, World.ownsRow_nil _ _ _ _, K6, Nat.zero_le _⟩
      refine results_cell2y Tryz.results6 _ _ _ (a := ⟨w.heap.size, 0, none⟩) (b := ⟨w.heap.size + 1, 0, none⟩) rfl rfl ?_ ?_
      · go_simp
      · go_simp
    | ok l =>
      rintro e w5 ⟨rfl, hI6, k5'⟩
      have HL6 : Hid (l.length ≤ 64) := by have h1 := joR_len f js qs l HJR.out; have h2 := HQ.out; show l.length ≤ 64; omega
      clear HJR
      have k5 : Keeps (fun _ => False) w0 w5 := k4.trans' k5' (fun _ _ e => e) (fun i hi e => by have := hcb i e; omega)
      have d0 := c0.keep (by show 0 < 1; decide) k5 (fun e => e)
      have d1 := c1.keep (by show 0 < 3; decide) k5 (fun e => e)
      have K5 := k0.trans k5
      obtain ⟨a, cap, rfl⟩ := slice_of_owns hI6.o
      have hown' : w5.ownsRow w.heap.size 45 11 (.slice a l.length cap) l.length (icl l) := by
        refine ⟨hI6.o.1, ?_⟩
        rcases hI6.o.2 with h | ⟨g, cp, cur, h1, h2, h3⟩
        · exact .inl h
        · exact .inr ⟨g, cp, cur, h1, by omega, h3⟩
      have ob0 : Value.ownBlock (.slice a l.length cap) ≠ some w.heap.size := fun e => by have := owns_base hI6.o _ e; omega
      have ob1 : Value.ownBlock (.slice a l.length cap) ≠ some (w.heap.size + 1) := fun e => by have := owns_base hI6.o _ e; omega
      have r0 := hI6.c.c 0 _ rfl
      have y0 := d0.c 0 _ rfl
      have yz := d0.z 0 (by show 0 < 1; decide)
      have f0 := d1.c 0 _ rfl
      have f1 := d1.c 1 _ rfl
      have f2 := d1.c 2 _ rfl
      have g0 := d1.z 0 (by show 0 < 3; decide)
      have g1 := d1.z 1 (by show 1 < 3; decide)
      have g2 := d1.z 2 (by show 2 < 3; decide)
      clear hI6 hI5 k5 k4 k5' hcb hz0
      go_wp2_with fail
      have e0 : CL ((((w5.setCell ⟨w.heap.size, 0, none⟩ (.slice a l.length cap)).setCell ⟨w.heap.size + 1, 0, none⟩ (.int .i64 0)).setCell ⟨w.heap.size + 1, 1, none⟩ (.int .i64 0)).setCell ⟨w.heap.size + 1, 2, none⟩ (.int .i64 0)) w.heap.size [.slice a l.length cap] := (((d0.set (o := 0) (by show 0 < 1; decide) (.slice a l.length cap)).other (p := ⟨w.heap.size + 1, 0, none⟩) n01 _).other (p := ⟨w.heap.size + 1, 1, none⟩) n01 _).other (p := ⟨w.heap.size + 1, 2, none⟩) n01 _
      have e1 : CL ((((w5.setCell ⟨w.heap.size, 0, none⟩ (.slice a l.length cap)).setCell ⟨w.heap.size + 1, 0, none⟩ (.int .i64 0)).setCell ⟨w.heap.size + 1, 1, none⟩ (.int .i64 0)).setCell ⟨w.heap.size + 1, 2, none⟩ (.int .i64 0)) (w.heap.size + 1) [.int .i64 0, .int .i64 0, .int .i64 0] := (((d1.other (p := ⟨w.heap.size, 0, none⟩) n10 (.slice a l.length cap)).set (o := 0) (by show 0 < 3; decide) (.int .i64 0)).set (o := 1) (by show 1 < 3; decide) (.int .i64 0)).set (o := 2) (by show 2 < 3; decide) (.int .i64 0)
      have kk : Keeps (fun k => k = w.heap.size ∨ k = w.heap.size + 1) w5 ((((w5.setCell ⟨w.heap.size, 0, none⟩ (.slice a l.length cap)).setCell ⟨w.heap.size + 1, 0, none⟩ (.int .i64 0)).setCell ⟨w.heap.size + 1, 1, none⟩ (.int .i64 0)).setCell ⟨w.heap.size + 1, 2, none⟩ (.int .i64 0)) := ((((Keeps.refl _ w5).setCell (p := ⟨w.heap.size, 0, none⟩) (fun _ => .inl rfl) _).setCell (p := ⟨w.heap.size + 1, 0, none⟩) (fun _ => .inr rfl) _).setCell (p := ⟨w.heap.size + 1, 1, none⟩) (fun _ => .inr rfl) _).setCell (p := ⟨w.heap.size + 1, 2, none⟩) (fun _ => .inr rfl) _
      generalize ((((w5.setCell ⟨w.heap.size, 0, none⟩ (.slice a l.length cap)).setCell ⟨w.heap.size + 1, 0, none⟩ (.int .i64 0)).setCell ⟨w.heap.size + 1, 1, none⟩ (.int .i64 0)).setCell ⟨w.heap.size + 1, 2, none⟩ (.int .i64 0)) = W6 at *
      have K6 : Keeps (fun _ => False) w W6 := K5.trans' kk (fun _ _ e => e) (fun i hi e => by omega)
      have x0 := e0.c 0 _ rfl
      have u0 := e1.c 0 _ rfl
      have u1 := e1.c 1 _ rfl
      have u2 := e1.c 2 _ rfl
      have hown6 := kk.owns hown' (fun g hg e => e.elim (fun e => ob0 (e ▸ hg)) (fun e => ob1 (e ▸ hg)))
      refine leaves_cons (f := 12) (args := #[.pointer (some ⟨w.heap.size, 0, none⟩), .pointer (some ⟨w.heap.size + 1, 0, none⟩)]) (by simp) (by simp [go_sem]) ?_
      refine (pcatch_idle _ _ _).mono ?_
      rintro e u' w'' ⟨rfl, rfl, e2⟩
      subst w''
      refine ⟨.tuple #[.slice a l.length cap, .agg #[.int .i64 0, .int .i64 0, .int .i64 0]], ?_, _, rfl, hown6, K6, HL6.out⟩
      refine results_cell2y Tryz.results6 _ _ _ (a := ⟨w.heap.size, 0, none⟩) (b := ⟨w.heap.size + 1, 0, none⟩) rfl rfl ?_ ?_
      · go_simp
      · go_simp
end Go.Proofs.YtdmfkepnopppaaaGreatDoor
