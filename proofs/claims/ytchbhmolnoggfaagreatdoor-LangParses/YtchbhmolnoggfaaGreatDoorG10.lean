import Derived.Test.YtchbhmolnoggfaaGreatDoorG09
import Derived.Test.YtchbhmolnoggfaaGreatDoorG04
import Derived.Test.YtchbhmolnoggfaaGreatDoorG02
import Derived.Lib.Join
import Derived.Lib.SlicesCompact
namespace Go.Proofs.YtchbhmolnoggfaaGreatDoor
open Go.RowKit Go.Deep Go.ChangeShapes Go.WideShapes Go.ChangeAt
attribute [local go_sem] Oper.semAt_some run_store_nf run_store_f
theorem iFa : (Tryz.prog.info? 25).map (·.size) = some 3 := by kernel_rfl
theorem run_fa {W : World} {b : Nat} {x y z : Int} (h : CL W b [.int .i64 x, .int .i64 y, .int .i64 z]) : (loadVar 25 ⟨b, 0, none⟩).run Tryz.prog W = .ok (.agg #[.int .i64 x, .int .i64 y, .int .i64 z]) W :=
  run_loadVar_mid W b 0 25 [.int .i64 x, .int .i64 y, .int .i64 z] _ (fun j v e => by have := h.c j v e; rwa [Nat.zero_add]) Tryz.underlying25 rfl (by rw [iFa]; rfl)
set_option maxHeartbeats 400000 in
set_option maxRecDepth 1000000 in
theorem caught_any (w : World) (x y z : Int) : Calls Tryz.prog 10 #[.iface 25 (.agg #[.int .i64 x, .int .i64 y, .int .i64 z])] w fun e w' => e = .returned (.agg #[.int .i64 x, .int .i64 y, .int .i64 z]) ∧ Keeps (fun _ => False) w w' := by
  have ht : ∀ w : World, (Instr.typeAssert (.iface 25 (.agg #[.int .i64 x, .int .i64 y, .int .i64 z])) 20 25 true).run Tryz.prog w = .ok (.tuple #[.agg #[.int .i64 x, .int .i64 y, .int .i64 z], .bool true]) w := fun _ => rfl
  obtain ⟨W2, hW2⟩ : ∃ W2, W2 = (w.alloc (.cells #[.int .i64 0, .int .i64 0, .int .i64 0] 25)).alloc (.cells #[.int .i64 x, .int .i64 y, .int .i64 z] 25) := ⟨_, rfl⟩
  have m1 : CL W2 w.heap.size [.int .i64 0, .int .i64 0, .int .i64 0] := by rw [hW2]; exact made1 w [.int .i64 0, .int .i64 0, .int .i64 0] 25 _ (by show 0 < 3; decide)
  have m2 : CL W2 (w.heap.size + 1) [.int .i64 x, .int .i64 y, .int .i64 z] := by rw [hW2]; exact made2 w [.int .i64 x, .int .i64 y, .int .i64 z] 25 _
  have k2 : Keeps (fun _ => False) w W2 := by rw [hW2]; exact ks2 w _ _
  have HW : Hid (_ = _) := hW2
  have hRL := run_fa m2
  have hA : ([.int .i64 x, .int .i64 y, .int .i64 z] : List Value).toArray.all (·.oneCell') = true := all_oneCell_toArray (by simp [Value.oneCell'])
  clear hW2 m2
  go_enter Tryz.func10, Tryz.ntmps10
  go_wp2_with (first | (rw [← HW.out]; clear HW; refine wpList_load_run rfl 25 _ rfl ⟨w.heap.size + 1, 0, none⟩ rfl _ hRL ?_; clear hRL) | (refine wpList_store_cl rfl 25 _ _ rfl w.heap.size 0 3 _ rfl rfl rfl m1 (by show 3 ≤ 3; decide) iFa hA ?_; intro w5 hc5 k5 hsz5; clear hsz5))
  have hc6 : CL w5 w.heap.size [.int .i64 x, .int .i64 y, .int .i64 z] := hc5
  have hr6 := run_fa hc6
  refine bodyPost_ret (v := .agg #[.int .i64 x, .int .i64 y, .int .i64 z]) (by rw [results_cell1 rfl]; simp [asAddr, hr6]) rfl ⟨rfl, ?_⟩
  exact k2.trans' k5 (fun _ _ e => e) (fun i hi e => by have e : i = w.heap.size := e; omega)
set_option maxHeartbeats 800000 in
set_option maxRecDepth 1000000 in
theorem pcatch_fault {A B : Nat} (older : List PanicEntry) {v0 : Value} {a0 b0 c0 : Int} (x y z : Int) {w : World} (ca : CL w A [v0]) (cb : CL w B [.int .i64 a0, .int .i64 b0, .int .i64 c0]) (hAB : A ≠ B) :
    CallsD Tryz.prog 9 #[.pointer (some ⟨A, 0, none⟩), .pointer (some ⟨B, 0, none⟩)] (.panicking ({ v := .iface 25 (.agg #[.int .i64 x, .int .i64 y, .int .i64 z]), recovered := false } :: older)) w fun e u' w' =>
      e = .returned (.tuple #[]) ∧ u' = .panicking ({ v := .iface 25 (.agg #[.int .i64 x, .int .i64 y, .int .i64 z]), recovered := true } :: older) ∧ CL w' A [.slice none 0 0] ∧ CL w' B [.int .i64 x, .int .i64 y, .int .i64 z] ∧ Keeps (fun k => k = A ∨ k = B) w w' := by
  have hK := caught_any w x y z
  refine callsD_of_wpS Tryz.func9 rfl fun c₀ cs hu => ?_
  apply wpS_seq
  apply wpS_region
  simp [wpOpsS, go_sem, recoverD, hu, Tryz.ntmps9, Exit.thenS]
  apply wpS_seq
  apply wpS_region
  simp [wpOpsS, go_sem, Exit.thenS]
  refine wpS_cond (t := true) (by simp [Act.eval, Array.replicate]) ?_
  simp only [if_true]
  refine wpS_of_wp ?_
  change Code.wp _ _ _ { tmps := #[.pointer (some ⟨A, 0, none⟩), .pointer (some ⟨B, 0, none⟩), .iface 25 (.agg #[.int .i64 x, .int .i64 y, .int .i64 z]), .iface 25 (.agg #[.int .i64 x, .int .i64 y, .int .i64 z]), .iface 25 (.agg #[.int .i64 x, .int .i64 y, .int .i64 z]), .bool true, undef, undef], defers := [] } w
  have hA : ([.int .i64 x, .int .i64 y, .int .i64 z] : List Value).toArray.all (·.oneCell') = true := all_oneCell_toArray (by simp [Value.oneCell'])
  go_wp2_with fail
  refine hK.mono ?_
  rintro e w1 ⟨rfl, k1⟩
  have ca1 := ca.keep (by show 0 < 1; decide) k1 (fun e => e)
  have cb1 := cb.keep (by show 0 < 3; decide) k1 (fun e => e)
  have y0 := ca1.c 0 _ rfl
  have z0 := ca1.z 0 (by show 0 < 1; decide)
  have ca2 := ca1.set (o := 0) (by show 0 < 1; decide) (.slice none 0 0)
  have cb2 := cb1.other (p := ⟨A, 0, none⟩) hAB (.slice none 0 0)
  have k2 : Keeps (fun k => k = A ∨ k = B) w (w1.setCell ⟨A, 0, none⟩ (.slice none 0 0)) := (k1.mono (fun _ _ e => e.elim)).setCell (fun _ => .inl rfl) _
  clear ca1 cb1 hK
  go_wp2_with (refine wpList_store_cl rfl 25 _ _ rfl B 0 3 _ rfl rfl rfl cb2 (by show 3 ≤ 3; decide) iFa hA ?_; intro w5 hc5 k5 hsz5; clear hsz5)
  have hc6 : CL w5 B [.int .i64 x, .int .i64 y, .int .i64 z] := hc5
  have ca6 := ca2.keep (by show 0 < _; simp) k5 hAB
  simp [bodyPostS, results, Tryz.results9]
  exact ⟨ca6, hc6, k2.trans (k5.mono (fun _ _ e => .inr e))⟩
def prsR (s : ByteArray) : Except Flt (List Ins) := if 4096 < s.size then .error (100, 0, 0) else match rdR (lns s) 0 ⟨[], 0, fun _ => none, []⟩ with
  | .error e => .error e
  | .ok st => joR st.f st.js st.qs
def prL (r : Except Flt (List Ins)) : List Ins := match r with | .ok l => l | .error _ => []
def prF (r : Except Flt (List Ins)) : Flt := match r with | .ok _ => (0, 0, 0) | .error f => f
theorem joR_len (f : ByteArray → Option Nat) : ∀ (js : List (Nat × Pc)) (qs l : List Ins), joR f js qs = .ok l → l.length = qs.length
  | [], qs, l, h => by
    have h : Except.ok qs = Except.ok l := h
    injection h with h
    rw [h]
  | x :: r, qs, l, h => by
    have h : (match f x.2.t with | none => .error (107, x.2.ln, x.2.col) | some v => joR f r (qs.set x.1 { qs.getD x.1 ins0 with to := (v : Int) })) = Except.ok l := h
    split at h
    · cases h
    · rw [joR_len f r _ l h, List.length_set]
theorem splitB_size : ∀ (k : Nat) (s : ByteArray) (x : ByteArray), x ∈ Lib.splitB ⟨#[10]⟩ 0 k s → x.size ≤ s.size
  | 0, s, x, h => by
    have : x = s := by simpa [Lib.splitB] using h
    rw [this]; exact Nat.le_refl _
  | k + 1, s, x, h => by
    unfold Lib.splitB at h
    split at h
    · have : x = s := by simpa using h
      rw [this]; exact Nat.le_refl _
    · rcases List.mem_cons.1 h with h | h
      · rw [h, ByteArray.size_extract]; omega
      · have := splitB_size k _ x h
        rw [ByteArray.size_extract] at this
        omega
set_option maxHeartbeats 1600000 in
set_option maxRecDepth 1000000 in
theorem parse_all {w : World} (s : ByteArray) (hs0 : s.size ≤ 9223372036854775807) (hT : PT w) (hNT : NT w) : Calls Tryz.prog 4 #[.string s] w fun e w' => ∃ v, e = .returned (.tuple #[v, .agg #[.int .i64 (prF (prsR s)).1, .int .i64 (prF (prsR s)).2.1, .int .i64 (prF (prsR s)).2.2]]) ∧ w'.ownsRow w.heap.size 65 11 v (prL (prsR s)).length (icl (prL (prsR s))) ∧ Keeps (fun _ => False) w w' ∧ (prL (prsR s)).length ≤ 64 := by
  have hmf : ∀ (fn : Fn) (first cap : Array Value) (w : World), (Instr.makeFunc fn first cap).run Tryz.prog w = .ok (.func fn first cap) w := fun _ _ _ _ => rfl
  have hmm := @run_makeMap Tryz.prog
  obtain ⟨w0, hw0⟩ : ∃ w0, w0 = (w.alloc (.cells #[.slice none 0 0] 22)).alloc (.cells #[.int .i64 0, .int .i64 0, .int .i64 0] 25) := ⟨_, rfl⟩
  have k0 : Keeps (fun _ => False) w w0 := by rw [hw0]; exact ks2 w _ _
  have c0 : CL w0 w.heap.size [.slice none 0 0] := by rw [hw0]; exact made1 w [.slice none 0 0] 22 _ (by show 0 < 1; decide)
  have c1 : CL w0 (w.heap.size + 1) [.int .i64 0, .int .i64 0, .int .i64 0] := by rw [hw0]; exact made2 w [.int .i64 0, .int .i64 0, .int .i64 0] 25 _
  have hz0 : w0.heap.size = w.heap.size + 1 + 1 := by rw [hw0]; simp
  have n01 : w.heap.size + 1 ≠ w.heap.size := by omega
  have n10 : w.heap.size ≠ w.heap.size + 1 := by omega
  by_cases hlong : 4096 < s.size
  · have hle : decide ((4096 : Int) < (s.size : Int)) = true := by simp; omega
    have hRES : prsR s = .error (100, 0, 0) := if_pos hlong
    rw [hRES]
    have HW : Hid (_ = _) := hw0
    clear hw0 hlong hRES
    go_enter_defers Tryz.func4, Tryz.ntmps4
    refine wp_seq_k (fun KK hKK => ?_)
    have hKH : Hid _ := hKK
    clear hKK
    go_wp2_with fail
    refine hKH.out _ _ ?_
    clear hKH KK
    rw [← HW.out]
    clear HW
    have y0 := c0.c 0 _ rfl
    have yz := c0.z 0 (by show 0 < 1; decide)
    have f0 := c1.c 0 _ rfl
    have f1 := c1.c 1 _ rfl
    have f2 := c1.c 2 _ rfl
    have g0 := c1.z 0 (by show 0 < 3; decide)
    have g1 := c1.z 1 (by show 1 < 3; decide)
    have g2 := c1.z 2 (by show 2 < 3; decide)
    go_wp2_with fail
    have e0 : CL ((((w0.setCell ⟨w.heap.size, 0, none⟩ (.slice none 0 0)).setCell ⟨w.heap.size + 1, 0, none⟩ (.int .i64 100)).setCell ⟨w.heap.size + 1, 1, none⟩ (.int .i64 0)).setCell ⟨w.heap.size + 1, 2, none⟩ (.int .i64 0)) w.heap.size [.slice none 0 0] := (((c0.set (o := 0) (by show 0 < 1; decide) (.slice none 0 0)).other (p := ⟨w.heap.size + 1, 0, none⟩) n01 _).other (p := ⟨w.heap.size + 1, 1, none⟩) n01 _).other (p := ⟨w.heap.size + 1, 2, none⟩) n01 _
    have e1 : CL ((((w0.setCell ⟨w.heap.size, 0, none⟩ (.slice none 0 0)).setCell ⟨w.heap.size + 1, 0, none⟩ (.int .i64 100)).setCell ⟨w.heap.size + 1, 1, none⟩ (.int .i64 0)).setCell ⟨w.heap.size + 1, 2, none⟩ (.int .i64 0)) (w.heap.size + 1) [.int .i64 100, .int .i64 0, .int .i64 0] := (((c1.other (p := ⟨w.heap.size, 0, none⟩) n10 (.slice none 0 0)).set (o := 0) (by show 0 < 3; decide) (.int .i64 100)).set (o := 1) (by show 1 < 3; decide) (.int .i64 0)).set (o := 2) (by show 2 < 3; decide) (.int .i64 0)
    have kk : Keeps (fun k => k = w.heap.size ∨ k = w.heap.size + 1) w0 ((((w0.setCell ⟨w.heap.size, 0, none⟩ (.slice none 0 0)).setCell ⟨w.heap.size + 1, 0, none⟩ (.int .i64 100)).setCell ⟨w.heap.size + 1, 1, none⟩ (.int .i64 0)).setCell ⟨w.heap.size + 1, 2, none⟩ (.int .i64 0)) := ((((Keeps.refl _ w0).setCell (p := ⟨w.heap.size, 0, none⟩) (fun _ => .inl rfl) _).setCell (p := ⟨w.heap.size + 1, 0, none⟩) (fun _ => .inr rfl) _).setCell (p := ⟨w.heap.size + 1, 1, none⟩) (fun _ => .inr rfl) _).setCell (p := ⟨w.heap.size + 1, 2, none⟩) (fun _ => .inr rfl) _
    generalize ((((w0.setCell ⟨w.heap.size, 0, none⟩ (.slice none 0 0)).setCell ⟨w.heap.size + 1, 0, none⟩ (.int .i64 100)).setCell ⟨w.heap.size + 1, 1, none⟩ (.int .i64 0)).setCell ⟨w.heap.size + 1, 2, none⟩ (.int .i64 0)) = W6 at *
    have K6 : Keeps (fun _ => False) w W6 := k0.trans' kk (fun _ _ e => e) (fun i hi e => by omega)
    have x0 := e0.c 0 _ rfl
    have u0 := e1.c 0 _ rfl
    have u1 := e1.c 1 _ rfl
    have u2 := e1.c 2 _ rfl
    refine ⟨.tuple #[.slice none 0 0, .agg #[.int .i64 100, .int .i64 0, .int .i64 0]], ?_, _, rfl, World.ownsRow_nil _ _ _ _, K6, Nat.zero_le _⟩
    refine results_cell2y Tryz.results4 _ _ _ (a := ⟨w.heap.size, 0, none⟩) (b := ⟨w.heap.size + 1, 0, none⟩) rfl rfl ?_ ?_
    · go_simp
    · go_simp
  have hs : s.size ≤ 4096 := by omega
  have hle : decide ((4096 : Int) < (s.size : Int)) = false := by simp; omega
  have hRES : prsR s = match rdR (lns s) 0 ⟨[], 0, fun _ => none, []⟩ with
    | .error e => .error e
    | .ok st => joR st.f st.js st.qs := if_neg hlong
  rw [hRES]
  clear hRES hlong
  obtain ⟨W4, hW4⟩ : ∃ W4, W4 = (w0.alloc (.map #[] 0)).alloc (.cells #[.slice none 0 0, .map (some (w.heap.size + 1 + 1)), .slice none 0 0] 41) := ⟨_, rfl⟩
  have k4 : Keeps (fun _ => False) w0 W4 := by rw [hW4]; exact ks2 w0 _ _
  have c4 : CL W4 (w.heap.size + 1 + 1 + 1) [.slice none 0 0, .map (some (w.heap.size + 1 + 1)), .slice none 0 0] := by
    rw [hW4, ← hz0]; exact made2 w0 [.slice none 0 0, .map (some w0.heap.size), .slice none 0 0] 41 _
  have m4 : SM W4 (w.heap.size + 1 + 1) 0 (fun _ => none) := by
    rw [hW4, ← hz0]
    exact (SM.made w0).keep ((Keeps.refl (fun _ => False) _).alloc _) (fun e => e)
  have hI : RX W4 w0.heap.size (w.heap.size + 1 + 1 + 1) (w.heap.size + 1 + 1) (.slice none 0 0) (.slice none 0 0) [] 0 (fun _ => none) [] := ⟨c4, World.ownsRow_nil _ _ _ _, World.ownsRow_nil _ _ _ _, m4, ⟨by omega, by omega, by omega⟩, ⟨(fun e => by cases e), (fun e => by cases e)⟩, ⟨(fun e => by cases e), (fun e => by cases e)⟩, (fun g e => by cases e)⟩
  have hRd := read_any (w0 := w0) (w := W4) s hs (hT.keep k0) (hNT.keep k0) k4 hI (fun x hx => by have := splitB_size _ s x hx; omega)
  obtain ⟨RR, hRR⟩ : ∃ RR, rdR (lns s) 0 ⟨[], 0, fun _ => none, []⟩ = RR := ⟨_, rfl⟩
  rw [hRR] at hRd ⊢
  rw [hw0] at hW4
  have HW4 : Hid (_ = _) := hW4
  clear hW4 hw0 hI hT hNT c4 k4 hRR
  go_enter_defers Tryz.func4, Tryz.ntmps4
  cases RR with
  | error fl =>
    obtain ⟨fe, fln, fc⟩ := fl
    go_wp2_with fail
    rw [← HW4.out]
    clear HW4
    refine hRd.mono ?_
    clear hRd
    rintro e w5 ⟨rfl, k5⟩
    have d0 := c0.keep (by show 0 < 1; decide) k5 (fun e => e)
    have d1 := c1.keep (by show 0 < 3; decide) k5 (fun e => e)
    have K5 := k0.trans k5
    clear c0 c1 k5
    show bodyPostD Tryz.prog Tryz.f4 _ (Exit.panic _) _ w5
    refine leaves_cons (f := 9) (args := #[.pointer (some ⟨w.heap.size, 0, none⟩), .pointer (some ⟨w.heap.size + 1, 0, none⟩)]) (by simp) (by simp [go_sem]) ?_
    refine (pcatch_fault [] fe fln fc d0 d1 n10).mono ?_
    rintro e u' w6 ⟨rfl, rfl, e0, e1, k6⟩
    have K6 : Keeps (fun _ => False) w w6 := K5.trans' k6 (fun _ _ e => e) (fun i hi e => by omega)
    have x0 := e0.c 0 _ rfl
    have u0 := e1.c 0 _ rfl
    have u1 := e1.c 1 _ rfl
    have u2 := e1.c 2 _ rfl
    refine ⟨.tuple #[.slice none 0 0, .agg #[.int .i64 fe, .int .i64 fln, .int .i64 fc]], ?_, _, rfl, World.ownsRow_nil _ _ _ _, K6, Nat.zero_le _⟩
    refine results_cell2y Tryz.results4 _ _ _ (a := ⟨w.heap.size, 0, none⟩) (b := ⟨w.heap.size + 1, 0, none⟩) rfl rfl ?_ ?_
    · go_simp
    · go_simp
  | ok st =>
    obtain ⟨qs, n, f, js⟩ := st
    obtain ⟨JR, hJR⟩ : ∃ JR, joR f js qs = JR := ⟨_, rfl⟩
    have HJR : Hid (_ = _) := hJR
    clear hJR
    simp only
    rw [HJR.out]
    go_wp2_with fail
    rw [← HW4.out]
    clear HW4
    refine hRd.mono ?_
    clear hRd
    rintro e w4 ⟨rfl, ⟨cv, jv, hI5⟩, hq, hjl, hjs, k4⟩
    simp only at hI5 hq hjl hjs
    have hJ := join_any hI5 hjs hq (by omega)
    rw [HJR.out] at hJ
    have hcb : ∀ i, cv.ownBlock = some i → w0.heap.size ≤ i := fun i e => owns_base hI5.o i e
    clear hjs hjl
    have HQ : Hid (qs.length ≤ 64) := hq
    clear hq
    go_wp2_with fail
    refine hJ.mono ?_
    clear hJ
    cases JR with
    | error fl =>
      obtain ⟨fe, fln, fc⟩ := fl
      rintro e w5 ⟨rfl, k5'⟩
      have k5 : Keeps (fun _ => False) w0 w5 := k4.trans' k5' (fun _ _ e => e) (fun i hi e => by have := hcb i e; omega)
      have d0 := c0.keep (by show 0 < 1; decide) k5 (fun e => e)
      have d1 := c1.keep (by show 0 < 3; decide) k5 (fun e => e)
      have K5 := k0.trans k5
      clear c0 c1 k5
      show bodyPostD Tryz.prog Tryz.f4 _ (Exit.panic _) _ w5
      refine leaves_cons (f := 9) (args := #[.pointer (some ⟨w.heap.size, 0, none⟩), .pointer (some ⟨w.heap.size + 1, 0, none⟩)]) (by simp) (by simp [go_sem]) ?_
      refine (pcatch_fault [] fe fln fc d0 d1 n10).mono ?_
      rintro e u' w6 ⟨rfl, rfl, e0, e1, k6⟩
      have K6 : Keeps (fun _ => False) w w6 := K5.trans' k6 (fun _ _ e => e) (fun i hi e => by omega)
      have x0 := e0.c 0 _ rfl
      have u0 := e1.c 0 _ rfl
      have u1 := e1.c 1 _ rfl
      have u2 := e1.c 2 _ rfl
      refine ⟨.tuple #[.slice none 0 0, .agg #[.int .i64 fe, .int .i64 fln, .int .i64 fc]], ?_, _, rfl, World.ownsRow_nil _ _ _ _, K6, Nat.zero_le _⟩
      refine results_cell2y Tryz.results4 _ _ _ (a := ⟨w.heap.size, 0, none⟩) (b := ⟨w.heap.size + 1, 0, none⟩) rfl rfl ?_ ?_
      · go_simp
      · go_simp
    | ok l =>
      rintro e w5 ⟨rfl, hI6, k5'⟩
      have HL6 : Hid (l.length ≤ 64) := by have h1 := joR_len f js qs l HJR.out; have h2 := HQ.out; show l.length ≤ 64; omega
      clear HJR
      have k5 : Keeps (fun _ => False) w0 w5 := k4.trans' k5' (fun _ _ e => e) (fun i hi e => by have := hcb i e; omega)
      have d0 := c0.keep (by show 0 < 1; decide) k5 (fun e => e)
      have d1 := c1.keep (by show 0 < 3; decide) k5 (fun e => e)
      have K5 := k0.trans k5
      obtain ⟨a, cap, rfl⟩ := slice_of_owns hI6.o
      have hown' : w5.ownsRow w.heap.size 65 11 (.slice a l.length cap) l.length (icl l) := by
        refine ⟨hI6.o.1, ?_⟩
        rcases hI6.o.2 with h | ⟨g, cp, cur, h1, h2, h3⟩
        · exact .inl h
        · exact .inr ⟨g, cp, cur, h1, by omega, h3⟩
      have ob0 : Value.ownBlock (.slice a l.length cap) ≠ some w.heap.size := fun e => by have := owns_base hI6.o _ e; omega
      have ob1 : Value.ownBlock (.slice a l.length cap) ≠ some (w.heap.size + 1) := fun e => by have := owns_base hI6.o _ e; omega
      have r0 := hI6.c.c 0 _ rfl
      have y0 := d0.c 0 _ rfl
      have yz := d0.z 0 (by show 0 < 1; decide)
      have f0 := d1.c 0 _ rfl
      have f1 := d1.c 1 _ rfl
      have f2 := d1.c 2 _ rfl
      have g0 := d1.z 0 (by show 0 < 3; decide)
      have g1 := d1.z 1 (by show 1 < 3; decide)
      have g2 := d1.z 2 (by show 2 < 3; decide)
      clear hI6 hI5 k5 k4 k5' hcb hz0
      go_wp2_with fail
      have e0 : CL ((((w5.setCell ⟨w.heap.size, 0, none⟩ (.slice a l.length cap)).setCell ⟨w.heap.size + 1, 0, none⟩ (.int .i64 0)).setCell ⟨w.heap.size + 1, 1, none⟩ (.int .i64 0)).setCell ⟨w.heap.size + 1, 2, none⟩ (.int .i64 0)) w.heap.size [.slice a l.length cap] := (((d0.set (o := 0) (by show 0 < 1; decide) (.slice a l.length cap)).other (p := ⟨w.heap.size + 1, 0, none⟩) n01 _).other (p := ⟨w.heap.size + 1, 1, none⟩) n01 _).other (p := ⟨w.heap.size + 1, 2, none⟩) n01 _
      have e1 : CL ((((w5.setCell ⟨w.heap.size, 0, none⟩ (.slice a l.length cap)).setCell ⟨w.heap.size + 1, 0, none⟩ (.int .i64 0)).setCell ⟨w.heap.size + 1, 1, none⟩ (.int .i64 0)).setCell ⟨w.heap.size + 1, 2, none⟩ (.int .i64 0)) (w.heap.size + 1) [.int .i64 0, .int .i64 0, .int .i64 0] := (((d1.other (p := ⟨w.heap.size, 0, none⟩) n10 (.slice a l.length cap)).set (o := 0) (by show 0 < 3; decide) (.int .i64 0)).set (o := 1) (by show 1 < 3; decide) (.int .i64 0)).set (o := 2) (by show 2 < 3; decide) (.int .i64 0)
      have kk : Keeps (fun k => k = w.heap.size ∨ k = w.heap.size + 1) w5 ((((w5.setCell ⟨w.heap.size, 0, none⟩ (.slice a l.length cap)).setCell ⟨w.heap.size + 1, 0, none⟩ (.int .i64 0)).setCell ⟨w.heap.size + 1, 1, none⟩ (.int .i64 0)).setCell ⟨w.heap.size + 1, 2, none⟩ (.int .i64 0)) := ((((Keeps.refl _ w5).setCell (p := ⟨w.heap.size, 0, none⟩) (fun _ => .inl rfl) _).setCell (p := ⟨w.heap.size + 1, 0, none⟩) (fun _ => .inr rfl) _).setCell (p := ⟨w.heap.size + 1, 1, none⟩) (fun _ => .inr rfl) _).setCell (p := ⟨w.heap.size + 1, 2, none⟩) (fun _ => .inr rfl) _
      generalize ((((w5.setCell ⟨w.heap.size, 0, none⟩ (.slice a l.length cap)).setCell ⟨w.heap.size + 1, 0, none⟩ (.int .i64 0)).setCell ⟨w.heap.size + 1, 1, none⟩ (.int .i64 0)).setCell ⟨w.heap.size + 1, 2, none⟩ (.int .i64 0)) = W6 at *
      have K6 : Keeps (fun _ => False) w W6 := K5.trans' kk (fun _ _ e => e) (fun i hi e => by omega)
      have x0 := e0.c 0 _ rfl
      have u0 := e1.c 0 _ rfl
      have u1 := e1.c 1 _ rfl
      have u2 := e1.c 2 _ rfl
      have hown6 := kk.owns hown' (fun g hg e => e.elim (fun e => ob0 (e ▸ hg)) (fun e => ob1 (e ▸ hg)))
      refine leaves_cons (f := 9) (args := #[.pointer (some ⟨w.heap.size, 0, none⟩), .pointer (some ⟨w.heap.size + 1, 0, none⟩)]) (by simp) (by simp [go_sem]) ?_
      refine (pcatch_idle _ _ _).mono ?_
      rintro e u' w'' ⟨rfl, rfl, e2⟩
      subst w''
      refine ⟨.tuple #[.slice a l.length cap, .agg #[.int .i64 0, .int .i64 0, .int .i64 0]], ?_, _, rfl, hown6, K6, HL6.out⟩
      refine results_cell2y Tryz.results4 _ _ _ (a := ⟨w.heap.size, 0, none⟩) (b := ⟨w.heap.size + 1, 0, none⟩) rfl rfl ?_ ?_
      · go_simp
      · go_simp
end Go.Proofs.YtchbhmolnoggfaaGreatDoor

namespace Go.Proofs.YtchbhmolnoggfaaGreatDoor
open Go.RowKit
def sp : List UInt8 → List (List UInt8)
  | [] => [[]]
  | c :: r => if c = 10 then [] :: sp r else match sp r with
    | h :: t => (c :: h) :: t
    | [] => [[c]]
def hd (c : UInt8) : List (List UInt8) → List (List UInt8)
  | h :: t => (c :: h) :: t
  | [] => [[c]]
theorem sp_ne {c : UInt8} {r : List UInt8} (h : c ≠ 10) : sp (c :: r) = hd c (sp r) := by
  show (if c = 10 then [] :: sp r else match sp r with | h :: t => (c :: h) :: t | [] => [[c]]) = _
  rw [if_neg h]
  cases sp r <;> rfl
theorem sp_nl (r : List UInt8) : sp (10 :: r) = [] :: sp r := by
  show (if (10 : UInt8) = 10 then [] :: sp r else _) = _
  rw [if_pos rfl]
theorem sp_cons (l : List UInt8) : ∃ h t, sp l = h :: t := by
  cases l with
  | nil => exact ⟨_, _, rfl⟩
  | cons c r =>
    by_cases h : c = 10
    · subst h; exact ⟨_, _, sp_nl r⟩
    · rw [sp_ne h]
      cases sp r with
      | nil => exact ⟨_, _, rfl⟩
      | cons a b => exact ⟨_, _, rfl⟩
theorem split_sp : ∀ (l : List UInt8) (k : Nat), l.count 10 = k → Lib.splitK [10] 0 k l = sp l
  | [], k, hk => by subst hk; rfl
  | c :: r, k, hk => by
    by_cases h : c = 10
    · subst h
      rw [List.count_cons_self] at hk
      subst hk
      have hix : Lib.index (10 :: r) [10] = 0 := by rw [Lib.index]; simp [List.isPrefixOf]
      unfold Lib.splitK
      rw [hix]
      rw [if_neg (by decide), sp_nl]
      have := split_sp r (r.count 10) rfl
      simp only [Int.toNat_zero, List.length_singleton, Nat.zero_add, List.take_zero, List.drop_succ_cons, List.drop_zero]
      rw [this]
    · rw [List.count_cons_of_ne (by simpa using h)] at hk
      have i := split_sp r k hk
      rw [sp_ne h, ← i]
      cases k with
      | zero => rfl
      | succ k =>
        have hp : ([10] : List UInt8).isPrefixOf (c :: r) = false := by simp [List.isPrefixOf, Ne.symm h]
        have hix : Lib.index (c :: r) [10] = if Lib.index r [10] == -1 then -1 else Lib.index r [10] + 1 := by rw [Lib.index, hp]; simp
        unfold Lib.splitK
        rw [hix]
        by_cases hm : Lib.index r [10] = -1
        · rw [hm]
          rfl
        · have hge := Lib.index_ge r [10]
          obtain ⟨j, hj⟩ : ∃ j : Nat, Lib.index r [10] = j := ⟨(Lib.index r [10]).toNat, by omega⟩
          rw [hj]
          have b1 : ((j : Int) == -1) = false := beq_eq_false_iff_ne.2 (by omega)
          have b2 : ((j : Int) + 1 == -1) = false := beq_eq_false_iff_ne.2 (by omega)
          rw [b1]
          simp only [Bool.false_eq_true, if_false]
          rw [b2]
          simp only [Bool.false_eq_true, if_false]
          have e1 : ((j : Int) + 1).toNat = j + 1 := by omega
          rw [e1, Int.toNat_natCast]
          rfl
theorem lns_sp (s : ByteArray) : (lns s).map (·.data.toList) = sp s.data.toList := by
  unfold lns
  rw [Lib.splitB_data]
  have hc : Lib.countB s ⟨#[10]⟩ = s.data.toList.count 10 := by
    rw [← Lib.count_one]
  rw [hc]
  exact split_sp _ _ rfl
theorem ba_ext {a b : ByteArray} (h : a.data.toList = b.data.toList) : a = b := by
  cases a; cases b
  simp only [ByteArray.mk.injEq]
  exact Array.ext' h
theorem map_inj {l m : List ByteArray} (h : l.map (·.data.toList) = m.map (·.data.toList)) : l = m := by
  induction l generalizing m with
  | nil => cases m with
    | nil => rfl
    | cons a b => cases h
  | cons a b ih => cases m with
    | nil => cases h
    | cons c d =>
      injection h with h1 h2
      rw [ba_ext h1, ih h2]
def nlp : Nat → List UInt8 → Nat
  | _, [] => 0
  | k, c :: r => if c = 10 then (if k ≤ 1 then 0 else 1 + nlp (k - 1) r) else 1 + nlp k r
def abv : Nat → List UInt8 → Nat
  | 0, _ => 0
  | _ + 1, [] => 0
  | k + 1, c :: r => if c = 10 then 1 + abv k r else 1 + abv (k + 1) r
end Go.Proofs.YtchbhmolnoggfaaGreatDoor

namespace Go.Proofs.YtchbhmolnoggfaaGreatDoor
open Go.RowKit
def Pc.sh (p : Pc) : Pc := { p with col := p.col + 1 }
def shF (f : Flt) : Flt := (f.1, f.2.1, f.2.2 + 1)
def shI : Except Flt (Ins × List Pc) → Except Flt (Ins × List Pc)
  | .error e => .error (shF e)
  | .ok (q, l) => .ok (q, l.map Pc.sh)
def shJ (x : Nat × Pc) : Nat × Pc := (x.1, x.2.sh)
def Sx.sh (s : Sx) : Sx := { s with js := s.js.map shJ }
def shX : Except Flt Sx → Except Flt Sx
  | .error e => .error (shF e)
  | .ok s => .ok s.sh
def LS : List ByteArray → List ByteArray → Prop
  | [], [] => True
  | a :: l, b :: m => (∀ n, wds b n = (wds a n).map Pc.sh) ∧ LS l m
  | _, _ => False
def shL : Except Flt (List Ins) → Except Flt (List Ins)
  | .error e => .error (shF e)
  | .ok s => .ok s
theorem cut_tw : ∀ (l : List UInt8), (Lib.cut l [35]).1 = l.takeWhile (fun c => c != 35)
  | [] => rfl
  | c :: r => by
    have ih := cut_tw r
    unfold Lib.cut at ih ⊢
    have hge := Lib.index_ge r [35]
    by_cases h : c = 35
    · subst h
      have hix : Lib.index (35 :: r) [35] = 0 := by rw [Lib.index]; simp [List.isPrefixOf]
      rw [hix]
      rfl
    · have hp : ([35] : List UInt8).isPrefixOf (c :: r) = false := by simp [List.isPrefixOf, Ne.symm h]
      have hix : Lib.index (c :: r) [35] = if Lib.index r [35] == -1 then -1 else Lib.index r [35] + 1 := by rw [Lib.index, hp]; simp
      have ht : List.takeWhile (fun c => c != 35) (c :: r) = c :: r.takeWhile (fun c => c != 35) := by rw [List.takeWhile_cons_of_pos (by simpa using h)]
      rw [hix, ht, ← ih]
      by_cases hm : Lib.index r [35] = -1
      · rw [hm]
        rfl
      · obtain ⟨j, hj⟩ : ∃ j : Nat, Lib.index r [35] = j := ⟨(Lib.index r [35]).toNat, by omega⟩
        rw [hj]
        have b1 : ((j : Int) == -1) = false := beq_eq_false_iff_ne.2 (by omega)
        rw [b1]
        simp only [Bool.false_eq_true, if_false]
        rw [if_pos (by omega), if_pos (by omega)]
        have e1 : ((j : Int) + 1).toNat = j + 1 := by omega
        rw [e1, Int.toNat_natCast]
        rfl
def e1 : List UInt8 := [32, 32, 35, 32, 255]
def e2 : List UInt8 := [32, 9, 32, 35, 32, 120, 58, 32, 113, 117, 105, 116]
def dpre : List UInt8 → List UInt8
  | [] => []
  | c :: r => (if c = 10 then e2 ++ [10, 9] else [c]) ++ dpre r
def dq : List (List UInt8) → List (List UInt8)
  | [] => []
  | [h] => [h ++ e1]
  | h :: a :: t => (h ++ e2) :: hd 9 (dq (a :: t))
end Go.Proofs.YtchbhmolnoggfaaGreatDoor

namespace Go.Proofs.YtchbhmolnoggfaaGreatDoor
open Go.RowKit
theorem dgt (u : Nat) (h : u < 10) : (UInt8.ofNat (48 + u)).toNat = 48 + u := by
  rw [UInt8.toNat_ofNat']; omega
theorem dec_small {u : Nat} (h : u < 10) : Lib.decDigits u = [UInt8.ofNat (48 + u)] := by rw [Lib.decDigits, dif_pos h]
theorem dec_big {u : Nat} (h : ¬ u < 10) : Lib.decDigits u = Lib.decDigits (u / 10) ++ [UInt8.ofNat (48 + u % 10)] := by rw [Lib.decDigits, dif_neg h]
theorem dig_dgt (u : Nat) (h : u < 10) : digB (UInt8.ofNat (48 + u)) = true := (digB_iff _).2 (by rw [dgt u h]; omega)
theorem dec_all (n : Nat) : ∀ u, u ≤ n → (Lib.decDigits u).all digB = true ∧ natv 0 (Lib.decDigits u) = u ∧ Lib.decDigits u ≠ [] ∧ (0 < u → ∃ e r, Lib.decDigits u = e :: r ∧ 49 ≤ e.toNat) := by
  induction n with
  | zero =>
    intro u hu
    have h0 : u = 0 := by omega
    subst h0
    rw [dec_small (by decide)]
    refine ⟨by rw [List.all_cons, dig_dgt 0 (by decide)]; rfl, by rw [natv_cons, natv_nil, dgt 0 (by decide)], by simp, fun h => absurd h (by decide)⟩
  | succ n ih =>
    intro u hu
    by_cases h : u < 10
    · rw [dec_small h]
      refine ⟨by rw [List.all_cons, dig_dgt u h]; rfl, by rw [natv_cons, natv_nil, dgt u h]; omega, by simp, fun h0 => ⟨_, [], rfl, by rw [dgt u h]; omega⟩⟩
    · obtain ⟨i1, i2, i3, i4⟩ := ih (u / 10) (by omega)
      rw [dec_big h]
      refine ⟨by rw [List.all_append, i1, List.all_cons, dig_dgt _ (by omega)]; rfl, by rw [natv_snoc, i2, dgt _ (by omega)]; omega, by simp, fun _ => ?_⟩
      obtain ⟨e, r, he, h49⟩ := i4 (by omega)
      exact ⟨e, r ++ [UInt8.ofNat (48 + u % 10)], by rw [he]; rfl, h49⟩
theorem dec_digs (u : Nat) : (Lib.decDigits u).all digB = true := (dec_all u u (Nat.le_refl _)).1
theorem dec_natv (u : Nat) : natv 0 (Lib.decDigits u) = u := (dec_all u u (Nat.le_refl _)).2.1
theorem dec_head (u : Nat) (h : 0 < u) : ∃ e r, Lib.decDigits u = e :: r ∧ 49 ≤ e.toNat := (dec_all u u (Nat.le_refl _)).2.2.2 h
theorem ofNat_toNat48 (c : UInt8) (h : 48 ≤ c.toNat) : UInt8.ofNat (48 + (c.toNat - 48)) = c := by
  rw [show 48 + (c.toNat - 48) = c.toNat by omega]; exact UInt8.ofNat_toNat
theorem dec_back (n : Nat) : ∀ d : List UInt8, d.length ≤ n → d.all digB = true → (∃ e r, d = e :: r ∧ 49 ≤ e.toNat) → Lib.decDigits (natv 0 d) = d := by
  induction n with
  | zero => intro d hl _ hh; obtain ⟨e, r, rfl, _⟩ := hh; simp at hl
  | succ n ih =>
    intro d hl ha hh
    obtain ⟨e, r, rfl, h49⟩ := hh
    rcases List.eq_nil_or_concat r with rfl | ⟨r', c, rfl⟩
    · rw [List.all_cons, Bool.and_eq_true] at ha
      have he := (digB_iff e).1 ha.1
      rw [natv_cons, natv_nil, show 0 * 10 + (e.toNat - 48) = e.toNat - 48 by omega, dec_small (by omega), ofNat_toNat48 e (by omega)]
    · have e1 : e :: r'.concat c = (e :: r') ++ [c] := by simp
      rw [e1] at ha hl ⊢
      rw [List.all_append, Bool.and_eq_true] at ha
      have hc : digB c = true := by simpa using ha.2
      have hc := (digB_iff c).1 hc
      have ih1 := ih (e :: r') (by simp at hl ⊢; omega) ha.1 ⟨e, r', rfl, h49⟩
      have hge := natv_ge r' (0 * 10 + (e.toNat - 48))
      rw [← natv_cons] at hge
      have hp : 1 ≤ natv 0 (e :: r') := by
        refine Nat.le_trans ?_ hge
        have : 0 < 10 ^ r'.length := Nat.pow_pos (by decide)
        exact Nat.mul_pos (by omega) this
      rw [natv_snoc, dec_big (by omega), show (natv 0 (e :: r') * 10 + (c.toNat - 48)) / 10 = natv 0 (e :: r') by omega, ih1, show (natv 0 (e :: r') * 10 + (c.toNat - 48)) % 10 = c.toNat - 48 by omega, ofNat_toNat48 c (by omega)]
theorem dec_len (u : Nat) (h : u ≤ 9223372036854775808) : 1 ≤ (Lib.decDigits u).length ∧ (Lib.decDigits u).length ≤ 19 := by
  by_cases h0 : u = 0
  · subst h0; rw [dec_small (by decide)]; simp
  · obtain ⟨e, r, he, h49⟩ := dec_head u (by omega)
    have hn := dec_natv u
    rw [he] at hn ⊢
    have hge := natv_ge r (0 * 10 + (e.toNat - 48))
    rw [← natv_cons, hn] at hge
    have h1 : 1 * 10 ^ r.length ≤ u := Nat.le_trans (Nat.mul_le_mul_right _ (by omega)) hge
    rw [List.length_cons]
    refine ⟨by omega, ?_⟩
    by_cases k : r.length ≤ 18
    · omega
    · have : 10 ^ 19 ≤ 10 ^ r.length := Nat.pow_le_pow_right (by decide) (by omega)
      have e19 : (10 : Nat) ^ 19 = 10000000000000000000 := rfl
      omega
theorem itoa_neg' {n : Int} (h : n < 0) : Lib.itoa n = 45 :: Lib.decDigits n.natAbs := by unfold Lib.itoa; rw [if_pos h]
theorem itoa_pos' {n : Int} (h : ¬ n < 0) : Lib.itoa n = Lib.decDigits n.natAbs := by unfold Lib.itoa; rw [if_neg h]; congr 1; omega
theorem form_dec_neg (u : Nat) (h : 0 < u) : numForm (45 :: Lib.decDigits u) = true := by
  obtain ⟨e, r, he, h49⟩ := dec_head u h
  have hd := dec_digs u
  rw [he] at hd ⊢
  rw [numForm_cons, if_pos (by decide)]
  simp only
  rw [if_neg (by omega)]; exact hd
theorem form_dec (u : Nat) : numForm (Lib.decDigits u) = true ∧ neg? (Lib.decDigits u) = false ∧ digs (Lib.decDigits u) = Lib.decDigits u := by
  by_cases h : 0 < u
  · obtain ⟨e, r, he, h49⟩ := dec_head u h
    have hd := dec_digs u
    rw [he] at hd ⊢
    have h5 := hd
    rw [List.all_cons, Bool.and_eq_true] at h5
    have h6 := (digB_iff e).1 h5.1
    refine ⟨?_, ?_, ?_⟩
    · rw [numForm_cons, if_neg (by omega), if_neg (by omega)]; exact hd
    · show decide (e.toNat = 45) = false
      simp; omega
    · show (if e.toNat = 45 then r else e :: r) = e :: r
      rw [if_neg (by omega)]
  · have h0 : u = 0 := by omega
    subst h0
    rw [dec_small (by decide)]
    exact ⟨by decide, by decide, by decide⟩
theorem round_to (n : Int) (h : In64 n) : prsV (Lib.itoa n) = n ∧ prsE (Lib.itoa n) = 0 ∧ 1 ≤ (Lib.itoa n).length ∧ (Lib.itoa n).length ≤ 20 := by
  unfold In64 at h
  by_cases hn : n < 0
  · rw [itoa_neg' hn]
    have hl := dec_len n.natAbs (by omega)
    have hf := form_dec_neg n.natAbs (by omega)
    have hg : neg? (45 :: Lib.decDigits n.natAbs) = true := by show decide ((45 : UInt8).toNat = 45) = true; decide
    have hd : digs (45 :: Lib.decDigits n.natAbs) = Lib.decDigits n.natAbs := by
      show (if (45 : UInt8).toNat = 45 then Lib.decDigits n.natAbs else 45 :: Lib.decDigits n.natAbs) = _; rw [if_pos (by decide)]
    have hv := dec_natv n.natAbs
    refine ⟨?_, ?_, by rw [List.length_cons]; omega, by rw [List.length_cons]; omega⟩
    · unfold prsV lim
      rw [hf, hg, hd, hv, if_pos ⟨rfl, by simp; omega⟩]
      simp; omega
    · unfold prsE lim
      rw [hf, hg, hd, hv, if_pos rfl, if_pos (by simp; omega)]
  · rw [itoa_pos' hn]
    have hl := dec_len n.natAbs (by omega)
    obtain ⟨hf, hg, hd⟩ := form_dec n.natAbs
    have hv := dec_natv n.natAbs
    refine ⟨?_, ?_, hl.1, by omega⟩
    · unfold prsV lim
      rw [hf, hg, hd, hv, if_pos ⟨rfl, by simp; omega⟩]
      simp; omega
    · unfold prsE lim
      rw [hf, hg, hd, hv, if_pos rfl, if_pos (by simp; omega)]
theorem round_from {l : List UInt8} (h : prsE l = 0) : Lib.itoa (prsV l) = l ∧ In64 (prsV l) := by
  unfold prsE at h
  by_cases hf : numForm l = true
  · rw [if_pos hf] at h
    by_cases hl : natv 0 (digs l) ≤ lim l
    · obtain ⟨h1, h2, h3, h4⟩ := form_digs hf
      have hV : prsV l = if neg? l then -((natv 0 (digs l) : Nat) : Int) else ((natv 0 (digs l) : Nat) : Int) := by unfold prsV; rw [if_pos ⟨hf, hl⟩]
      have hL : lim l = if neg? l then 9223372036854775808 else 9223372036854775807 := rfl
      rw [hV]
      have back : ∀ e r, digs l = e :: r → 49 ≤ e.toNat → Lib.decDigits (natv 0 (digs l)) = digs l ∧ 0 < natv 0 (digs l) := by
        intro e r he h49
        refine ⟨dec_back _ _ (Nat.le_refl _) h1 ⟨e, r, he, h49⟩, ?_⟩
        rw [he]
        have hge := natv_ge r (0 * 10 + (e.toNat - 48))
        rw [← natv_cons] at hge
        have : 0 < 10 ^ r.length := Nat.pow_pos (by decide)
        exact Nat.lt_of_lt_of_le (Nat.mul_pos (by omega) this) hge
      cases hn : neg? l
      · rw [hn] at hL
        simp only [Bool.false_eq_true, if_false] at hL ⊢
        have hd : digs l = l := by
          cases l with
          | nil => rfl
          | cons c r =>
            have : decide (c.toNat = 45) = false := hn
            show (if c.toNat = 45 then r else c :: r) = c :: r
            rw [if_neg (by simpa using this)]
        refine ⟨?_, by unfold In64; omega⟩
        rw [itoa_pos' (by omega), Int.natAbs_natCast]
        rcases h3 with h3 | ⟨e, r, he, h49⟩
        · rw [h3, natv_cons, natv_nil, ← hd, h3]
          exact dec_small (by decide)
        · rw [(back e r he h49).1, hd]
      · rw [hn] at hL
        simp only [if_true] at hL ⊢
        obtain ⟨e, r, he, h49⟩ := h4 hn
        obtain ⟨b1, b2⟩ := back e r he h49
        refine ⟨?_, by unfold In64; omega⟩
        rw [itoa_neg' (by omega), Int.natAbs_neg, Int.natAbs_natCast, b1]
        cases l with
        | nil => cases hn
        | cons c r =>
          have hc : c.toNat = 45 := of_decide_eq_true hn
          have hcc : c = 45 := UInt8.toNat_inj.1 hc
          show (45 : UInt8) :: (if c.toNat = 45 then r else c :: r) = c :: r
          rw [if_pos hc, hcc]
    · rw [if_neg hl] at h; cases h
  · rw [if_neg hf] at h; cases h
end Go.Proofs.YtchbhmolnoggfaaGreatDoor

namespace Go.Proofs.YtchbhmolnoggfaaGreatDoor
open Go.RowKit
def srcT (r : Bool) (n : Int) : List UInt8 := if r then 114 :: Lib.itoa n else Lib.itoa n
def tldT (q : Ins) (lb : Nat → List UInt8) (s : Int) : List UInt8 := if s = 1 then srcT true q.dst else if s = 2 then 64 :: srcT q.oR q.oN else if s = 3 then srcT q.xR q.xN else if s = 4 then srcT q.yR q.yN else if s = 5 then (relT q.rel.toNat).data.toList else lb q.to.toNat
def nmT (q : Ins) : List UInt8 := if q.code = 6 then (opT q.op.toNat).data.toList else (shT q.code.toNat).data.toList
def wrdsT (q : Ins) (lb : Nat → List UInt8) : List (List UInt8) := nmT q :: (slo q.code.toNat).map (tldT q lb)
def lineT (q : Ins) (lb : Nat → List UInt8) : List UInt8 := Lib.join (wrdsT q lb) [32]
def lbk (T : List Int) : Nat → Nat → List UInt8
  | 0 => fun _ => []
  | k + 1 => fun p => if (p : Int) = T.getD k 0 then 108 :: Lib.itoa (k : Int) else lbk T k p
def pcT (l : List Ins) (lb : Nat → List UInt8) (p : Nat) : List UInt8 := (if lb p = [] then [] else lb p ++ [58, 10]) ++ (if p < l.length then lineT (l.getD p ins0) lb ++ [10] else [])
def prnK (l : List Ins) (lb : Nat → List UInt8) (k : Nat) : List UInt8 := (List.range k).flatMap (pcT l lb)
def tgs (l : List Ins) : List Int := (l.filter (fun q => kdL q.code)).map (·.to)
def tgS (l : List Ins) : List Int := Lib.compact ((tgs l).mergeSort fun x y => decide (x ≤ y))
def lbT (l : List Ins) : Nat → List UInt8 := lbk (tgS l) (tgS l).length
def prn (l : List Ins) : List UInt8 := prnK l (lbT l) (l.length + 1)
def n64 (q : Ins) : Prop := In64 q.oN ∧ In64 q.xN ∧ In64 q.yN
def gw (w : List UInt8) : Prop := w ≠ [] ∧ ∀ c ∈ w, c ≠ 10 ∧ c ≠ 32 ∧ c ≠ 9 ∧ c ≠ 35 ∧ c ≠ 58
instance (w : List UInt8) : Decidable (gw w) := by unfold gw; infer_instance
theorem ba_tl (l : List UInt8) : (⟨l.toArray⟩ : ByteArray).toList = l := by
  rw [ByteArray.toList_eq]
theorem tp_cons (c : UInt8) (l : List UInt8) : tp ⟨(c :: l).toArray⟩ c = ⟨l.toArray⟩ := by
  unfold tp Lib.trimPrefix Lib.hasPrefix
  simp [List.isPrefixOf]
theorem hp_cons (c d : UInt8) (l : List UInt8) : hp ⟨(c :: l).toArray⟩ d = (d == c) := by
  unfold hp Lib.hasPrefix
  simp [List.isPrefixOf]
theorem reg_src {n : Int} (h : rg n = true) : regB ⟨(srcT true n).toArray⟩ = true ∧ regN ⟨(srcT true n).toArray⟩ = n := by
  have h' := h
  unfold rg at h'
  simp at h'
  have hr := round_to n ⟨by omega, by omega⟩
  have e : regN ⟨(srcT true n).toArray⟩ = n := by
    unfold regN srcT
    rw [if_pos rfl, tp_cons, ba_tl]
    exact hr.1
  refine ⟨?_, e⟩
  unfold regB
  rw [e, h]
  unfold srcT
  rw [if_pos rfl, tp_cons, hp_cons, ba_tl, hr.2.1]
  rfl
end Go.Proofs.YtchbhmolnoggfaaGreatDoor

namespace Go.Proofs.YtchbhmolnoggfaaGreatDoor
open Go.RowKit
def zt (q : Ins) : Ins := { q with to := 0 }
end Go.Proofs.YtchbhmolnoggfaaGreatDoor

namespace Go.Proofs.YtchbhmolnoggfaaGreatDoor
open Go.RowKit
def Ins.layz (u q : Ins) (l : List Int) : Ins := l.foldl (fun u s => if s = 6 then u else u.lay q s) u
end Go.Proofs.YtchbhmolnoggfaaGreatDoor

namespace Go.Proofs.YtchbhmolnoggfaaGreatDoor
open Go.RowKit
structure LB (lb : Nat → List UInt8) : Prop where
  nm : ∀ p, lb p ≠ [] → nmB ⟨(lb p).toArray⟩ = true
  gw : ∀ p, lb p ≠ [] → gw (lb p)
  ln : ∀ p, (lb p).length ≤ 3
  inj : ∀ p q, lb p ≠ [] → lb p = lb q → p = q
def plines (l : List Ins) (lb : Nat → List UInt8) (p : Nat) : List (List UInt8) := (if lb p = [] then [] else [lb p ++ [58]]) ++ (if p < l.length then [lineT (l.getD p ins0) lb] else [])
structure GI (n : Int) (lb : Nat → List UInt8) (q : Ins) : Prop where
  can : q.can n = true
  n64 : n64 q
  lb : kdL q.code = true → lb q.to.toNat ≠ []
theorem GI.c {n : Int} {lb : Nat → List UInt8} {q : Ins} (h : GI n lb q) : ∃ c : Nat, q.code = (c : Int) ∧ (1 ≤ c ∧ c ≤ 10) ∧ q.cab n c = true := by
  have hc := h.can
  have h1 : 1 ≤ q.code ∧ q.code ≤ 10 := by
    unfold Ins.can at hc
    simp only [Bool.and_eq_true, decide_eq_true_eq] at hc
    exact hc.1.1
  have e : q.code = ((q.code.toNat : Nat) : Int) := by omega
  exact ⟨q.code.toNat, e, by omega, by rw [cab_can e (by omega)]; exact hc⟩
structure RI0 (l : List Ins) (lb : Nat → List UInt8) (p : Nat) (s : Sx) : Prop where
  qs : s.qs = (l.take p).map zt
  fs : ∀ t v, s.f t = some v ↔ (v < p ∧ lb v ≠ [] ∧ t = ⟨(lb v).toArray⟩)
  js : ∀ x ∈ s.js, x.1 < l.length ∧ kdL (l.getD x.1 ins0).code = true ∧ x.2.t = ⟨(lb (l.getD x.1 ins0).to.toNat).toArray⟩
  ja : ∀ i, i < p → i < l.length → kdL (l.getD i ins0).code = true → ∃ x ∈ s.js, x.1 = i
def bas (l : List (List UInt8)) : List ByteArray := l.map (fun w => ⟨w.toArray⟩)
end Go.Proofs.YtchbhmolnoggfaaGreatDoor

namespace Go.Proofs.YtchbhmolnoggfaaGreatDoor
open Go.RowKit
end Go.Proofs.YtchbhmolnoggfaaGreatDoor

namespace Go.Proofs.YtchbhmolnoggfaaGreatDoor
open Go.RowKit
def tl (s : Int) : Nat := if s = 1 then 3 else if s = 2 then 22 else if s = 3 then 21 else if s = 4 then 21 else if s = 5 then 2 else 3
end Go.Proofs.YtchbhmolnoggfaaGreatDoor

namespace Go.Proofs.YtchbhmolnoggfaaGreatDoor
open Go.RowKit
theorem look_le (tab : Nat → ByteArray) (s : ByteArray) : ∀ n i, look tab s i n = 0 ∨ (i ≤ look tab s i n ∧ look tab s i n < i + n)
  | 0, i => .inl rfl
  | n + 1, i => by
    unfold look
    split
    · exact .inr ⟨Nat.le_refl _, by omega⟩
    · rcases look_le tab s n (i + 1) with h | h
      · exact .inl h
      · exact .inr ⟨by omega, by omega⟩
structure CZ (q : Ins) : Prop where
  can : ∀ n t : Int, (if kdL q.code = true then 0 ≤ t ∧ t ≤ n else t = 0) → ({ q with to := t } : Ins).can n = true
  n64 : n64 q
  to : q.to = 0
theorem look_at (tab : Nat → ByteArray) (s : ByteArray) : ∀ n i k, look tab s i n = k → k ≠ 0 → (tab k).toList = s.toList
  | 0, i, k, h, h0 => absurd h.symm h0
  | n + 1, i, k, h, h0 => by
    unfold look at h
    split at h
    · rename_i e
      rw [← h]; simpa using e
    · exact look_at tab s n (i + 1) k h h0
theorem nmd_inv {t : ByteArray} {q : Ins} (h0 : t.size ≠ 0) (h : nmd t = some q) : (∃ o : Int, (1 ≤ o ∧ o ≤ 12) ∧ q = { ins0 with code := 6, op := o }) ∨ ∃ c : Int, (1 ≤ c ∧ c ≤ 10 ∧ c ≠ 6) ∧ q = { ins0 with code := c } := by
  unfold nmd at h
  split at h
  · injection h with h
    have := look_le opT t 12 1
    exact .inl ⟨_, by omega, h.symm⟩
  · split at h
    · rename_i ho hr
      injection h with h
      have := look_le shT t 10 1
      refine .inr ⟨_, ⟨by omega, by omega, ?_⟩, h.symm⟩
      intro e6
      have e6' : look shT t 1 10 = 6 := by omega
      have e7 := look_at shT t 10 1 6 e6' (by decide)
      have e8 : (shT 6).toList = [] := by decide +kernel
      rw [e8, ByteArray.toList_eq] at e7
      apply h0
      show t.data.size = 0
      rw [← Array.length_toList, ← e7]
      rfl
    · cases h
end Go.Proofs.YtchbhmolnoggfaaGreatDoor

namespace Go.Proofs.YtchbhmolnoggfaaGreatDoor
open Go.RowKit
structure SI0 (s : Sx) : Prop where
  le : s.qs.length ≤ 64
  cz : ∀ q ∈ s.qs, CZ q
  js : ∀ x ∈ s.js, x.1 < s.qs.length ∧ kdL (s.qs.getD x.1 ins0).code = true
  f : ∀ t v, s.f t = some v → v ≤ s.qs.length
theorem wdf_ne (s : ByteArray) (num : Int) : ∀ n i, ∀ p ∈ wdf s num n i, p.t.size ≠ 0 ∧ p.ln = num
  | 0, i => fun p hp => by cases hp
  | n + 1, i => by
    intro p hp
    unfold wdf at hp
    split at hp
    · rename_i hlt
      rcases List.mem_append.1 hp with hp | hp
      · split at hp
        · rename_i hl
          rw [List.mem_singleton] at hp
          subst hp
          have hge := stp_ge s (s.size - i) i
          refine ⟨?_, rfl⟩
          show (s.extract i (stp s (s.size - i) i)).size ≠ 0
          rw [ByteArray.size_extract]
          omega
        · cases hp
      · exact wdf_ne s num n _ p hp
    · cases hp
theorem wds_ne (s : ByteArray) (num : Int) : ∀ p ∈ wds s num, p.t.size ≠ 0 ∧ p.ln = num := wdf_ne _ _ _ _
def OneOf (n : Nat) (u q : Ins) : Prop := ∃ t : Int, q = { u with to := t } ∧ (if kdL u.code = true then 0 ≤ t ∧ t ≤ (n : Int) else t = 0)
def okQ (p : Pc) : Prop := 0 < p.ln ∧ 0 ≤ p.col
def okG (e : Flt) : Prop := e.1 ≠ 0 ∧ e.1 ≠ 100 ∧ 0 < e.2.1 ∧ 0 ≤ e.2.2
def okJ : Except Flt (Ins × List Pc) → Prop
  | .error e => okG e
  | .ok (_, l) => ∀ p ∈ l, okQ p
def okY : Except Flt Sx → Prop
  | .error e => okG e
  | .ok s => ∀ x ∈ s.js, okQ x.2
end Go.Proofs.YtchbhmolnoggfaaGreatDoor

