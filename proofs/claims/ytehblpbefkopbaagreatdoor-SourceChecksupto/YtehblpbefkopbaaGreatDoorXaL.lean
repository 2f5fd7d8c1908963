import Derived.Test.YtehblpbefkopbaaGreatDoorXaK
namespace Go.Proofs.YtehblpbefkopbaaGreatDoor
open Go.RowKit Go.ChangeShapes Go.WideShapes Go.ChangeAt Go.Deep
attribute [local go_sem] Oper.semAt_some run_store_nf run_store_f
set_option maxHeartbeats 1000000 in
set_option maxRecDepth 100000 in
theorem opd_6 {d : Nat} (IH : CE d) {w : World} {r : Nat} {T R : Bs} (h : RdM w r T R) (hd : 10 * R.length + 4 ≤ d + 1) (ht : tok R = [33]) : Calls Tryz.prog 70 #[pR r] w (RetE (opd (d + 1) R) w r T) := by
  have hr := h.lt
  have hr12 : ∀ i, i < 12 → ¬ i = r := fun i hi e => by have := h.low; omega
  have nb : ¬ w.heap.size = r := by omega
  have y2 : ∀ ob, (w.alloc ob).cell? ⟨r, 2, none⟩ = some (.string (bs (tok R))) := fun ob => ((Keeps.refl (fun _ => False) w).alloc ob).cell (h.c.c 2 _ rfl) (fun e => e)
  have hA := fun ob => h.keep ((Keeps.refl (fun _ => False) w).alloc ob) (fun _ _ e => e) (fun e => e)
  have m0 := CL.made w zE 35
  rw [opd, if_neg (by rw [ht]; decide), if_pos ht]
  have e1 : ((bs (tok R)).toList == [45]) = false := by rw [bs_toList, ht]; rfl
  have e2 : ((bs (tok R)).toList == [33]) = true := by rw [bs_toList, ht]; rfl
  generalize bs (tok R) = K at *
  cases hn0 : nxt R with
  | error E =>
    have hS0 := fun W (h : RdM W r T R) => next_no h hn0
    show Calls _ _ _ _ (fun e w' => e = panT T E ∧ Keeps (fun k => k = r) w w')
    go_enter Tryz.func70, Tryz.ntmps70
    go_wp2_with (go_at_call 32; refine (hS0 _ (hA _)).mono ?_; rintro e w1 ⟨rfl, k1⟩; have K1 : Keeps (fun k => k = r) w w1 := ((Keeps.refl _ w).alloc _).trans k1)
    exact ⟨rfl, rfl, K1⟩
  | ok R1 =>
    have hS0 := fun W (h : RdM W r T R) => next_ok h hn0
    have hl0 : R1.length < R.length := nxt_lt hn0 (by rw [ht]; decide)
    (try dsimp only [thr, thn])
    have hS1 := fun W (h : RdM W r T R1) => IH.opd W r T R1 h (by omega)
    cases hn1 : opd d R1 with
    | error E =>
      rw [hn1] at hS1
      show Calls _ _ _ _ (fun e w' => e = panT T E ∧ Keeps (fun k => k = r) w w')
      go_enter Tryz.func70, Tryz.ntmps70
      go_wp2_with (first | (go_at_call 32; refine (hS0 _ (hA _)).mono ?_; rintro e w1 ⟨rfl, h1, k1⟩; have Z1 := k1.size; simp only [World.size_alloc] at Z1; have K1 : Keeps (fun k => k = r) w w1 := ((Keeps.refl _ w).alloc _).trans k1; have M1 := m0.keep (by show 0 < 4; decide) k1 nb; clear hS0) | (go_at_call 70; refine (hS1 _ h1).mono ?_; rintro e w2 ⟨rfl, k2⟩; have K2 : Keeps (fun k => k = r) w w2 := K1.trans k2))
      exact ⟨rfl, rfl, K2⟩
    | ok z1 =>
      obtain ⟨t1, R2⟩ := z1
      rw [hn1] at hS1
      have hl1 : R2.length < R1.length := (rd_lt d).2.2.1 _ _ _ hn1
      (try dsimp only [thr, thn])
      show Calls _ _ _ _ (fun e w' => ∃ k n s p m c, e = .returned (.agg #[.int .i64 k, .int .i64 n, .string s, .slice p m c]) ∧ TC w' (fun g => w.heap.size ≤ g) 35 (.mk 6 0 [] [t1]) [.int .i64 k, .int .i64 n, .string s, .slice p m c] ∧ RdM w' r T R2 ∧ Keeps (fun k => k = r) w w')
      go_enter Tryz.func70, Tryz.ntmps70
      go_wp2_with (first | (go_at_call 32; refine (hS0 _ (hA _)).mono ?_; rintro e w1 ⟨rfl, h1, k1⟩; have Z1 := k1.size; simp only [World.size_alloc] at Z1; have K1 : Keeps (fun k => k = r) w w1 := ((Keeps.refl _ w).alloc _).trans k1; have M1 := m0.keep (by show 0 < 4; decide) k1 nb; clear hS0) | (go_at_call 70; refine (hS1 _ h1).mono ?_; rintro e w2 ⟨k101, n101, s101, p101, m101, c101, rfl, u1, h2, kk2⟩; have k2 := kk2; have Z2 := k2.size; have K2 : Keeps (fun k => k = r) w w2 := K1.trans k2; have M2 := M1.keep (by show 0 < 4; decide) k2 nb; have T101 : TC w2 (fun g => w.heap.size < g) 35 t1 [.int .i64 k101, .int .i64 n101, .string s101, .slice p101 m101 c101] := u1.mono (fun g hg => (by omega)); clear hS1) | (refine wpList_build1L uEx inEx (by decide) (by decide) rfl _ rfl [_, _, _, _] rfl rfl ?_; (try simp only [Act.put, List.setIfInBounds_toArray, List.set_cons_zero, List.set_cons_succ])) | (refine wpList_store_cl rfl 35 _ _ rfl w.heap.size 0 4 _ rfl rfl rfl (M2.alloc (by show 0 < 4; decide) _) (by show 4 ≤ 4; decide) iEx one4 ?_; intro w9 hc9 k9 zz9; clear zz9))
      have hc6 : CL w9 w.heap.size [.int .i64 6, .int .i64 0, .string (bs []), .slice (some ⟨w2.heap.size, 0, none⟩) 1 1] := hc9
      have hrn := run_ex hc6
      have tn := T101.node1 (k := 6) (n := 0) (wd := []) k9 (fun g hg => by omega) (by omega) (by unfold I64; omega) (by unfold I64; omega) (by decide)
      have k6 : Keeps (fun i => i = w.heap.size) w2 w9 := ((Keeps.refl _ w2).alloc _).trans k9
      refine bodyPost_ret (v := .agg #[.int .i64 6, .int .i64 0, .string (bs []), .slice (some ⟨w2.heap.size, 0, none⟩) 1 1]) (by rw [results_cell1 rfl]; simp [asAddr, hrn]) rfl ?_
      exact ⟨_, _, _, _, _, _, rfl, tn.mono (fun g hg => by omega), h2.keep k6 (fun i hi e => by have := h2.low; omega) (fun e => by omega), K2.trans' k6 (fun _ _ e => e) (fun i hi e => by omega)⟩
set_option maxHeartbeats 1000000 in
set_option maxRecDepth 100000 in
theorem opd_l {d : Nat} (IH : CE d) {w : World} {r : Nat} {T R : Bs} (h : RdM w r T R) (hd : 10 * R.length + 4 ≤ d + 1) (g1 : tok R ≠ [45]) (g2 : tok R ≠ [33]) : Calls Tryz.prog 70 #[pR r] w (RetE (opd (d + 1) R) w r T) := by
  have hr := h.lt
  have hr12 : ∀ i, i < 12 → ¬ i = r := fun i hi e => by have := h.low; omega
  have nb : ¬ w.heap.size = r := by omega
  have y2 : ∀ ob, (w.alloc ob).cell? ⟨r, 2, none⟩ = some (.string (bs (tok R))) := fun ob => ((Keeps.refl (fun _ => False) w).alloc ob).cell (h.c.c 2 _ rfl) (fun e => e)
  have hA := fun ob => h.keep ((Keeps.refl (fun _ => False) w).alloc ob) (fun _ _ e => e) (fun e => e)
  have m0 := CL.made w zE 35
  rw [opd, if_neg g1, if_neg g2]
  have e1 : ((bs (tok R)).toList == [45]) = false := by rw [bs_toList]; exact beq_eq_false_iff_ne.2 g1
  have e2 : ((bs (tok R)).toList == [33]) = false := by rw [bs_toList]; exact beq_eq_false_iff_ne.2 g2
  generalize bs (tok R) = K at *
  have hS0 := fun W (h : RdM W r T R) => IH.lst W r T R h (by omega)
  cases hn0 : lst d R with
  | error E =>
    rw [hn0] at hS0
    show Calls _ _ _ _ (fun e w' => e = panT T E ∧ Keeps (fun k => k = r) w w')
    go_enter Tryz.func70, Tryz.ntmps70
    go_wp2_with (go_at_call 90; refine (hS0 _ (hA _)).mono ?_; rintro e w1 ⟨rfl, k1⟩; have K1 : Keeps (fun k => k = r) w w1 := ((Keeps.refl _ w).alloc _).trans k1)
    exact ⟨rfl, rfl, K1⟩
  | ok z0 =>
    obtain ⟨t0, R1⟩ := z0
    rw [hn0] at hS0
    have hl0 : R1.length < R.length := (rd_lt d).2.2.2.1 _ _ _ hn0
    (try dsimp only [thr, thn])
    show Calls _ _ _ _ (fun e w' => ∃ k n s p m c, e = .returned (.agg #[.int .i64 k, .int .i64 n, .string s, .slice p m c]) ∧ TC w' (fun g => w.heap.size ≤ g) 35 (t0) [.int .i64 k, .int .i64 n, .string s, .slice p m c] ∧ RdM w' r T R1 ∧ Keeps (fun k => k = r) w w')
    go_enter Tryz.func70, Tryz.ntmps70
    go_wp2_with (first | (go_at_call 90; refine (hS0 _ (hA _)).mono ?_; rintro e w1 ⟨k100, n100, s100, p100, m100, c100, rfl, u0, h1, kk1⟩; have k1 := kk1; have Z1 := k1.size; simp only [World.size_alloc] at Z1; have K1 : Keeps (fun k => k = r) w w1 := ((Keeps.refl _ w).alloc _).trans k1; have M1 := m0.keep (by show 0 < 4; decide) k1 nb; have T100 : TC w1 (fun g => w.heap.size < g) 35 t0 [.int .i64 k100, .int .i64 n100, .string s100, .slice p100 m100 c100] := u0.mono (fun g hg => (by simp only [World.size_alloc] at hg; omega)); clear hS0) | (refine wpList_store_cl rfl 35 _ _ rfl w.heap.size 0 4 _ rfl rfl rfl M1 (by show 4 ≤ 4; decide) iEx one4 ?_; intro w9 hc9 k9 zz9; clear zz9))
    have hc6 : CL w9 w.heap.size [.int .i64 k100, .int .i64 n100, .string s100, .slice p100 m100 c100] := hc9
    have hrn := run_ex hc6
    refine bodyPost_ret (v := .agg #[.int .i64 k100, .int .i64 n100, .string s100, .slice p100 m100 c100]) (by rw [results_cell1 rfl]; simp [asAddr, hrn]) rfl ?_
    exact ⟨_, _, _, _, _, _, rfl, (T100.stay (k9.stay (fun i hi _ e => by omega))).mono (fun g hg => by omega), h1.keep k9 (fun i hi e => by have := h1.low; omega) (fun e => by omega), K1.trans' k9 (fun _ _ e => e) (fun i hi e => by omega)⟩
set_option maxHeartbeats 1000000 in
set_option maxRecDepth 100000 in
theorem lst_3 {d : Nat} (IH : CE d) {w : World} {r : Nat} {T R : Bs} (h : RdM w r T R) (hd : 10 * R.length + 3 ≤ d + 1) (ht : tok R = [91]) : Calls Tryz.prog 90 #[pR r] w (RetE (lst (d + 1) R) w r T) := by
  have hr := h.lt
  have hr12 : ∀ i, i < 12 → ¬ i = r := fun i hi e => by have := h.low; omega
  have nb : ¬ w.heap.size = r := by omega
  have y2 : ∀ ob, (w.alloc ob).cell? ⟨r, 2, none⟩ = some (.string (bs (tok R))) := fun ob => ((Keeps.refl (fun _ => False) w).alloc ob).cell (h.c.c 2 _ rfl) (fun e => e)
  have hA := fun ob => h.keep ((Keeps.refl (fun _ => False) w).alloc ob) (fun _ _ e => e) (fun e => e)
  have m0 := CL.made w zE 35
  rw [lst, if_pos ht]
  have e1 : ((bs (tok R)).toList == [91]) = true := by rw [bs_toList, ht]; rfl
  have e2 : ((bs (tok R)).toList == [116, 97, 107, 101]) = false := by rw [bs_toList, ht]; rfl
  have e3 : ((bs (tok R)).toList == [109, 105, 110]) = false := by rw [bs_toList, ht]; rfl
  have e4 : ((bs (tok R)).toList == [109, 97, 120]) = false := by rw [bs_toList, ht]; rfl
  have e5 : ((bs (tok R)).toList == [40]) = false := by rw [bs_toList, ht]; rfl
  generalize bs (tok R) = K at *
  have hS0 := fun W (h : RdM W r T R) => IH.obj W r T R h (by omega)
  cases hn0 : obj d R with
  | error E =>
    rw [hn0] at hS0
    show Calls _ _ _ _ (fun e w' => e = panT T E ∧ Keeps (fun k => k = r) w w')
    go_enter Tryz.func90, Tryz.ntmps90
    go_wp2_with (go_at_call 73; refine (hS0 _ (hA _)).mono ?_; rintro e w1 ⟨rfl, k1⟩; have K1 : Keeps (fun k => k = r) w w1 := ((Keeps.refl _ w).alloc _).trans k1)
    exact ⟨rfl, rfl, K1⟩
  | ok z0 =>
    obtain ⟨t0, R1⟩ := z0
    rw [hn0] at hS0
    have hl0 : R1.length < R.length := (rd_lt d).2.2.2.2.1 _ _ _ hn0
    (try dsimp only [thr, thn])
    show Calls _ _ _ _ (fun e w' => ∃ k n s p m c, e = .returned (.agg #[.int .i64 k, .int .i64 n, .string s, .slice p m c]) ∧ TC w' (fun g => w.heap.size ≤ g) 35 (.mk 3 0 [] [t0]) [.int .i64 k, .int .i64 n, .string s, .slice p m c] ∧ RdM w' r T R1 ∧ Keeps (fun k => k = r) w w')
    go_enter Tryz.func90, Tryz.ntmps90
    go_wp2_with (first | (go_at_call 73; refine (hS0 _ (hA _)).mono ?_; rintro e w1 ⟨k100, n100, s100, p100, m100, c100, rfl, u0, h1, kk1⟩; have k1 := kk1; have Z1 := k1.size; simp only [World.size_alloc] at Z1; have K1 : Keeps (fun k => k = r) w w1 := ((Keeps.refl _ w).alloc _).trans k1; have M1 := m0.keep (by show 0 < 4; decide) k1 nb; have T100 : TC w1 (fun g => w.heap.size < g) 35 t0 [.int .i64 k100, .int .i64 n100, .string s100, .slice p100 m100 c100] := u0.mono (fun g hg => (by simp only [World.size_alloc] at hg; omega)); clear hS0) | (refine wpList_build1L uEx inEx (by decide) (by decide) rfl _ rfl [_, _, _, _] rfl rfl ?_; (try simp only [Act.put, List.setIfInBounds_toArray, List.set_cons_zero, List.set_cons_succ])) | (refine wpList_store_cl rfl 35 _ _ rfl w.heap.size 0 4 _ rfl rfl rfl (M1.alloc (by show 0 < 4; decide) _) (by show 4 ≤ 4; decide) iEx one4 ?_; intro w9 hc9 k9 zz9; clear zz9))
    have hc6 : CL w9 w.heap.size [.int .i64 3, .int .i64 0, .string (bs []), .slice (some ⟨w1.heap.size, 0, none⟩) 1 1] := hc9
    have hrn := run_ex hc6
    have tn := T100.node1 (k := 3) (n := 0) (wd := []) k9 (fun g hg => by omega) (by omega) (by unfold I64; omega) (by unfold I64; omega) (by decide)
    have k6 : Keeps (fun i => i = w.heap.size) w1 w9 := ((Keeps.refl _ w1).alloc _).trans k9
    refine bodyPost_ret (v := .agg #[.int .i64 3, .int .i64 0, .string (bs []), .slice (some ⟨w1.heap.size, 0, none⟩) 1 1]) (by rw [results_cell1 rfl]; simp [asAddr, hrn]) rfl ?_
    exact ⟨_, _, _, _, _, _, rfl, tn.mono (fun g hg => by omega), h1.keep k6 (fun i hi e => by have := h1.low; omega) (fun e => by omega), K1.trans' k6 (fun _ _ e => e) (fun i hi e => by omega)⟩
set_option maxHeartbeats 1000000 in
set_option maxRecDepth 100000 in
theorem lst_4 {d : Nat} (IH : CE d) {w : World} {r : Nat} {T R : Bs} (h : RdM w r T R) (hd : 10 * R.length + 3 ≤ d + 1) (ht : tok R = kTake) : Calls Tryz.prog 90 #[pR r] w (RetE (lst (d + 1) R) w r T) := by
  have hr := h.lt
  have hr12 : ∀ i, i < 12 → ¬ i = r := fun i hi e => by have := h.low; omega
  have nb : ¬ w.heap.size = r := by omega
  have y2 : ∀ ob, (w.alloc ob).cell? ⟨r, 2, none⟩ = some (.string (bs (tok R))) := fun ob => ((Keeps.refl (fun _ => False) w).alloc ob).cell (h.c.c 2 _ rfl) (fun e => e)
  have hA := fun ob => h.keep ((Keeps.refl (fun _ => False) w).alloc ob) (fun _ _ e => e) (fun e => e)
  have m0 := CL.made w zE 35
  rw [lst, if_neg (by rw [ht]; decide), if_pos ht]
  have e1 : ((bs (tok R)).toList == [91]) = false := by rw [bs_toList, ht]; rfl
  have e2 : ((bs (tok R)).toList == [116, 97, 107, 101]) = true := by rw [bs_toList, ht]; rfl
  have e3 : ((bs (tok R)).toList == [109, 105, 110]) = false := by rw [bs_toList, ht]; rfl
  have e4 : ((bs (tok R)).toList == [109, 97, 120]) = false := by rw [bs_toList, ht]; rfl
  have e5 : ((bs (tok R)).toList == [40]) = false := by rw [bs_toList, ht]; rfl
  generalize bs (tok R) = K at *
  cases hn0 : nxt R with
  | error E =>
    have hS0 := fun W (h : RdM W r T R) => next_no h hn0
    show Calls _ _ _ _ (fun e w' => e = panT T E ∧ Keeps (fun k => k = r) w w')
    go_enter Tryz.func90, Tryz.ntmps90
    go_wp2_with (go_at_call 32; refine (hS0 _ (hA _)).mono ?_; rintro e w1 ⟨rfl, k1⟩; have K1 : Keeps (fun k => k = r) w w1 := ((Keeps.refl _ w).alloc _).trans k1)
    exact ⟨rfl, rfl, K1⟩
  | ok R1 =>
    have hS0 := fun W (h : RdM W r T R) => next_ok h hn0
    have hl0 : R1.length < R.length := nxt_lt hn0 (by rw [ht]; decide)
    (try dsimp only [thr, thn])
    have hS1 := fun W (h : RdM W r T R1) => IH.obj W r T R1 h (by omega)
    cases hn1 : obj d R1 with
    | error E =>
      rw [hn1] at hS1
      show Calls _ _ _ _ (fun e w' => e = panT T E ∧ Keeps (fun k => k = r) w w')
      go_enter Tryz.func90, Tryz.ntmps90
      go_wp2_with (first | (go_at_call 32; refine (hS0 _ (hA _)).mono ?_; rintro e w1 ⟨rfl, h1, k1⟩; have Z1 := k1.size; simp only [World.size_alloc] at Z1; have K1 : Keeps (fun k => k = r) w w1 := ((Keeps.refl _ w).alloc _).trans k1; have M1 := m0.keep (by show 0 < 4; decide) k1 nb; clear hS0) | (go_at_call 73; refine (hS1 _ h1).mono ?_; rintro e w2 ⟨rfl, k2⟩; have K2 : Keeps (fun k => k = r) w w2 := K1.trans k2))
      exact ⟨rfl, rfl, K2⟩
    | ok z1 =>
      obtain ⟨t1, R2⟩ := z1
      rw [hn1] at hS1
      have hl1 : R2.length < R1.length := (rd_lt d).2.2.2.2.1 _ _ _ hn1
      (try dsimp only [thr, thn])
      show Calls _ _ _ _ (fun e w' => ∃ k n s p m c, e = .returned (.agg #[.int .i64 k, .int .i64 n, .string s, .slice p m c]) ∧ TC w' (fun g => w.heap.size ≤ g) 35 (.mk 4 0 [] [t1]) [.int .i64 k, .int .i64 n, .string s, .slice p m c] ∧ RdM w' r T R2 ∧ Keeps (fun k => k = r) w w')
      go_enter Tryz.func90, Tryz.ntmps90
      go_wp2_with (first | (go_at_call 32; refine (hS0 _ (hA _)).mono ?_; rintro e w1 ⟨rfl, h1, k1⟩; have Z1 := k1.size; simp only [World.size_alloc] at Z1; have K1 : Keeps (fun k => k = r) w w1 := ((Keeps.refl _ w).alloc _).trans k1; have M1 := m0.keep (by show 0 < 4; decide) k1 nb; clear hS0) | (go_at_call 73; refine (hS1 _ h1).mono ?_; rintro e w2 ⟨k101, n101, s101, p101, m101, c101, rfl, u1, h2, kk2⟩; have k2 := kk2; have Z2 := k2.size; have K2 : Keeps (fun k => k = r) w w2 := K1.trans k2; have M2 := M1.keep (by show 0 < 4; decide) k2 nb; have T101 : TC w2 (fun g => w.heap.size < g) 35 t1 [.int .i64 k101, .int .i64 n101, .string s101, .slice p101 m101 c101] := u1.mono (fun g hg => (by omega)); clear hS1) | (refine wpList_build1L uEx inEx (by decide) (by decide) rfl _ rfl [_, _, _, _] rfl rfl ?_; (try simp only [Act.put, List.setIfInBounds_toArray, List.set_cons_zero, List.set_cons_succ])) | (refine wpList_store_cl rfl 35 _ _ rfl w.heap.size 0 4 _ rfl rfl rfl (M2.alloc (by show 0 < 4; decide) _) (by show 4 ≤ 4; decide) iEx one4 ?_; intro w9 hc9 k9 zz9; clear zz9))
      have hc6 : CL w9 w.heap.size [.int .i64 4, .int .i64 0, .string (bs []), .slice (some ⟨w2.heap.size, 0, none⟩) 1 1] := hc9
      have hrn := run_ex hc6
      have tn := T101.node1 (k := 4) (n := 0) (wd := []) k9 (fun g hg => by omega) (by omega) (by unfold I64; omega) (by unfold I64; omega) (by decide)
      have k6 : Keeps (fun i => i = w.heap.size) w2 w9 := ((Keeps.refl _ w2).alloc _).trans k9
      refine bodyPost_ret (v := .agg #[.int .i64 4, .int .i64 0, .string (bs []), .slice (some ⟨w2.heap.size, 0, none⟩) 1 1]) (by rw [results_cell1 rfl]; simp [asAddr, hrn]) rfl ?_
      exact ⟨_, _, _, _, _, _, rfl, tn.mono (fun g hg => by omega), h2.keep k6 (fun i hi e => by have := h2.low; omega) (fun e => by omega), K2.trans' k6 (fun _ _ e => e) (fun i hi e => by omega)⟩
set_option maxHeartbeats 1000000 in
set_option maxRecDepth 100000 in
theorem lst_mi {d : Nat} (IH : CE d) {w : World} {r : Nat} {T R : Bs} (h : RdM w r T R) (hd : 10 * R.length + 3 ≤ d + 1) (ht : tok R = kMin) : Calls Tryz.prog 90 #[pR r] w (RetE (lst (d + 1) R) w r T) := by
  have hr := h.lt
  have hr12 : ∀ i, i < 12 → ¬ i = r := fun i hi e => by have := h.low; omega
  have nb : ¬ w.heap.size = r := by omega
  have y2 : ∀ ob, (w.alloc ob).cell? ⟨r, 2, none⟩ = some (.string (bs (tok R))) := fun ob => ((Keeps.refl (fun _ => False) w).alloc ob).cell (h.c.c 2 _ rfl) (fun e => e)
  have hA := fun ob => h.keep ((Keeps.refl (fun _ => False) w).alloc ob) (fun _ _ e => e) (fun e => e)
  have m0 := CL.made w zE 35
  have hm : tok R = kMin ∨ tok R = kMax := .inl ht
  rw [lst, if_neg (by rw [ht]; decide), if_neg (by rw [ht]; decide), if_pos hm]
  have e1 : ((bs (tok R)).toList == [91]) = false := by rw [bs_toList, ht]; rfl
  have e2 : ((bs (tok R)).toList == [116, 97, 107, 101]) = false := by rw [bs_toList, ht]; rfl
  have e3 : ((bs (tok R)).toList == [109, 105, 110]) = true := by rw [bs_toList, ht]; rfl
  have e4 : ((bs (tok R)).toList == [109, 97, 120]) = false := by rw [bs_toList, ht]; rfl
  have e5 : ((bs (tok R)).toList == [40]) = false := by rw [bs_toList, ht]; rfl
  clear ht
  generalize bs (tok R) = K at *
  have hS0 := fun W (h : RdM W r T R) => IH.pr W r T R h hm (by omega)
  cases hn0 : pr d R with
  | error E =>
    rw [hn0] at hS0
    show Calls _ _ _ _ (fun e w' => e = panT T E ∧ Keeps (fun k => k = r) w w')
    go_enter Tryz.func90, Tryz.ntmps90
    go_wp2_with (go_at_call 97; refine (hS0 _ (hA _)).mono ?_; rintro e w1 ⟨rfl, k1⟩; have K1 : Keeps (fun k => k = r) w w1 := ((Keeps.refl _ w).alloc _).trans k1)
    exact ⟨rfl, rfl, K1⟩
  | ok z0 =>
    obtain ⟨t0, R1⟩ := z0
    rw [hn0] at hS0
    have hl0 : R1.length < R.length := (rd_lt d).2.2.2.2.2 _ _ _ hm hn0
    (try dsimp only [thr, thn])
    show Calls _ _ _ _ (fun e w' => ∃ k n s p m c, e = .returned (.agg #[.int .i64 k, .int .i64 n, .string s, .slice p m c]) ∧ TC w' (fun g => w.heap.size ≤ g) 35 (t0) [.int .i64 k, .int .i64 n, .string s, .slice p m c] ∧ RdM w' r T R1 ∧ Keeps (fun k => k = r) w w')
    go_enter Tryz.func90, Tryz.ntmps90
    go_wp2_with (first | (go_at_call 97; refine (hS0 _ (hA _)).mono ?_; rintro e w1 ⟨k100, n100, s100, p100, m100, c100, rfl, u0, h1, kk1⟩; have k1 := kk1; have Z1 := k1.size; simp only [World.size_alloc] at Z1; have K1 : Keeps (fun k => k = r) w w1 := ((Keeps.refl _ w).alloc _).trans k1; have M1 := m0.keep (by show 0 < 4; decide) k1 nb; have T100 : TC w1 (fun g => w.heap.size < g) 35 t0 [.int .i64 k100, .int .i64 n100, .string s100, .slice p100 m100 c100] := u0.mono (fun g hg => (by simp only [World.size_alloc] at hg; omega)); clear hS0) | (refine wpList_store_cl rfl 35 _ _ rfl w.heap.size 0 4 _ rfl rfl rfl M1 (by show 4 ≤ 4; decide) iEx one4 ?_; intro w9 hc9 k9 zz9; clear zz9))
    have hc6 : CL w9 w.heap.size [.int .i64 k100, .int .i64 n100, .string s100, .slice p100 m100 c100] := hc9
    have hrn := run_ex hc6
    refine bodyPost_ret (v := .agg #[.int .i64 k100, .int .i64 n100, .string s100, .slice p100 m100 c100]) (by rw [results_cell1 rfl]; simp [asAddr, hrn]) rfl ?_
    exact ⟨_, _, _, _, _, _, rfl, (T100.stay (k9.stay (fun i hi _ e => by omega))).mono (fun g hg => by omega), h1.keep k9 (fun i hi e => by have := h1.low; omega) (fun e => by omega), K1.trans' k9 (fun _ _ e => e) (fun i hi e => by omega)⟩
set_option maxHeartbeats 1000000 in
set_option maxRecDepth 100000 in
theorem lst_ma {d : Nat} (IH : CE d) {w : World} {r : Nat} {T R : Bs} (h : RdM w r T R) (hd : 10 * R.length + 3 ≤ d + 1) (ht : tok R = kMax) : Calls Tryz.prog 90 #[pR r] w (RetE (lst (d + 1) R) w r T) := by
  have hr := h.lt
  have hr12 : ∀ i, i < 12 → ¬ i = r := fun i hi e => by have := h.low; omega
  have nb : ¬ w.heap.size = r := by omega
  have y2 : ∀ ob, (w.alloc ob).cell? ⟨r, 2, none⟩ = some (.string (bs (tok R))) := fun ob => ((Keeps.refl (fun _ => False) w).alloc ob).cell (h.c.c 2 _ rfl) (fun e => e)
  have hA := fun ob => h.keep ((Keeps.refl (fun _ => False) w).alloc ob) (fun _ _ e => e) (fun e => e)
  have m0 := CL.made w zE 35
  have hm : tok R = kMin ∨ tok R = kMax := .inr ht
  rw [lst, if_neg (by rw [ht]; decide), if_neg (by rw [ht]; decide), if_pos hm]
  have e1 : ((bs (tok R)).toList == [91]) = false := by rw [bs_toList, ht]; rfl
  have e2 : ((bs (tok R)).toList == [116, 97, 107, 101]) = false := by rw [bs_toList, ht]; rfl
  have e3 : ((bs (tok R)).toList == [109, 105, 110]) = false := by rw [bs_toList, ht]; rfl
  have e4 : ((bs (tok R)).toList == [109, 97, 120]) = true := by rw [bs_toList, ht]; rfl
  have e5 : ((bs (tok R)).toList == [40]) = false := by rw [bs_toList, ht]; rfl
  clear ht
  generalize bs (tok R) = K at *
  have hS0 := fun W (h : RdM W r T R) => IH.pr W r T R h hm (by omega)
  cases hn0 : pr d R with
  | error E =>
    rw [hn0] at hS0
    show Calls _ _ _ _ (fun e w' => e = panT T E ∧ Keeps (fun k => k = r) w w')
    go_enter Tryz.func90, Tryz.ntmps90
    go_wp2_with (go_at_call 97; refine (hS0 _ (hA _)).mono ?_; rintro e w1 ⟨rfl, k1⟩; have K1 : Keeps (fun k => k = r) w w1 := ((Keeps.refl _ w).alloc _).trans k1)
    exact ⟨rfl, rfl, K1⟩
  | ok z0 =>
    obtain ⟨t0, R1⟩ := z0
    rw [hn0] at hS0
    have hl0 : R1.length < R.length := (rd_lt d).2.2.2.2.2 _ _ _ hm hn0
    (try dsimp only [thr, thn])
    show Calls _ _ _ _ (fun e w' => ∃ k n s p m c, e = .returned (.agg #[.int .i64 k, .int .i64 n, .string s, .slice p m c]) ∧ TC w' (fun g => w.heap.size ≤ g) 35 (t0) [.int .i64 k, .int .i64 n, .string s, .slice p m c] ∧ RdM w' r T R1 ∧ Keeps (fun k => k = r) w w')
    go_enter Tryz.func90, Tryz.ntmps90
    go_wp2_with (first | (go_at_call 97; refine (hS0 _ (hA _)).mono ?_; rintro e w1 ⟨k100, n100, s100, p100, m100, c100, rfl, u0, h1, kk1⟩; have k1 := kk1; have Z1 := k1.size; simp only [World.size_alloc] at Z1; have K1 : Keeps (fun k => k = r) w w1 := ((Keeps.refl _ w).alloc _).trans k1; have M1 := m0.keep (by show 0 < 4; decide) k1 nb; have T100 : TC w1 (fun g => w.heap.size < g) 35 t0 [.int .i64 k100, .int .i64 n100, .string s100, .slice p100 m100 c100] := u0.mono (fun g hg => (by simp only [World.size_alloc] at hg; omega)); clear hS0) | (refine wpList_store_cl rfl 35 _ _ rfl w.heap.size 0 4 _ rfl rfl rfl M1 (by show 4 ≤ 4; decide) iEx one4 ?_; intro w9 hc9 k9 zz9; clear zz9))
    have hc6 : CL w9 w.heap.size [.int .i64 k100, .int .i64 n100, .string s100, .slice p100 m100 c100] := hc9
    have hrn := run_ex hc6
    refine bodyPost_ret (v := .agg #[.int .i64 k100, .int .i64 n100, .string s100, .slice p100 m100 c100]) (by rw [results_cell1 rfl]; simp [asAddr, hrn]) rfl ?_
    exact ⟨_, _, _, _, _, _, rfl, (T100.stay (k9.stay (fun i hi _ e => by omega))).mono (fun g hg => by omega), h1.keep k9 (fun i hi e => by have := h1.low; omega) (fun e => by omega), K1.trans' k9 (fun _ _ e => e) (fun i hi e => by omega)⟩
set_option maxHeartbeats 1000000 in
set_option maxRecDepth 100000 in
theorem lst_p {d : Nat} (IH : CE d) {w : World} {r : Nat} {T R : Bs} (h : RdM w r T R) (hd : 10 * R.length + 3 ≤ d + 1) (ht : tok R = [40]) : Calls Tryz.prog 90 #[pR r] w (RetE (lst (d + 1) R) w r T) := by
  have hr := h.lt
  have hr12 : ∀ i, i < 12 → ¬ i = r := fun i hi e => by have := h.low; omega
  have nb : ¬ w.heap.size = r := by omega
  have y2 : ∀ ob, (w.alloc ob).cell? ⟨r, 2, none⟩ = some (.string (bs (tok R))) := fun ob => ((Keeps.refl (fun _ => False) w).alloc ob).cell (h.c.c 2 _ rfl) (fun e => e)
  have hA := fun ob => h.keep ((Keeps.refl (fun _ => False) w).alloc ob) (fun _ _ e => e) (fun e => e)
  have m0 := CL.made w zE 35
  rw [lst, if_neg (by rw [ht]; decide), if_neg (by rw [ht]; decide), if_neg (by rw [ht]; decide), if_pos ht]
  have e1 : ((bs (tok R)).toList == [91]) = false := by rw [bs_toList, ht]; rfl
  have e2 : ((bs (tok R)).toList == [116, 97, 107, 101]) = false := by rw [bs_toList, ht]; rfl
  have e3 : ((bs (tok R)).toList == [109, 105, 110]) = false := by rw [bs_toList, ht]; rfl
  have e4 : ((bs (tok R)).toList == [109, 97, 120]) = false := by rw [bs_toList, ht]; rfl
  have e5 : ((bs (tok R)).toList == [40]) = true := by rw [bs_toList, ht]; rfl
  generalize bs (tok R) = K at *
  cases hn0 : nxt R with
  | error E =>
    have hS0 := fun W (h : RdM W r T R) => next_no h hn0
    show Calls _ _ _ _ (fun e w' => e = panT T E ∧ Keeps (fun k => k = r) w w')
    go_enter Tryz.func90, Tryz.ntmps90
    go_wp2_with (go_at_call 32; refine (hS0 _ (hA _)).mono ?_; rintro e w1 ⟨rfl, k1⟩; have K1 : Keeps (fun k => k = r) w w1 := ((Keeps.refl _ w).alloc _).trans k1)
    exact ⟨rfl, rfl, K1⟩
  | ok R1 =>
    have hS0 := fun W (h : RdM W r T R) => next_ok h hn0
    have hl0 : R1.length < R.length := nxt_lt hn0 (by rw [ht]; decide)
    (try dsimp only [thr, thn])
    have hS1 := fun W (h : RdM W r T R1) => IH.ex W r T R1 1 h (by omega) (by first | omega | decide) (by first | omega | decide)
    cases hn1 : ex d 1 R1 with
    | error E =>
      rw [hn1] at hS1
      show Calls _ _ _ _ (fun e w' => e = panT T E ∧ Keeps (fun k => k = r) w w')
      go_enter Tryz.func90, Tryz.ntmps90
      go_wp2_with (first | (go_at_call 32; refine (hS0 _ (hA _)).mono ?_; rintro e w1 ⟨rfl, h1, k1⟩; have Z1 := k1.size; simp only [World.size_alloc] at Z1; have K1 : Keeps (fun k => k = r) w w1 := ((Keeps.refl _ w).alloc _).trans k1; have M1 := m0.keep (by show 0 < 4; decide) k1 nb; clear hS0) | (go_at_call 48; refine (hS1 _ h1).mono ?_; rintro e w2 ⟨rfl, k2⟩; have K2 : Keeps (fun k => k = r) w w2 := K1.trans k2))
      exact ⟨rfl, rfl, K2⟩
    | ok z1 =>
      obtain ⟨t1, R2⟩ := z1
      rw [hn1] at hS1
      have hl1 : R2.length < R1.length := (rd_lt d).1 _ _ _ _ (by first | omega | decide) hn1
      (try dsimp only [thr, thn])
      cases hn3 : need [41] R2 with
      | error E =>
        have hS3 := fun W (h : RdM W r T R2) => need_noC h hn3
        show Calls _ _ _ _ (fun e w' => e = panT T E ∧ Keeps (fun k => k = r) w w')
        go_enter Tryz.func90, Tryz.ntmps90
        go_wp2_with (first | (go_at_call 32; refine (hS0 _ (hA _)).mono ?_; rintro e w1 ⟨rfl, h1, k1⟩; have Z1 := k1.size; simp only [World.size_alloc] at Z1; have K1 : Keeps (fun k => k = r) w w1 := ((Keeps.refl _ w).alloc _).trans k1; have M1 := m0.keep (by show 0 < 4; decide) k1 nb; clear hS0) | (go_at_call 48; refine (hS1 _ h1).mono ?_; rintro e w2 ⟨k101, n101, s101, p101, m101, c101, rfl, u1, h2, kk2⟩; have k2 := kk2; have Z2 := k2.size; have K2 : Keeps (fun k => k = r) w w2 := K1.trans k2; have M2 := M1.keep (by show 0 < 4; decide) k2 nb; have T101 : TC w2 (fun g => w.heap.size < g) 35 t1 [.int .i64 k101, .int .i64 n101, .string s101, .slice p101 m101 c101] := u1.mono (fun g hg => (by omega)); clear hS1) | (refine wpList_store_cl rfl 35 _ _ rfl w2.heap.size 0 4 _ rfl rfl rfl (CL.made w2 zE 35) (by show 4 ≤ 4; decide) iEx one4 ?_; intro w3 hb3 k3 zz3; clear zz3; have Z3 := k3.size; simp only [World.size_alloc] at Z3; have K3 : Keeps (fun k => k = r) w w3 := (K2.alloc _).trans' k3 (fun _ _ e => e) (fun i hi e => (by omega)); have M3 := (M2.alloc (by show 0 < 4; decide) _).keep (by show 0 < 4; decide) k3 (fun e => (by omega)); have h3 := (h2.keep ((Keeps.refl (fun _ => False) w2).alloc _) (fun _ _ e => e) (fun e => e)).keep k3 (fun i hi e => (by have := h2.low; omega)) (fun e => (by omega)); have T101 := ((T101.lt.stay (alloc_stay _ _)).stay (k3.stay (fun i hi _ e => (by have := hi.2; omega)))).mono (fun g hg => hg.1)) | (go_at_call 51; refine (hS3 _ h3).mono ?_; rintro e w4 ⟨rfl, k4⟩; have K4 : Keeps (fun k => k = r) w w4 := K3.trans k4))
        exact ⟨rfl, rfl, K4⟩
      | ok R4 =>
        have hS3 := fun W (h : RdM W r T R2) => need_okC h hn3
        have hl3 : R4.length < R2.length := need_lt hn3 (by decide)
        (try dsimp only [thr, thn])
        show Calls _ _ _ _ (fun e w' => ∃ k n s p m c, e = .returned (.agg #[.int .i64 k, .int .i64 n, .string s, .slice p m c]) ∧ TC w' (fun g => w.heap.size ≤ g) 35 (t1) [.int .i64 k, .int .i64 n, .string s, .slice p m c] ∧ RdM w' r T R4 ∧ Keeps (fun k => k = r) w w')
        go_enter Tryz.func90, Tryz.ntmps90
        go_wp2_with (first | (go_at_call 32; refine (hS0 _ (hA _)).mono ?_; rintro e w1 ⟨rfl, h1, k1⟩; have Z1 := k1.size; simp only [World.size_alloc] at Z1; have K1 : Keeps (fun k => k = r) w w1 := ((Keeps.refl _ w).alloc _).trans k1; have M1 := m0.keep (by show 0 < 4; decide) k1 nb; clear hS0) | (go_at_call 48; refine (hS1 _ h1).mono ?_; rintro e w2 ⟨k101, n101, s101, p101, m101, c101, rfl, u1, h2, kk2⟩; have k2 := kk2; have Z2 := k2.size; have K2 : Keeps (fun k => k = r) w w2 := K1.trans k2; have M2 := M1.keep (by show 0 < 4; decide) k2 nb; have T101 : TC w2 (fun g => w.heap.size < g) 35 t1 [.int .i64 k101, .int .i64 n101, .string s101, .slice p101 m101 c101] := u1.mono (fun g hg => (by omega)); clear hS1) | (refine wpList_store_cl rfl 35 _ _ rfl w2.heap.size 0 4 _ rfl rfl rfl (CL.made w2 zE 35) (by show 4 ≤ 4; decide) iEx one4 ?_; intro w3 hb3 k3 zz3; clear zz3; have Z3 := k3.size; simp only [World.size_alloc] at Z3; have K3 : Keeps (fun k => k = r) w w3 := (K2.alloc _).trans' k3 (fun _ _ e => e) (fun i hi e => (by omega)); have M3 := (M2.alloc (by show 0 < 4; decide) _).keep (by show 0 < 4; decide) k3 (fun e => (by omega)); have h3 := (h2.keep ((Keeps.refl (fun _ => False) w2).alloc _) (fun _ _ e => e) (fun e => e)).keep k3 (fun i hi e => (by have := h2.low; omega)) (fun e => (by omega)); have T101 := ((T101.lt.stay (alloc_stay _ _)).stay (k3.stay (fun i hi _ e => (by have := hi.2; omega)))).mono (fun g hg => hg.1)) | (go_at_call 51; refine (hS3 _ h3).mono ?_; rintro e w4 ⟨rfl, h4, k4⟩; have Z4 := k4.size; have K4 : Keeps (fun k => k = r) w w4 := K3.trans k4; have M4 := M3.keep (by show 0 < 4; decide) k4 nb; have T101 := T101.stay (k4.stay (fun i hi _ e => (by omega))); have hb3 := hb3.keep (by show 0 < 4; decide) k4 (fun e => (by omega)); clear hS3) | (refine wpList_load_runL rfl 35 _ rfl ⟨w2.heap.size, 0, none⟩ rfl _ (run_ex hb3) ?_) | (refine wpList_store_cl rfl 35 _ _ rfl w.heap.size 0 4 _ rfl rfl rfl M4 (by show 4 ≤ 4; decide) iEx one4 ?_; intro w9 hc9 k9 zz9; clear zz9))
        have hc6 : CL w9 w.heap.size [.int .i64 k101, .int .i64 n101, .string s101, .slice p101 m101 c101] := hc9
        have hrn := run_ex hc6
        refine bodyPost_ret (v := .agg #[.int .i64 k101, .int .i64 n101, .string s101, .slice p101 m101 c101]) (by rw [results_cell1 rfl]; simp [asAddr, hrn]) rfl ?_
        exact ⟨_, _, _, _, _, _, rfl, (T101.stay (k9.stay (fun i hi _ e => by omega))).mono (fun g hg => by omega), h4.keep k9 (fun i hi e => by have := h4.low; omega) (fun e => by omega), K4.trans' k9 (fun _ _ e => e) (fun i hi e => by omega)⟩
set_option maxHeartbeats 1000000 in
set_option maxRecDepth 100000 in
theorem lst_2 {d : Nat} {w : World} {r : Nat} {T R : Bs} (h : RdM w r T R) (g1 : tok R ≠ [91]) (g2 : tok R ≠ kTake) (g3 : tok R ≠ kMin) (g4 : tok R ≠ kMax) (g5 : tok R ≠ [40]) (ht : isNm (tok R) = true) : Calls Tryz.prog 90 #[pR r] w (RetE (lst (d + 1) R) w r T) := by
  have hne := isNm_ne ht
  have hr := h.lt
  have hr12 : ∀ i, i < 12 → ¬ i = r := fun i hi e => by have := h.low; omega
  have nb : ¬ w.heap.size = r := by omega
  have y2 : ∀ ob, (w.alloc ob).cell? ⟨r, 2, none⟩ = some (.string (bs (tok R))) := fun ob => ((Keeps.refl (fun _ => False) w).alloc ob).cell (h.c.c 2 _ rfl) (fun e => e)
  have hA := fun ob => h.keep ((Keeps.refl (fun _ => False) w).alloc ob) (fun _ _ e => e) (fun e => e)
  have m0 := CL.made w zE 35
  have hTok := tok_rl h
  have hNm := fun ob => name_any (tok R) hTok (hA ob).g
  rw [lst, if_neg g1, if_neg g2, if_neg (fun e => e.elim g3 g4), if_neg g5, if_pos ht]
  rw [ht] at hNm
  clear ht
  have e1 : ((bs (tok R)).toList == [91]) = false := by rw [bs_toList]; exact beq_eq_false_iff_ne.2 g1
  have e2 : ((bs (tok R)).toList == [116, 97, 107, 101]) = false := by rw [bs_toList]; exact beq_eq_false_iff_ne.2 g2
  have e3 : ((bs (tok R)).toList == [109, 105, 110]) = false := by rw [bs_toList]; exact beq_eq_false_iff_ne.2 g3
  have e4 : ((bs (tok R)).toList == [109, 97, 120]) = false := by rw [bs_toList]; exact beq_eq_false_iff_ne.2 g4
  have e5 : ((bs (tok R)).toList == [40]) = false := by rw [bs_toList]; exact beq_eq_false_iff_ne.2 g5
  cases hn0 : nxt R with
  | error E =>
    have hS0 := fun W (h : RdM W r T R) => take_no h hn0
    show Calls _ _ _ _ (fun e w' => e = panT T E ∧ Keeps (fun k => k = r) w w')
    go_enter Tryz.func90, Tryz.ntmps90
    go_wp2_with (first | (go_at_call 52; refine (hNm _).mono ?_; rintro e w' ⟨rfl, rfl⟩) | (go_at_call 72; refine (hS0 _ (hA _)).mono ?_; rintro e w1 ⟨rfl, k1⟩; have K1 : Keeps (fun k => k = r) w w1 := ((Keeps.refl _ w).alloc _).trans k1))
    exact ⟨rfl, rfl, K1⟩
  | ok R1 =>
    have hS0 := fun W (h : RdM W r T R) => take_ok h hn0
    have hl0 : R1.length < R.length := nxt_lt hn0 hne
    (try dsimp only [thr, thn])
    show Calls _ _ _ _ (fun e w' => ∃ k n s p m c, e = .returned (.agg #[.int .i64 k, .int .i64 n, .string s, .slice p m c]) ∧ TC w' (fun g => w.heap.size ≤ g) 35 (.mk 2 0 (tok R) []) [.int .i64 k, .int .i64 n, .string s, .slice p m c] ∧ RdM w' r T R1 ∧ Keeps (fun k => k = r) w w')
    go_enter Tryz.func90, Tryz.ntmps90
    go_wp2_with (first | (go_at_call 52; refine (hNm _).mono ?_; rintro e w' ⟨rfl, rfl⟩) | (go_at_call 72; refine (hS0 _ (hA _)).mono ?_; rintro e w1 ⟨rfl, h1, k1⟩; have Z1 := k1.size; simp only [World.size_alloc] at Z1; have K1 : Keeps (fun k => k = r) w w1 := ((Keeps.refl _ w).alloc _).trans k1; have M1 := m0.keep (by show 0 < 4; decide) k1 nb; clear hS0) | (refine wpList_store_cl rfl 35 _ _ rfl w.heap.size 0 4 _ rfl rfl rfl M1 (by show 4 ≤ 4; decide) iEx one4 ?_; intro w9 hc9 k9 zz9; clear zz9))
    have hc6 : CL w9 w.heap.size [.int .i64 2, .int .i64 0, .string (bs (tok R)), .slice none 0 0] := hc9
    have hrn := run_ex hc6
    refine bodyPost_ret (v := .agg #[.int .i64 2, .int .i64 0, .string (bs (tok R)), .slice none 0 0]) (by rw [results_cell1 rfl]; simp [asAddr, hrn]) rfl ?_
    exact ⟨_, _, _, _, _, _, rfl, TC.leaf (by unfold I64; omega) (by unfold I64; omega) hTok, h1.keep k9 (fun i hi e => by have := h1.low; omega) (fun e => by omega), K1.trans' k9 (fun _ _ e => e) (fun i hi e => by omega)⟩
set_option maxHeartbeats 1000000 in
set_option maxRecDepth 100000 in
theorem lst_1 {d : Nat} {w : World} {r : Nat} {T R : Bs} (h : RdM w r T R) (g1 : tok R ≠ [91]) (g2 : tok R ≠ kTake) (g3 : tok R ≠ kMin) (g4 : tok R ≠ kMax) (g5 : tok R ≠ [40]) (ht : isNm (tok R) = false) : Calls Tryz.prog 90 #[pR r] w (RetE (lst (d + 1) R) w r T) := by
  have hr := h.lt
  have hr12 : ∀ i, i < 12 → ¬ i = r := fun i hi e => by have := h.low; omega
  have nb : ¬ w.heap.size = r := by omega
  have y2 : ∀ ob, (w.alloc ob).cell? ⟨r, 2, none⟩ = some (.string (bs (tok R))) := fun ob => ((Keeps.refl (fun _ => False) w).alloc ob).cell (h.c.c 2 _ rfl) (fun e => e)
  have hA := fun ob => h.keep ((Keeps.refl (fun _ => False) w).alloc ob) (fun _ _ e => e) (fun e => e)
  have m0 := CL.made w zE 35
  have hTok := tok_rl h
  have hNm := fun ob => name_any (tok R) hTok (hA ob).g
  rw [lst, if_neg g1, if_neg g2, if_neg (fun e => e.elim g3 g4), if_neg g5, if_neg (by rw [ht]; decide)]
  rw [ht] at hNm
  clear ht
  have e1 : ((bs (tok R)).toList == [91]) = false := by rw [bs_toList]; exact beq_eq_false_iff_ne.2 g1
  have e2 : ((bs (tok R)).toList == [116, 97, 107, 101]) = false := by rw [bs_toList]; exact beq_eq_false_iff_ne.2 g2
  have e3 : ((bs (tok R)).toList == [109, 105, 110]) = false := by rw [bs_toList]; exact beq_eq_false_iff_ne.2 g3
  have e4 : ((bs (tok R)).toList == [109, 97, 120]) = false := by rw [bs_toList]; exact beq_eq_false_iff_ne.2 g4
  have e5 : ((bs (tok R)).toList == [40]) = false := by rw [bs_toList]; exact beq_eq_false_iff_ne.2 g5
  have hS0 := fun W (h : RdM W r T R) => num_w h
  cases hn0 : num R with
  | error E =>
    rw [hn0] at hS0
    show Calls _ _ _ _ (fun e w' => e = panT T E ∧ Keeps (fun k => k = r) w w')
    go_enter Tryz.func90, Tryz.ntmps90
    go_wp2_with (first | (go_at_call 52; refine (hNm _).mono ?_; rintro e w' ⟨rfl, rfl⟩) | (go_at_call 98; refine (hS0 _ (hA _)).mono ?_; rintro e w1 ⟨rfl, k1⟩))
    exact ⟨rfl, rfl, ((Keeps.refl _ w).alloc _).trans k1⟩
  | ok z0 =>
    obtain ⟨t0, R1⟩ := z0
    rw [hn0] at hS0
    show Calls _ _ _ _ (fun e w' => ∃ k n s p m c, e = .returned (.agg #[.int .i64 k, .int .i64 n, .string s, .slice p m c]) ∧ TC w' (fun g => w.heap.size ≤ g) 35 t0 [.int .i64 k, .int .i64 n, .string s, .slice p m c] ∧ RdM w' r T R1 ∧ Keeps (fun k => k = r) w w')
    go_enter Tryz.func90, Tryz.ntmps90
    go_wp2_with (first | (go_at_call 52; refine (hNm _).mono ?_; rintro e w' ⟨rfl, rfl⟩) | (go_at_call 98; refine (hS0 _ (hA _)).mono ?_; rintro e w1 ⟨k100, n100, s100, p100, m100, c100, rfl, u0, h1, k1⟩; have z1 := k1.size; simp only [World.size_alloc] at z1; have M1 := m0.keep (by show 0 < 4; decide) k1 nb) | (refine wpList_store_cl rfl 35 _ _ rfl w.heap.size 0 4 _ rfl rfl rfl M1 (by show 4 ≤ 4; decide) iEx one4 ?_; intro w9 hc9 k9 zz9; clear zz9))
    have T100 : TC w1 (fun g => w.heap.size < g) 35 t0 [.int .i64 k100, .int .i64 n100, .string s100, .slice p100 m100 c100] := u0.mono (fun g hg => (by simp only [World.size_alloc] at hg; omega))
    have K1 : Keeps (fun k => k = r) w w1 := ((Keeps.refl _ w).alloc _).trans k1
    have hc6 : CL w9 w.heap.size [.int .i64 k100, .int .i64 n100, .string s100, .slice p100 m100 c100] := hc9
    have hrn := run_ex hc6
    refine bodyPost_ret (v := .agg #[.int .i64 k100, .int .i64 n100, .string s100, .slice p100 m100 c100]) (by rw [results_cell1 rfl]; simp [asAddr, hrn]) rfl ?_
    exact ⟨_, _, _, _, _, _, rfl, (T100.stay (k9.stay (fun i hi _ e => by omega))).mono (fun g hg => by omega), h1.keep k9 (fun i hi e => by have := h1.low; omega) (fun e => by omega), K1.trans' k9 (fun _ _ e => e) (fun i hi e => by omega)⟩
end Go.Proofs.YtehblpbefkopbaaGreatDoor
