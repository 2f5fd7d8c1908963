import Derived.Test.YtehblpbefkopbaaGreatDoorXaJ
namespace Go.Proofs.YtehblpbefkopbaaGreatDoor
open Go.RowKit Go.ChangeShapes Go.WideShapes Go.ChangeAt Go.Deep
attribute [local go_sem] Oper.semAt_some run_store_nf run_store_f
set_option maxHeartbeats 1000000 in
set_option maxRecDepth 100000 in
theorem obj_w {d : Nat} (IH : CE d) {w : World} {r : Nat} {T R : Bs} (h : RdM w r T R) (hd : 10 * R.length + 2 ≤ d + 1) : Calls Tryz.prog 73 #[pR r] w (RetE (obj (d + 1) R) w r T) := by
  have hr := h.lt
  have hr12 : ∀ i, i < 12 → ¬ i = r := fun i hi e => by have := h.low; omega
  have nb : ¬ w.heap.size = r := by omega
  have y2 : ∀ ob, (w.alloc ob).cell? ⟨r, 2, none⟩ = some (.string (bs (tok R))) := fun ob => ((Keeps.refl (fun _ => False) w).alloc ob).cell (h.c.c 2 _ rfl) (fun e => e)
  have hA := fun ob => h.keep ((Keeps.refl (fun _ => False) w).alloc ob) (fun _ _ e => e) (fun e => e)
  have m0 := CL.made w zE 35
  rw [obj]
  cases hn0 : need [91] R with
  | error E =>
    have hS0 := fun W (h : RdM W r T R) => need_noC h hn0
    show Calls _ _ _ _ (fun e w' => e = panT T E ∧ Keeps (fun k => k = r) w w')
    go_enter Tryz.func73, Tryz.ntmps73
    go_wp2_with (go_at_call 51; refine (hS0 _ (hA _)).mono ?_; rintro e w1 ⟨rfl, k1⟩; have K1 : Keeps (fun k => k = r) w w1 := ((Keeps.refl _ w).alloc _).trans k1)
    exact ⟨rfl, rfl, K1⟩
  | ok R1 =>
    have hS0 := fun W (h : RdM W r T R) => need_okC h hn0
    have hl0 : R1.length < R.length := need_lt hn0 (by decide)
    (try dsimp only [thr, thn])
    have hS1 := fun W (h : RdM W r T R1) => IH.ex W r T R1 1 h (by omega) (by first | omega | decide) (by first | omega | decide)
    cases hn1 : ex d 1 R1 with
    | error E =>
      rw [hn1] at hS1
      show Calls _ _ _ _ (fun e w' => e = panT T E ∧ Keeps (fun k => k = r) w w')
      go_enter Tryz.func73, Tryz.ntmps73
      go_wp2_with (first | (go_at_call 51; refine (hS0 _ (hA _)).mono ?_; rintro e w1 ⟨rfl, h1, k1⟩; have Z1 := k1.size; simp only [World.size_alloc] at Z1; have K1 : Keeps (fun k => k = r) w w1 := ((Keeps.refl _ w).alloc _).trans k1; have M1 := m0.keep (by show 0 < 4; decide) k1 nb; clear hS0) | (go_at_call 48; refine (hS1 _ h1).mono ?_; rintro e w2 ⟨rfl, k2⟩; have K2 : Keeps (fun k => k = r) w w2 := K1.trans k2))
      exact ⟨rfl, rfl, K2⟩
    | ok z1 =>
      obtain ⟨t1, R2⟩ := z1
      rw [hn1] at hS1
      have hl1 : R2.length < R1.length := (rd_lt d).1 _ _ _ _ (by first | omega | decide) hn1
      (try dsimp only [thr, thn])
      cases hn3 : need [93] R2 with
      | error E =>
        have hS3 := fun W (h : RdM W r T R2) => need_noC h hn3
        show Calls _ _ _ _ (fun e w' => e = panT T E ∧ Keeps (fun k => k = r) w w')
        go_enter Tryz.func73, Tryz.ntmps73
        go_wp2_with (first | (go_at_call 51; refine (hS0 _ (hA _)).mono ?_; rintro e w1 ⟨rfl, h1, k1⟩; have Z1 := k1.size; simp only [World.size_alloc] at Z1; have K1 : Keeps (fun k => k = r) w w1 := ((Keeps.refl _ w).alloc _).trans k1; have M1 := m0.keep (by show 0 < 4; decide) k1 nb; clear hS0) | (go_at_call 48; refine (hS1 _ h1).mono ?_; rintro e w2 ⟨k101, n101, s101, p101, m101, c101, rfl, u1, h2, kk2⟩; have k2 := kk2; have Z2 := k2.size; have K2 : Keeps (fun k => k = r) w w2 := K1.trans k2; have M2 := M1.keep (by show 0 < 4; decide) k2 nb; have T101 : TC w2 (fun g => w.heap.size < g) 35 t1 [.int .i64 k101, .int .i64 n101, .string s101, .slice p101 m101 c101] := u1.mono (fun g hg => (by omega)); clear hS1) | (refine wpList_store_cl rfl 35 _ _ rfl w2.heap.size 0 4 _ rfl rfl rfl (CL.made w2 zE 35) (by show 4 ≤ 4; decide) iEx one4 ?_; intro w3 hb3 k3 zz3; clear zz3; have Z3 := k3.size; simp only [World.size_alloc] at Z3; have K3 : Keeps (fun k => k = r) w w3 := (K2.alloc _).trans' k3 (fun _ _ e => e) (fun i hi e => (by omega)); have M3 := (M2.alloc (by show 0 < 4; decide) _).keep (by show 0 < 4; decide) k3 (fun e => (by omega)); have h3 := (h2.keep ((Keeps.refl (fun _ => False) w2).alloc _) (fun _ _ e => e) (fun e => e)).keep k3 (fun i hi e => (by have := h2.low; omega)) (fun e => (by omega)); have T101 := ((T101.lt.stay (alloc_stay _ _)).stay (k3.stay (fun i hi _ e => (by have := hi.2; omega)))).mono (fun g hg => hg.1)) | (go_at_call 51; refine (hS3 _ h3).mono ?_; rintro e w4 ⟨rfl, k4⟩; have K4 : Keeps (fun k => k = r) w w4 := K3.trans k4))
        exact ⟨rfl, rfl, K4⟩
      | ok R4 =>
        have hS3 := fun W (h : RdM W r T R2) => need_okC h hn3
        have hl3 : R4.length < R2.length := need_lt hn3 (by decide)
        (try dsimp only [thr, thn])
        show Calls _ _ _ _ (fun e w' => ∃ k n s p m c, e = .returned (.agg #[.int .i64 k, .int .i64 n, .string s, .slice p m c]) ∧ TC w' (fun g => w.heap.size ≤ g) 35 (t1) [.int .i64 k, .int .i64 n, .string s, .slice p m c] ∧ RdM w' r T R4 ∧ Keeps (fun k => k = r) w w')
        go_enter Tryz.func73, Tryz.ntmps73
        go_wp2_with (first | (go_at_call 51; refine (hS0 _ (hA _)).mono ?_; rintro e w1 ⟨rfl, h1, k1⟩; have Z1 := k1.size; simp only [World.size_alloc] at Z1; have K1 : Keeps (fun k => k = r) w w1 := ((Keeps.refl _ w).alloc _).trans k1; have M1 := m0.keep (by show 0 < 4; decide) k1 nb; clear hS0) | (go_at_call 48; refine (hS1 _ h1).mono ?_; rintro e w2 ⟨k101, n101, s101, p101, m101, c101, rfl, u1, h2, kk2⟩; have k2 := kk2; have Z2 := k2.size; have K2 : Keeps (fun k => k = r) w w2 := K1.trans k2; have M2 := M1.keep (by show 0 < 4; decide) k2 nb; have T101 : TC w2 (fun g => w.heap.size < g) 35 t1 [.int .i64 k101, .int .i64 n101, .string s101, .slice p101 m101 c101] := u1.mono (fun g hg => (by omega)); clear hS1) | (refine wpList_store_cl rfl 35 _ _ rfl w2.heap.size 0 4 _ rfl rfl rfl (CL.made w2 zE 35) (by show 4 ≤ 4; decide) iEx one4 ?_; intro w3 hb3 k3 zz3; clear zz3; have Z3 := k3.size; simp only [World.size_alloc] at Z3; have K3 : Keeps (fun k => k = r) w w3 := (K2.alloc _).trans' k3 (fun _ _ e => e) (fun i hi e => (by omega)); have M3 := (M2.alloc (by show 0 < 4; decide) _).keep (by show 0 < 4; decide) k3 (fun e => (by omega)); have h3 := (h2.keep ((Keeps.refl (fun _ => False) w2).alloc _) (fun _ _ e => e) (fun e => e)).keep k3 (fun i hi e => (by have := h2.low; omega)) (fun e => (by omega)); have T101 := ((T101.lt.stay (alloc_stay _ _)).stay (k3.stay (fun i hi _ e => (by have := hi.2; omega)))).mono (fun g hg => hg.1)) | (go_at_call 51; refine (hS3 _ h3).mono ?_; rintro e w4 ⟨rfl, h4, k4⟩; have Z4 := k4.size; have K4 : Keeps (fun k => k = r) w w4 := K3.trans k4; have M4 := M3.keep (by show 0 < 4; decide) k4 nb; have T101 := T101.stay (k4.stay (fun i hi _ e => (by omega))); have hb3 := hb3.keep (by show 0 < 4; decide) k4 (fun e => (by omega)); clear hS3) | (refine wpList_load_runL rfl 35 _ rfl ⟨w2.heap.size, 0, none⟩ rfl _ (run_ex hb3) ?_) | (refine wpList_store_cl rfl 35 _ _ rfl w.heap.size 0 4 _ rfl rfl rfl M4 (by show 4 ≤ 4; decide) iEx one4 ?_; intro w9 hc9 k9 zz9; clear zz9))
        have hc6 : CL w9 w.heap.size [.int .i64 k101, .int .i64 n101, .string s101, .slice p101 m101 c101] := hc9
        have hrn := run_ex hc6
        refine bodyPost_ret (v := .agg #[.int .i64 k101, .int .i64 n101, .string s101, .slice p101 m101 c101]) (by rw [results_cell1 rfl]; simp [asAddr, hrn]) rfl ?_
        exact ⟨_, _, _, _, _, _, rfl, (T101.stay (k9.stay (fun i hi _ e => by omega))).mono (fun g hg => by omega), h4.keep k9 (fun i hi e => by have := h4.low; omega) (fun e => by omega), K4.trans' k9 (fun _ _ e => e) (fun i hi e => by omega)⟩
set_option maxHeartbeats 1000000 in
set_option maxRecDepth 100000 in
theorem pr_w {d : Nat} (IH : CE d) {w : World} {r : Nat} {T R : Bs} (h : RdM w r T R) (hm : tok R = kMin ∨ tok R = kMax) (hd : 10 * R.length + 2 ≤ d + 1) : Calls Tryz.prog 97 #[pR r] w (RetE (pr (d + 1) R) w r T) := by
  have hTok := tok_rl h
  have hne : tok R ≠ [] := by rcases hm with e | e <;> rw [e] <;> decide
  have hr := h.lt
  have hr12 : ∀ i, i < 12 → ¬ i = r := fun i hi e => by have := h.low; omega
  have nb : ¬ w.heap.size = r := by omega
  have y2 : ∀ ob, (w.alloc ob).cell? ⟨r, 2, none⟩ = some (.string (bs (tok R))) := fun ob => ((Keeps.refl (fun _ => False) w).alloc ob).cell (h.c.c 2 _ rfl) (fun e => e)
  have hA := fun ob => h.keep ((Keeps.refl (fun _ => False) w).alloc ob) (fun _ _ e => e) (fun e => e)
  have m0 := CL.made w zE 35
  rw [pr]
  cases hn0 : nxt R with
  | error E =>
    have hS0 := fun W (h : RdM W r T R) => take_no h hn0
    show Calls _ _ _ _ (fun e w' => e = panT T E ∧ Keeps (fun k => k = r) w w')
    go_enter Tryz.func97, Tryz.ntmps97
    go_wp2_with (go_at_call 72; refine (hS0 _ (hA _)).mono ?_; rintro e w1 ⟨rfl, k1⟩; have K1 : Keeps (fun k => k = r) w w1 := ((Keeps.refl _ w).alloc _).trans k1)
    exact ⟨rfl, rfl, K1⟩
  | ok R1 =>
    have hS0 := fun W (h : RdM W r T R) => take_ok h hn0
    have hl0 : R1.length < R.length := nxt_lt hn0 hne
    (try dsimp only [thr, thn])
    cases hn1 : need [40] R1 with
    | error E =>
      have hS1 := fun W (h : RdM W r T R1) => need_noC h hn1
      show Calls _ _ _ _ (fun e w' => e = panT T E ∧ Keeps (fun k => k = r) w w')
      go_enter Tryz.func97, Tryz.ntmps97
      go_wp2_with (first | (go_at_call 72; refine (hS0 _ (hA _)).mono ?_; rintro e w1 ⟨rfl, h1, k1⟩; have Z1 := k1.size; simp only [World.size_alloc] at Z1; have K1 : Keeps (fun k => k = r) w w1 := ((Keeps.refl _ w).alloc _).trans k1; have M1 := m0.keep (by show 0 < 4; decide) k1 nb; clear hS0) | (go_at_call 51; refine (hS1 _ h1).mono ?_; rintro e w2 ⟨rfl, k2⟩; have K2 : Keeps (fun k => k = r) w w2 := K1.trans k2))
      exact ⟨rfl, rfl, K2⟩
    | ok R2 =>
      have hS1 := fun W (h : RdM W r T R1) => need_okC h hn1
      have hl1 : R2.length < R1.length := need_lt hn1 (by decide)
      (try dsimp only [thr, thn])
      have hS2 := fun W (h : RdM W r T R2) => IH.ex W r T R2 1 h (by omega) (by first | omega | decide) (by first | omega | decide)
      cases hn2 : ex d 1 R2 with
      | error E =>
        rw [hn2] at hS2
        show Calls _ _ _ _ (fun e w' => e = panT T E ∧ Keeps (fun k => k = r) w w')
        go_enter Tryz.func97, Tryz.ntmps97
        go_wp2_with (first | (go_at_call 72; refine (hS0 _ (hA _)).mono ?_; rintro e w1 ⟨rfl, h1, k1⟩; have Z1 := k1.size; simp only [World.size_alloc] at Z1; have K1 : Keeps (fun k => k = r) w w1 := ((Keeps.refl _ w).alloc _).trans k1; have M1 := m0.keep (by show 0 < 4; decide) k1 nb; clear hS0) | (go_at_call 51; refine (hS1 _ h1).mono ?_; rintro e w2 ⟨rfl, h2, k2⟩; have Z2 := k2.size; have K2 : Keeps (fun k => k = r) w w2 := K1.trans k2; have M2 := M1.keep (by show 0 < 4; decide) k2 nb; clear hS1) | (go_at_call 48; refine (hS2 _ h2).mono ?_; rintro e w3 ⟨rfl, k3⟩; have K3 : Keeps (fun k => k = r) w w3 := K2.trans k3))
        exact ⟨rfl, rfl, K3⟩
      | ok z2 =>
        obtain ⟨t2, R3⟩ := z2
        rw [hn2] at hS2
        have hl2 : R3.length < R2.length := (rd_lt d).1 _ _ _ _ (by first | omega | decide) hn2
        (try dsimp only [thr, thn])
        cases hn4 : need [44] R3 with
        | error E =>
          have hS4 := fun W (h : RdM W r T R3) => need_noC h hn4
          show Calls _ _ _ _ (fun e w' => e = panT T E ∧ Keeps (fun k => k = r) w w')
          go_enter Tryz.func97, Tryz.ntmps97
          go_wp2_with (first | (go_at_call 72; refine (hS0 _ (hA _)).mono ?_; rintro e w1 ⟨rfl, h1, k1⟩; have Z1 := k1.size; simp only [World.size_alloc] at Z1; have K1 : Keeps (fun k => k = r) w w1 := ((Keeps.refl _ w).alloc _).trans k1; have M1 := m0.keep (by show 0 < 4; decide) k1 nb; clear hS0) | (go_at_call 51; refine (hS1 _ h1).mono ?_; rintro e w2 ⟨rfl, h2, k2⟩; have Z2 := k2.size; have K2 : Keeps (fun k => k = r) w w2 := K1.trans k2; have M2 := M1.keep (by show 0 < 4; decide) k2 nb; clear hS1) | (go_at_call 48; refine (hS2 _ h2).mono ?_; rintro e w3 ⟨k102, n102, s102, p102, m102, c102, rfl, u2, h3, kk3⟩; have k3 := kk3; have Z3 := k3.size; have K3 : Keeps (fun k => k = r) w w3 := K2.trans k3; have M3 := M2.keep (by show 0 < 4; decide) k3 nb; have T102 : TC w3 (fun g => w.heap.size < g) 35 t2 [.int .i64 k102, .int .i64 n102, .string s102, .slice p102 m102 c102] := u2.mono (fun g hg => (by omega)); clear hS2) | (refine wpList_store_cl rfl 35 _ _ rfl w3.heap.size 0 4 _ rfl rfl rfl (CL.made w3 zE 35) (by show 4 ≤ 4; decide) iEx one4 ?_; intro w4 hb4 k4 zz4; clear zz4; have Z4 := k4.size; simp only [World.size_alloc] at Z4; have K4 : Keeps (fun k => k = r) w w4 := (K3.alloc _).trans' k4 (fun _ _ e => e) (fun i hi e => (by omega)); have M4 := (M3.alloc (by show 0 < 4; decide) _).keep (by show 0 < 4; decide) k4 (fun e => (by omega)); have h4 := (h3.keep ((Keeps.refl (fun _ => False) w3).alloc _) (fun _ _ e => e) (fun e => e)).keep k4 (fun i hi e => (by have := h3.low; omega)) (fun e => (by omega)); have T102 := ((T102.lt.stay (alloc_stay _ _)).stay (k4.stay (fun i hi _ e => (by have := hi.2; omega)))).mono (fun g hg => hg.1)) | (go_at_call 51; refine (hS4 _ h4).mono ?_; rintro e w5 ⟨rfl, k5⟩; have K5 : Keeps (fun k => k = r) w w5 := K4.trans k5))
          exact ⟨rfl, rfl, K5⟩
        | ok R5 =>
          have hS4 := fun W (h : RdM W r T R3) => need_okC h hn4
          have hl4 : R5.length < R3.length := need_lt hn4 (by decide)
          (try dsimp only [thr, thn])
          have hS5 := fun W (h : RdM W r T R5) => IH.ex W r T R5 1 h (by omega) (by first | omega | decide) (by first | omega | decide)
          cases hn5 : ex d 1 R5 with
          | error E =>
            rw [hn5] at hS5
            show Calls _ _ _ _ (fun e w' => e = panT T E ∧ Keeps (fun k => k = r) w w')
            go_enter Tryz.func97, Tryz.ntmps97
            go_wp2_with (first | (go_at_call 72; refine (hS0 _ (hA _)).mono ?_; rintro e w1 ⟨rfl, h1, k1⟩; have Z1 := k1.size; simp only [World.size_alloc] at Z1; have K1 : Keeps (fun k => k = r) w w1 := ((Keeps.refl _ w).alloc _).trans k1; have M1 := m0.keep (by show 0 < 4; decide) k1 nb; clear hS0) | (go_at_call 51; refine (hS1 _ h1).mono ?_; rintro e w2 ⟨rfl, h2, k2⟩; have Z2 := k2.size; have K2 : Keeps (fun k => k = r) w w2 := K1.trans k2; have M2 := M1.keep (by show 0 < 4; decide) k2 nb; clear hS1) | (go_at_call 48; refine (hS2 _ h2).mono ?_; rintro e w3 ⟨k102, n102, s102, p102, m102, c102, rfl, u2, h3, kk3⟩; have k3 := kk3; have Z3 := k3.size; have K3 : Keeps (fun k => k = r) w w3 := K2.trans k3; have M3 := M2.keep (by show 0 < 4; decide) k3 nb; have T102 : TC w3 (fun g => w.heap.size < g) 35 t2 [.int .i64 k102, .int .i64 n102, .string s102, .slice p102 m102 c102] := u2.mono (fun g hg => (by omega)); clear hS2) | (refine wpList_store_cl rfl 35 _ _ rfl w3.heap.size 0 4 _ rfl rfl rfl (CL.made w3 zE 35) (by show 4 ≤ 4; decide) iEx one4 ?_; intro w4 hb4 k4 zz4; clear zz4; have Z4 := k4.size; simp only [World.size_alloc] at Z4; have K4 : Keeps (fun k => k = r) w w4 := (K3.alloc _).trans' k4 (fun _ _ e => e) (fun i hi e => (by omega)); have M4 := (M3.alloc (by show 0 < 4; decide) _).keep (by show 0 < 4; decide) k4 (fun e => (by omega)); have h4 := (h3.keep ((Keeps.refl (fun _ => False) w3).alloc _) (fun _ _ e => e) (fun e => e)).keep k4 (fun i hi e => (by have := h3.low; omega)) (fun e => (by omega)); have T102 := ((T102.lt.stay (alloc_stay _ _)).stay (k4.stay (fun i hi _ e => (by have := hi.2; omega)))).mono (fun g hg => hg.1)) | (go_at_call 51; refine (hS4 _ h4).mono ?_; rintro e w5 ⟨rfl, h5, k5⟩; have Z5 := k5.size; have K5 : Keeps (fun k => k = r) w w5 := K4.trans k5; have M5 := M4.keep (by show 0 < 4; decide) k5 nb; have T102 := T102.stay (k5.stay (fun i hi _ e => (by omega))); have hb4 := hb4.keep (by show 0 < 4; decide) k5 (fun e => (by omega)); clear hS4) | (go_at_call 48; refine (hS5 _ h5).mono ?_; rintro e w6 ⟨rfl, k6⟩; have K6 : Keeps (fun k => k = r) w w6 := K5.trans k6))
            exact ⟨rfl, rfl, K6⟩
          | ok z5 =>
            obtain ⟨t5, R6⟩ := z5
            rw [hn5] at hS5
            have hl5 : R6.length < R5.length := (rd_lt d).1 _ _ _ _ (by first | omega | decide) hn5
            (try dsimp only [thr, thn])
            cases hn7 : need [41] R6 with
            | error E =>
              have hS7 := fun W (h : RdM W r T R6) => need_noC h hn7
              show Calls _ _ _ _ (fun e w' => e = panT T E ∧ Keeps (fun k => k = r) w w')
              go_enter Tryz.func97, Tryz.ntmps97
              go_wp2_with (first | (go_at_call 72; refine (hS0 _ (hA _)).mono ?_; rintro e w1 ⟨rfl, h1, k1⟩; have Z1 := k1.size; simp only [World.size_alloc] at Z1; have K1 : Keeps (fun k => k = r) w w1 := ((Keeps.refl _ w).alloc _).trans k1; have M1 := m0.keep (by show 0 < 4; decide) k1 nb; clear hS0) | (go_at_call 51; refine (hS1 _ h1).mono ?_; rintro e w2 ⟨rfl, h2, k2⟩; have Z2 := k2.size; have K2 : Keeps (fun k => k = r) w w2 := K1.trans k2; have M2 := M1.keep (by show 0 < 4; decide) k2 nb; clear hS1) | (go_at_call 48; refine (hS2 _ h2).mono ?_; rintro e w3 ⟨k102, n102, s102, p102, m102, c102, rfl, u2, h3, kk3⟩; have k3 := kk3; have Z3 := k3.size; have K3 : Keeps (fun k => k = r) w w3 := K2.trans k3; have M3 := M2.keep (by show 0 < 4; decide) k3 nb; have T102 : TC w3 (fun g => w.heap.size < g) 35 t2 [.int .i64 k102, .int .i64 n102, .string s102, .slice p102 m102 c102] := u2.mono (fun g hg => (by omega)); clear hS2) | (refine wpList_store_cl rfl 35 _ _ rfl w3.heap.size 0 4 _ rfl rfl rfl (CL.made w3 zE 35) (by show 4 ≤ 4; decide) iEx one4 ?_; intro w4 hb4 k4 zz4; clear zz4; have Z4 := k4.size; simp only [World.size_alloc] at Z4; have K4 : Keeps (fun k => k = r) w w4 := (K3.alloc _).trans' k4 (fun _ _ e => e) (fun i hi e => (by omega)); have M4 := (M3.alloc (by show 0 < 4; decide) _).keep (by show 0 < 4; decide) k4 (fun e => (by omega)); have h4 := (h3.keep ((Keeps.refl (fun _ => False) w3).alloc _) (fun _ _ e => e) (fun e => e)).keep k4 (fun i hi e => (by have := h3.low; omega)) (fun e => (by omega)); have T102 := ((T102.lt.stay (alloc_stay _ _)).stay (k4.stay (fun i hi _ e => (by have := hi.2; omega)))).mono (fun g hg => hg.1)) | (go_at_call 51; refine (hS4 _ h4).mono ?_; rintro e w5 ⟨rfl, h5, k5⟩; have Z5 := k5.size; have K5 : Keeps (fun k => k = r) w w5 := K4.trans k5; have M5 := M4.keep (by show 0 < 4; decide) k5 nb; have T102 := T102.stay (k5.stay (fun i hi _ e => (by omega))); have hb4 := hb4.keep (by show 0 < 4; decide) k5 (fun e => (by omega)); clear hS4) | (go_at_call 48; refine (hS5 _ h5).mono ?_; rintro e w6 ⟨k105, n105, s105, p105, m105, c105, rfl, u5, h6, kk6⟩; have k6 := kk6; have Z6 := k6.size; have K6 : Keeps (fun k => k = r) w w6 := K5.trans k6; have M6 := M5.keep (by show 0 < 4; decide) k6 nb; have T102 := T102.stay (k6.stay (fun i hi _ e => (by omega))); have hb4 := hb4.keep (by show 0 < 4; decide) k6 (fun e => (by omega)); have T105 : TC w6 (fun g => w.heap.size < g) 35 t5 [.int .i64 k105, .int .i64 n105, .string s105, .slice p105 m105 c105] := u5.mono (fun g hg => (by omega)); clear hS5) | (refine wpList_store_cl rfl 35 _ _ rfl w6.heap.size 0 4 _ rfl rfl rfl (CL.made w6 zE 35) (by show 4 ≤ 4; decide) iEx one4 ?_; intro w7 hb7 k7 zz7; clear zz7; have Z7 := k7.size; simp only [World.size_alloc] at Z7; have K7 : Keeps (fun k => k = r) w w7 := (K6.alloc _).trans' k7 (fun _ _ e => e) (fun i hi e => (by omega)); have M7 := (M6.alloc (by show 0 < 4; decide) _).keep (by show 0 < 4; decide) k7 (fun e => (by omega)); have h7 := (h6.keep ((Keeps.refl (fun _ => False) w6).alloc _) (fun _ _ e => e) (fun e => e)).keep k7 (fun i hi e => (by have := h6.low; omega)) (fun e => (by omega)); have T102 := ((T102.lt.stay (alloc_stay _ _)).stay (k7.stay (fun i hi _ e => (by have := hi.2; omega)))).mono (fun g hg => hg.1); have T105 := ((T105.lt.stay (alloc_stay _ _)).stay (k7.stay (fun i hi _ e => (by have := hi.2; omega)))).mono (fun g hg => hg.1); have hb4 := (hb4.alloc (by show 0 < 4; decide) _).keep (by show 0 < 4; decide) k7 (fun e => (by omega))) | (go_at_call 51; refine (hS7 _ h7).mono ?_; rintro e w8 ⟨rfl, k8⟩; have K8 : Keeps (fun k => k = r) w w8 := K7.trans k8))
              exact ⟨rfl, rfl, K8⟩
            | ok R8 =>
              have hS7 := fun W (h : RdM W r T R6) => need_okC h hn7
              have hl7 : R8.length < R6.length := need_lt hn7 (by decide)
              (try dsimp only [thr, thn])
              show Calls _ _ _ _ (fun e w' => ∃ k n s p m c, e = .returned (.agg #[.int .i64 k, .int .i64 n, .string s, .slice p m c]) ∧ TC w' (fun g => w.heap.size ≤ g) 35 (.mk 7 0 (tok R) [t2, t5]) [.int .i64 k, .int .i64 n, .string s, .slice p m c] ∧ RdM w' r T R8 ∧ Keeps (fun k => k = r) w w')
              go_enter Tryz.func97, Tryz.ntmps97
              go_wp2_with (first | (go_at_call 72; refine (hS0 _ (hA _)).mono ?_; rintro e w1 ⟨rfl, h1, k1⟩; have Z1 := k1.size; simp only [World.size_alloc] at Z1; have K1 : Keeps (fun k => k = r) w w1 := ((Keeps.refl _ w).alloc _).trans k1; have M1 := m0.keep (by show 0 < 4; decide) k1 nb; clear hS0) | (go_at_call 51; refine (hS1 _ h1).mono ?_; rintro e w2 ⟨rfl, h2, k2⟩; have Z2 := k2.size; have K2 : Keeps (fun k => k = r) w w2 := K1.trans k2; have M2 := M1.keep (by show 0 < 4; decide) k2 nb; clear hS1) | (go_at_call 48; refine (hS2 _ h2).mono ?_; rintro e w3 ⟨k102, n102, s102, p102, m102, c102, rfl, u2, h3, kk3⟩; have k3 := kk3; have Z3 := k3.size; have K3 : Keeps (fun k => k = r) w w3 := K2.trans k3; have M3 := M2.keep (by show 0 < 4; decide) k3 nb; have T102 : TC w3 (fun g => w.heap.size < g) 35 t2 [.int .i64 k102, .int .i64 n102, .string s102, .slice p102 m102 c102] := u2.mono (fun g hg => (by omega)); clear hS2) | (refine wpList_store_cl rfl 35 _ _ rfl w3.heap.size 0 4 _ rfl rfl rfl (CL.made w3 zE 35) (by show 4 ≤ 4; decide) iEx one4 ?_; intro w4 hb4 k4 zz4; clear zz4; have Z4 := k4.size; simp only [World.size_alloc] at Z4; have K4 : Keeps (fun k => k = r) w w4 := (K3.alloc _).trans' k4 (fun _ _ e => e) (fun i hi e => (by omega)); have M4 := (M3.alloc (by show 0 < 4; decide) _).keep (by show 0 < 4; decide) k4 (fun e => (by omega)); have h4 := (h3.keep ((Keeps.refl (fun _ => False) w3).alloc _) (fun _ _ e => e) (fun e => e)).keep k4 (fun i hi e => (by have := h3.low; omega)) (fun e => (by omega)); have T102 := ((T102.lt.stay (alloc_stay _ _)).stay (k4.stay (fun i hi _ e => (by have := hi.2; omega)))).mono (fun g hg => hg.1)) | (go_at_call 51; refine (hS4 _ h4).mono ?_; rintro e w5 ⟨rfl, h5, k5⟩; have Z5 := k5.size; have K5 : Keeps (fun k => k = r) w w5 := K4.trans k5; have M5 := M4.keep (by show 0 < 4; decide) k5 nb; have T102 := T102.stay (k5.stay (fun i hi _ e => (by omega))); have hb4 := hb4.keep (by show 0 < 4; decide) k5 (fun e => (by omega)); clear hS4) | (go_at_call 48; refine (hS5 _ h5).mono ?_; rintro e w6 ⟨k105, n105, s105, p105, m105, c105, rfl, u5, h6, kk6⟩; have k6 := kk6; have Z6 := k6.size; have K6 : Keeps (fun k => k = r) w w6 := K5.trans k6; have M6 := M5.keep (by show 0 < 4; decide) k6 nb; have T102 := T102.stay (k6.stay (fun i hi _ e => (by omega))); have hb4 := hb4.keep (by show 0 < 4; decide) k6 (fun e => (by omega)); have T105 : TC w6 (fun g => w.heap.size < g) 35 t5 [.int .i64 k105, .int .i64 n105, .string s105, .slice p105 m105 c105] := u5.mono (fun g hg => (by omega)); clear hS5) | (refine wpList_store_cl rfl 35 _ _ rfl w6.heap.size 0 4 _ rfl rfl rfl (CL.made w6 zE 35) (by show 4 ≤ 4; decide) iEx one4 ?_; intro w7 hb7 k7 zz7; clear zz7; have Z7 := k7.size; simp only [World.size_alloc] at Z7; have K7 : Keeps (fun k => k = r) w w7 := (K6.alloc _).trans' k7 (fun _ _ e => e) (fun i hi e => (by omega)); have M7 := (M6.alloc (by show 0 < 4; decide) _).keep (by show 0 < 4; decide) k7 (fun e => (by omega)); have h7 := (h6.keep ((Keeps.refl (fun _ => False) w6).alloc _) (fun _ _ e => e) (fun e => e)).keep k7 (fun i hi e => (by have := h6.low; omega)) (fun e => (by omega)); have T102 := ((T102.lt.stay (alloc_stay _ _)).stay (k7.stay (fun i hi _ e => (by have := hi.2; omega)))).mono (fun g hg => hg.1); have T105 := ((T105.lt.stay (alloc_stay _ _)).stay (k7.stay (fun i hi _ e => (by have := hi.2; omega)))).mono (fun g hg => hg.1); have hb4 := (hb4.alloc (by show 0 < 4; decide) _).keep (by show 0 < 4; decide) k7 (fun e => (by omega))) | (go_at_call 51; refine (hS7 _ h7).mono ?_; rintro e w8 ⟨rfl, h8, k8⟩; have Z8 := k8.size; have K8 : Keeps (fun k => k = r) w w8 := K7.trans k8; have M8 := M7.keep (by show 0 < 4; decide) k8 nb; have T102 := T102.stay (k8.stay (fun i hi _ e => (by omega))); have T105 := T105.stay (k8.stay (fun i hi _ e => (by omega))); have hb4 := hb4.keep (by show 0 < 4; decide) k8 (fun e => (by omega)); have hb7 := hb7.keep (by show 0 < 4; decide) k8 (fun e => (by omega)); clear hS7) | (refine wpList_load_runL rfl 35 _ rfl ⟨w3.heap.size, 0, none⟩ rfl _ (run_ex hb4) ?_) | (refine wpList_load_runL rfl 35 _ rfl ⟨w6.heap.size, 0, none⟩ rfl _ (run_ex hb7) ?_) | (refine wpList_build2L uEx inEx (by decide) (by decide) rfl _ _ rfl [_, _, _, _] [_, _, _, _] rfl rfl rfl rfl ?_; (try simp only [Act.put, List.setIfInBounds_toArray, List.set_cons_zero, List.set_cons_succ])) | (refine wpList_store_cl rfl 35 _ _ rfl w.heap.size 0 4 _ rfl rfl rfl (M8.alloc (by show 0 < 4; decide) _) (by show 4 ≤ 4; decide) iEx one4 ?_; intro w9 hc9 k9 zz9; clear zz9))
              have hc6 : CL w9 w.heap.size [.int .i64 7, .int .i64 0, .string (bs (tok R)), .slice (some ⟨w8.heap.size, 0, none⟩) 2 2] := hc9
              have hrn := run_ex hc6
              have tn := T102.node2 T105 (k := 7) (n := 0) (wd := tok R) k9 (fun g hg => by omega) (by omega) (by unfold I64; omega) (by unfold I64; omega) hTok
              have k6 : Keeps (fun i => i = w.heap.size) w8 w9 := ((Keeps.refl _ w8).alloc _).trans k9
              refine bodyPost_ret (v := .agg #[.int .i64 7, .int .i64 0, .string (bs (tok R)), .slice (some ⟨w8.heap.size, 0, none⟩) 2 2]) (by rw [results_cell1 rfl]; simp [asAddr, hrn]) rfl ?_
              exact ⟨_, _, _, _, _, _, rfl, tn.mono (fun g hg => by omega), h8.keep k6 (fun i hi e => by have := h8.low; omega) (fun e => by omega), K8.trans' k6 (fun _ _ e => e) (fun i hi e => by omega)⟩
theorem prsV_64 (l : Bs) : I64 (prsV l) := by
  unfold prsV I64
  split
  · rename_i h
    have h2 := h.2
    unfold lim at h2
    split <;> rename_i hn
    · rw [if_pos hn] at h2; omega
    · rw [if_neg hn] at h2; omega
  · omega
set_option maxHeartbeats 1000000 in
set_option maxRecDepth 100000 in
theorem num_w {w : World} {r : Nat} {T R : Bs} (h : RdM w r T R) : Calls Tryz.prog 98 #[pR r] w (RetE (num R) w r T) := by
  have hr := h.lt
  have hr12 : ∀ i, i < 12 → ¬ i = r := fun i hi e => by have := h.low; omega
  have nb : ¬ w.heap.size = r := by omega
  have y2 : ∀ ob, (w.alloc ob).cell? ⟨r, 2, none⟩ = some (.string (bs (tok R))) := fun ob => ((Keeps.refl (fun _ => False) w).alloc ob).cell (h.c.c 2 _ rfl) (fun e => e)
  have hA := fun ob => h.keep ((Keeps.refl (fun _ => False) w).alloc ob) (fun _ _ e => e) (fun e => e)
  have m0 := CL.made w zE 35
  have hP := fun ob => parse_any (bs (tok R)) (w.alloc ob) (by rw [bs_size]; have := tok_rl h; omega) (hA ob).g.er
  rw [bs_toList] at hP
  unfold num
  have hpv : I64 (prsV (tok R)) := prsV_64 _
  by_cases hp : prsE (tok R) = 0
  · rw [if_pos hp]
    rw [hp] at hP
    have hne : tok R ≠ [] := by intro e; rw [e] at hp; exact absurd hp (by decide)
    generalize prsV (tok R) = pv at *
    clear hp
    have k1o := fun (ob : Obj) (w1 : World) (b : Below (w.alloc ob).heap.size (w.alloc ob) w1) => Keeps.ofBelow b
    cases hn : nxt R with
    | error E =>
      have hS := fun W (h : RdM W r T R) => next_no h hn
      show Calls _ _ _ _ (fun e w' => e = panT T E ∧ Keeps (fun k => k = r) w w')
      go_enter Tryz.func98, Tryz.ntmps98
      go_wp2_with (first | (go_at_call 85; refine (hP _).mono ?_; rintro e w1 ⟨rfl, b1⟩; have k1 := k1o _ _ b1; have h1 := (hA _).keep k1 (fun _ _ e => e) (fun e => e)) | (go_at_call 32; refine (hS _ h1).mono ?_; rintro e w2 ⟨rfl, k2⟩))
      exact ⟨rfl, rfl, (((Keeps.refl _ w).alloc _).trans (k1.mono (fun _ _ e => e.elim))).trans k2⟩
    | ok R1 =>
      have hS := fun W (h : RdM W r T R) => next_ok h hn
      show Calls _ _ _ _ (fun e w' => ∃ k n s p m c, e = .returned (.agg #[.int .i64 k, .int .i64 n, .string s, .slice p m c]) ∧ TC w' (fun g => w.heap.size ≤ g) 35 (.mk 1 pv [] []) [.int .i64 k, .int .i64 n, .string s, .slice p m c] ∧ RdM w' r T R1 ∧ Keeps (fun k => k = r) w w')
      go_enter Tryz.func98, Tryz.ntmps98
      go_wp2_with (first | (go_at_call 85; refine (hP _).mono ?_; rintro e w1 ⟨rfl, b1⟩; have k1 := k1o _ _ b1; have h1 := (hA _).keep k1 (fun _ _ e => e) (fun e => e); have M1 := m0.keep (by show 0 < 4; decide) k1 (fun e => e)) | (go_at_call 32; refine (hS _ h1).mono ?_; rintro e w2 ⟨rfl, h2, k2⟩; have M2 := M1.keep (by show 0 < 4; decide) k2 nb) | (refine wpList_store_cl rfl 35 _ _ rfl w.heap.size 0 4 _ rfl rfl rfl M2 (by show 4 ≤ 4; decide) iEx one4 ?_; intro w9 hc9 k9 zz9; clear zz9))
      have z1 := k1.size
      simp only [World.size_alloc] at z1
      have z2 := k2.size
      have K2 : Keeps (fun k => k = r) w w2 := (((Keeps.refl _ w).alloc _).trans (k1.mono (fun _ _ e => e.elim))).trans k2
      have hc6 : CL w9 w.heap.size [.int .i64 1, .int .i64 pv, .string (bs []), .slice none 0 0] := hc9
      have hrn := run_ex hc6
      refine bodyPost_ret (v := .agg #[.int .i64 1, .int .i64 pv, .string (bs []), .slice none 0 0]) (by rw [results_cell1 rfl]; simp [asAddr, hrn]) rfl ?_
      exact ⟨_, _, _, _, _, _, rfl, TC.leaf (by unfold I64; omega) hpv (by decide), h2.keep k9 (fun i hi e => by have := h2.low; omega) (fun e => by omega), K2.trans' k9 (fun _ _ e => e) (fun i hi e => by omega)⟩
  · rw [if_neg hp]
    have hL := fun W (h : RdM W r T R) => leave_any h
    have hb : (prsE (tok R) != 0) = true := by simpa using hp
    have hb2 : decide (prsE (tok R) = 0) = false := decide_eq_false hp
    generalize prsE (tok R) = pe at *
    generalize prsV (tok R) = pv at *
    clear hp
    have k1o := fun (ob : Obj) (w1 : World) (b : Below (w.alloc ob).heap.size (w.alloc ob) w1) => Keeps.ofBelow b
    show Calls _ _ _ _ (fun e w' => e = panT T R ∧ Keeps (fun k => k = r) w w')
    go_enter Tryz.func98, Tryz.ntmps98
    go_wp2_with (first | (go_at_call 85; refine (hP _).mono ?_; rintro e w1 ⟨rfl, b1⟩; have k1 := k1o _ _ b1; have h1 := (hA _).keep k1 (fun _ _ e => e) (fun e => e)) | (go_at_call 46; refine (hL _ h1).mono ?_; rintro e w2 ⟨rfl, k2⟩))
    exact ⟨rfl, rfl, (((Keeps.refl _ w).alloc _).trans (k1.mono (fun _ _ e => e.elim))).trans (k2.mono (fun _ _ e => e.elim))⟩
end Go.Proofs.YtehblpbefkopbaaGreatDoor
