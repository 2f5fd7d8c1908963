import Derived.Test.YtehblpbefkopbaaGreatDoorXaP
namespace Go.Proofs.YtehblpbefkopbaaGreatDoor
open Go.RowKit Go.ChangeShapes Go.WideShapes Go.ChangeAt Go.Deep
attribute [local go_sem] Oper.semAt_some run_store_nf run_store_f
set_option maxHeartbeats 1000000 in
set_option maxRecDepth 100000 in
theorem brn_w {d : Nat} (IH : CS d) {w : World} {r : Nat} {T R : Bs} (h : RdM w r T R) (hd : 10 * R.length + 3 ≤ d + 1) : Calls Tryz.prog 47 #[pR r] w (RetS (brn (d + 1) R) w r T) := by
  have hr := h.lt
  have hr12 : ∀ i, i < 12 → ¬ i = r := fun i hi e => by have := h.low; omega
  have nb : ¬ w.heap.size = r := by omega
  have y2 : ∀ ob, (w.alloc ob).cell? ⟨r, 2, none⟩ = some (.string (bs (tok R))) := fun ob => ((Keeps.refl (fun _ => False) w).alloc ob).cell (h.c.c 2 _ rfl) (fun e => e)
  have hA := fun ob => h.keep ((Keeps.refl (fun _ => False) w).alloc ob) (fun _ _ e => e) (fun e => e)
  have m0 := CL.made w zS 37
  rw [brn]
  cases hn0 : need kIf R with
  | error E =>
    have hS0 := fun W (h : RdM W r T R) => need_noC h hn0
    show Calls _ _ _ _ (fun e w' => e = panT T E ∧ Keeps (fun k => k = r) w w')
    go_enter Tryz.func47, Tryz.ntmps47
    go_wp2_with (go_at_call 51; refine (hS0 _ (hA _)).mono ?_; rintro e w1 ⟨rfl, k1⟩; have K1 : Keeps (fun k => k = r) w w1 := ((Keeps.refl _ w).alloc _).trans k1)
    exact ⟨rfl, rfl, K1⟩
  | ok R1 =>
    have hS0 := fun W (h : RdM W r T R) => need_okC h hn0
    have hl0 : R1.length < R.length := need_lt hn0 (by decide)
    (try dsimp only [thr, thn])
    have hS1 := fun W (h : RdM W r T R1) => (ce_all FU).ex W r T R1 1 h (by have := h.rl; unfold FU; omega) (by decide) (by decide)
    rw [show ((1 : Nat) : Int) = 1 from rfl] at hS1
    cases hn1 : ex FU 1 R1 with
    | error E =>
      rw [hn1] at hS1
      show Calls _ _ _ _ (fun e w' => e = panT T E ∧ Keeps (fun k => k = r) w w')
      go_enter Tryz.func47, Tryz.ntmps47
      go_wp2_with (first | (go_at_call 51; refine (hS0 _ (hA _)).mono ?_; rintro e w1 ⟨rfl, h1, k1⟩; have Z1 := k1.size; simp only [World.size_alloc] at Z1; have K1 : Keeps (fun k => k = r) w w1 := ((Keeps.refl _ w).alloc _).trans k1; have M1 := m0.keep (by show 0 < 12; decide) k1 nb; clear hS0) | (go_at_call 48; refine (hS1 _ h1).mono ?_; rintro e w2 ⟨rfl, k2⟩; have K2 : Keeps (fun k => k = r) w w2 := K1.trans k2))
      exact ⟨rfl, rfl, K2⟩
    | ok z1 =>
      obtain ⟨t1, R2⟩ := z1
      rw [hn1] at hS1
      have hl1 : R2.length < R1.length := (rd_lt FU).1 _ _ _ _ (Nat.le_refl _) hn1
      (try dsimp only [thr, thn])
      have hS2 := fun W (h : RdM W r T R2) => IH.blk W r T R2 h (by omega)
      cases hn2 : blk d R2 with
      | error E =>
        rw [hn2] at hS2
        show Calls _ _ _ _ (fun e w' => e = panT T E ∧ Keeps (fun k => k = r) w w')
        go_enter Tryz.func47, Tryz.ntmps47
        go_wp2_with (first | (go_at_call 51; refine (hS0 _ (hA _)).mono ?_; rintro e w1 ⟨rfl, h1, k1⟩; have Z1 := k1.size; simp only [World.size_alloc] at Z1; have K1 : Keeps (fun k => k = r) w w1 := ((Keeps.refl _ w).alloc _).trans k1; have M1 := m0.keep (by show 0 < 12; decide) k1 nb; clear hS0) | (go_at_call 48; refine (hS1 _ h1).mono ?_; rintro e w2 ⟨k101, n101, s101, p101, m101, c101, rfl, u1, h2, kk2⟩; have k2 := kk2; have Z2 := k2.size; have K2 : Keeps (fun k => k = r) w w2 := K1.trans k2; have M2 := M1.keep (by show 0 < 12; decide) k2 nb; have T101 : TC w2 (fun g => w.heap.size < g) 35 t1 [.int .i64 k101, .int .i64 n101, .string s101, .slice p101 m101 c101] := u1.mono (fun g hg => (by omega)); clear hS1) | (go_at_call 49; refine (hS2 _ h2).mono ?_; rintro e w3 ⟨rfl, k3⟩; have K3 : Keeps (fun k => k = r) w w3 := K2.trans k3))
        exact ⟨rfl, rfl, K3⟩
      | ok z2 =>
        obtain ⟨t2, R3⟩ := z2
        rw [hn2] at hS2
        have hl2 : R3.length < R2.length := (rs_lt d).2.2.2.2 _ _ _ hn2
        (try dsimp only [thr, thn])
        by_cases ht : tok R3 = kElse
        · rw [if_pos ht]
          have hne3 : tok R3 ≠ [] := by rw [ht]; decide
          have e9 : ((bs (tok R3)).toList == [101, 108, 115, 101]) = true := by rw [bs_toList, ht]; rfl
          clear ht
          cases hn9 : nxt R3 with
          | error E =>
            have hS9 := fun W (h : RdM W r T R3) => next_no h hn9
            show Calls _ _ _ _ (fun e w' => e = panT T E ∧ Keeps (fun k => k = r) w w')
            go_enter Tryz.func47, Tryz.ntmps47
            go_wp2_with (first | (go_at_call 51; refine (hS0 _ (hA _)).mono ?_; rintro e w1 ⟨rfl, h1, k1⟩; have Z1 := k1.size; simp only [World.size_alloc] at Z1; have K1 : Keeps (fun k => k = r) w w1 := ((Keeps.refl _ w).alloc _).trans k1; have M1 := m0.keep (by show 0 < 12; decide) k1 nb; clear hS0) | (go_at_call 48; refine (hS1 _ h1).mono ?_; rintro e w2 ⟨k101, n101, s101, p101, m101, c101, rfl, u1, h2, kk2⟩; have k2 := kk2; have Z2 := k2.size; have K2 : Keeps (fun k => k = r) w w2 := K1.trans k2; have M2 := M1.keep (by show 0 < 12; decide) k2 nb; have T101 : TC w2 (fun g => w.heap.size < g) 35 t1 [.int .i64 k101, .int .i64 n101, .string s101, .slice p101 m101 c101] := u1.mono (fun g hg => (by omega)); clear hS1) | (go_at_call 49; refine (hS2 _ h2).mono ?_; rintro e w3 ⟨p102, m102, c102, xs102, rfl, ou2, u2, h3, kk3⟩; have k3 := kk3; have Z3 := k3.size; have K3 : Keeps (fun k => k = r) w w3 := K2.trans k3; have M3 := M2.keep (by show 0 < 12; decide) k3 nb; have T101 := T101.stay (k3.stay (fun i hi _ e => (by omega))); have O102 : OwnP w3 (fun g => w.heap.size < g) 37 12 (.slice p102 m102 c102) t2.length xs102 := ou2.mono (fun g hg => (by omega)); have X102 : SL w3 (fun g => w.heap.size < g) 35 37 t2 xs102 := u2.mono (fun g hg => (by omega)); clear hS2) | (refine wpList_store_cl rfl 37 _ _ rfl w3.heap.size 0 12 _ rfl rfl rfl (CL.made w3 zS 37) (by show 12 ≤ 12; decide) iSt one12 ?_; intro w4 hb4 k4 zz4; clear zz4; have hb4 : CL w4 w3.heap.size [.int .i64 4, .string (bs []), .int .i64 k101, .int .i64 n101, .string s101, .slice p101 m101 c101, .int .i64 0, .int .i64 0, .string { data := #[] }, .slice none 0 0, .slice p102 m102 c102, .slice none 0 0] := hb4; have Z4 := k4.size; simp only [World.size_alloc] at Z4; have K4 : Keeps (fun k => k = r) w w4 := (K3.alloc _).trans' k4 (fun _ _ e => e) (fun i hi e => (by omega)); have M4 := (M3.alloc (by show 0 < 12; decide) _).keep (by show 0 < 12; decide) k4 (fun e => (by omega)); have h4 := (h3.keep ((Keeps.refl (fun _ => False) w3).alloc _) (fun _ _ e => e) (fun e => e)).keep k4 (fun i hi e => (by have := h3.low; omega)) (fun e => (by omega)); have y4 := h4.c.c 2 _ rfl; have T101 := ((T101.lt.stay (alloc_stay _ _)).stay (k4.stay (fun i hi _ e => (by have := hi.2; omega)))).mono (fun g hg => (show w.heap.size < g ∧ g ≠ w3.heap.size from ⟨hg.1, (by have := hg.2; omega)⟩)); have O102 := ((O102.lt.stay (alloc_stay _ _)).stay (k4.stay (fun i hi _ e => (by have := hi.2; omega)))).mono (fun g hg => (show w.heap.size < g ∧ g ≠ w3.heap.size from ⟨hg.1, (by have := hg.2; omega)⟩)); have X102 := ((X102.lt.stay (alloc_stay _ _)).stay (k4.stay (fun i hi _ e => (by have := hi.2; omega)))).mono (fun g hg => (show w.heap.size < g ∧ g ≠ w3.heap.size from ⟨hg.1, (by have := hg.2; omega)⟩))) | (go_at_call 32; refine (hS9 _ h4).mono ?_; rintro e w5 ⟨rfl, k5⟩))
            exact ⟨rfl, rfl, K4.trans k5⟩
          | ok R8 =>
            have hS9 := fun W (h : RdM W r T R3) => next_ok h hn9
            have hl9 : R8.length < R3.length := nxt_lt hn9 hne3
            (try dsimp only [thr, thn])
            have hS10 := fun W (h : RdM W r T R8) => IH.oth W r T R8 h (by omega)
            cases hn10 : oth d R8 with
            | error E =>
              rw [hn10] at hS10
              show Calls _ _ _ _ (fun e w' => e = panT T E ∧ Keeps (fun k => k = r) w w')
              go_enter Tryz.func47, Tryz.ntmps47
              go_wp2_with (first | (go_at_call 51; refine (hS0 _ (hA _)).mono ?_; rintro e w1 ⟨rfl, h1, k1⟩; have Z1 := k1.size; simp only [World.size_alloc] at Z1; have K1 : Keeps (fun k => k = r) w w1 := ((Keeps.refl _ w).alloc _).trans k1; have M1 := m0.keep (by show 0 < 12; decide) k1 nb; clear hS0) | (go_at_call 48; refine (hS1 _ h1).mono ?_; rintro e w2 ⟨k101, n101, s101, p101, m101, c101, rfl, u1, h2, kk2⟩; have k2 := kk2; have Z2 := k2.size; have K2 : Keeps (fun k => k = r) w w2 := K1.trans k2; have M2 := M1.keep (by show 0 < 12; decide) k2 nb; have T101 : TC w2 (fun g => w.heap.size < g) 35 t1 [.int .i64 k101, .int .i64 n101, .string s101, .slice p101 m101 c101] := u1.mono (fun g hg => (by omega)); clear hS1) | (go_at_call 49; refine (hS2 _ h2).mono ?_; rintro e w3 ⟨p102, m102, c102, xs102, rfl, ou2, u2, h3, kk3⟩; have k3 := kk3; have Z3 := k3.size; have K3 : Keeps (fun k => k = r) w w3 := K2.trans k3; have M3 := M2.keep (by show 0 < 12; decide) k3 nb; have T101 := T101.stay (k3.stay (fun i hi _ e => (by omega))); have O102 : OwnP w3 (fun g => w.heap.size < g) 37 12 (.slice p102 m102 c102) t2.length xs102 := ou2.mono (fun g hg => (by omega)); have X102 : SL w3 (fun g => w.heap.size < g) 35 37 t2 xs102 := u2.mono (fun g hg => (by omega)); clear hS2) | (refine wpList_store_cl rfl 37 _ _ rfl w3.heap.size 0 12 _ rfl rfl rfl (CL.made w3 zS 37) (by show 12 ≤ 12; decide) iSt one12 ?_; intro w4 hb4 k4 zz4; clear zz4; have hb4 : CL w4 w3.heap.size [.int .i64 4, .string (bs []), .int .i64 k101, .int .i64 n101, .string s101, .slice p101 m101 c101, .int .i64 0, .int .i64 0, .string { data := #[] }, .slice none 0 0, .slice p102 m102 c102, .slice none 0 0] := hb4; have Z4 := k4.size; simp only [World.size_alloc] at Z4; have K4 : Keeps (fun k => k = r) w w4 := (K3.alloc _).trans' k4 (fun _ _ e => e) (fun i hi e => (by omega)); have M4 := (M3.alloc (by show 0 < 12; decide) _).keep (by show 0 < 12; decide) k4 (fun e => (by omega)); have h4 := (h3.keep ((Keeps.refl (fun _ => False) w3).alloc _) (fun _ _ e => e) (fun e => e)).keep k4 (fun i hi e => (by have := h3.low; omega)) (fun e => (by omega)); have y4 := h4.c.c 2 _ rfl; have T101 := ((T101.lt.stay (alloc_stay _ _)).stay (k4.stay (fun i hi _ e => (by have := hi.2; omega)))).mono (fun g hg => (show w.heap.size < g ∧ g ≠ w3.heap.size from ⟨hg.1, (by have := hg.2; omega)⟩)); have O102 := ((O102.lt.stay (alloc_stay _ _)).stay (k4.stay (fun i hi _ e => (by have := hi.2; omega)))).mono (fun g hg => (show w.heap.size < g ∧ g ≠ w3.heap.size from ⟨hg.1, (by have := hg.2; omega)⟩)); have X102 := ((X102.lt.stay (alloc_stay _ _)).stay (k4.stay (fun i hi _ e => (by have := hi.2; omega)))).mono (fun g hg => (show w.heap.size < g ∧ g ≠ w3.heap.size from ⟨hg.1, (by have := hg.2; omega)⟩))) | (go_at_call 32; refine (hS9 _ h4).mono ?_; rintro e w5 ⟨rfl, h5, k5⟩; have Z5 := k5.size; have K5 : Keeps (fun k => k = r) w w5 := K4.trans k5; have M5 := M4.keep (by show 0 < 12; decide) k5 nb; have hb5 := hb4.keep (by show 0 < 12; decide) k5 (fun e => (by omega)); have T101 := T101.stay (k5.stay (fun i hi _ e => (by have := hi.1; omega))); have O102 := O102.stay (k5.stay (fun i hi _ e => (by have := hi.1; omega))); have X102 := X102.stay (k5.stay (fun i hi _ e => (by have := hi.1; omega))); clear hS9) | (go_at_call 69; refine (hS10 _ h5).mono ?_; rintro e w6 ⟨rfl, k6⟩))
              exact ⟨rfl, rfl, K5.trans k6⟩
            | ok z10 =>
              obtain ⟨t10, R9⟩ := z10
              rw [hn10] at hS10
              (try dsimp only [thr, thn])
              show Calls _ _ _ _ (fun e w' => ∃ L : List Value, One L ∧ L.length = 12 ∧ e = .returned (.agg L.toArray) ∧ SC w' (fun g => w.heap.size ≤ g) 35 37 (.mk 4 [] t1 tr0 t2 t10) L ∧ RdM w' r T R9 ∧ Keeps (fun k => k = r) w w')
              go_enter Tryz.func47, Tryz.ntmps47
              go_wp2_with (first | (go_at_call 51; refine (hS0 _ (hA _)).mono ?_; rintro e w1 ⟨rfl, h1, k1⟩; have Z1 := k1.size; simp only [World.size_alloc] at Z1; have K1 : Keeps (fun k => k = r) w w1 := ((Keeps.refl _ w).alloc _).trans k1; have M1 := m0.keep (by show 0 < 12; decide) k1 nb; clear hS0) | (go_at_call 48; refine (hS1 _ h1).mono ?_; rintro e w2 ⟨k101, n101, s101, p101, m101, c101, rfl, u1, h2, kk2⟩; have k2 := kk2; have Z2 := k2.size; have K2 : Keeps (fun k => k = r) w w2 := K1.trans k2; have M2 := M1.keep (by show 0 < 12; decide) k2 nb; have T101 : TC w2 (fun g => w.heap.size < g) 35 t1 [.int .i64 k101, .int .i64 n101, .string s101, .slice p101 m101 c101] := u1.mono (fun g hg => (by omega)); clear hS1) | (go_at_call 49; refine (hS2 _ h2).mono ?_; rintro e w3 ⟨p102, m102, c102, xs102, rfl, ou2, u2, h3, kk3⟩; have k3 := kk3; have Z3 := k3.size; have K3 : Keeps (fun k => k = r) w w3 := K2.trans k3; have M3 := M2.keep (by show 0 < 12; decide) k3 nb; have T101 := T101.stay (k3.stay (fun i hi _ e => (by omega))); have O102 : OwnP w3 (fun g => w.heap.size < g) 37 12 (.slice p102 m102 c102) t2.length xs102 := ou2.mono (fun g hg => (by omega)); have X102 : SL w3 (fun g => w.heap.size < g) 35 37 t2 xs102 := u2.mono (fun g hg => (by omega)); clear hS2) | (refine wpList_store_cl rfl 37 _ _ rfl w3.heap.size 0 12 _ rfl rfl rfl (CL.made w3 zS 37) (by show 12 ≤ 12; decide) iSt one12 ?_; intro w4 hb4 k4 zz4; clear zz4; have hb4 : CL w4 w3.heap.size [.int .i64 4, .string (bs []), .int .i64 k101, .int .i64 n101, .string s101, .slice p101 m101 c101, .int .i64 0, .int .i64 0, .string { data := #[] }, .slice none 0 0, .slice p102 m102 c102, .slice none 0 0] := hb4; have Z4 := k4.size; simp only [World.size_alloc] at Z4; have K4 : Keeps (fun k => k = r) w w4 := (K3.alloc _).trans' k4 (fun _ _ e => e) (fun i hi e => (by omega)); have M4 := (M3.alloc (by show 0 < 12; decide) _).keep (by show 0 < 12; decide) k4 (fun e => (by omega)); have h4 := (h3.keep ((Keeps.refl (fun _ => False) w3).alloc _) (fun _ _ e => e) (fun e => e)).keep k4 (fun i hi e => (by have := h3.low; omega)) (fun e => (by omega)); have y4 := h4.c.c 2 _ rfl; have T101 := ((T101.lt.stay (alloc_stay _ _)).stay (k4.stay (fun i hi _ e => (by have := hi.2; omega)))).mono (fun g hg => (show w.heap.size < g ∧ g ≠ w3.heap.size from ⟨hg.1, (by have := hg.2; omega)⟩)); have O102 := ((O102.lt.stay (alloc_stay _ _)).stay (k4.stay (fun i hi _ e => (by have := hi.2; omega)))).mono (fun g hg => (show w.heap.size < g ∧ g ≠ w3.heap.size from ⟨hg.1, (by have := hg.2; omega)⟩)); have X102 := ((X102.lt.stay (alloc_stay _ _)).stay (k4.stay (fun i hi _ e => (by have := hi.2; omega)))).mono (fun g hg => (show w.heap.size < g ∧ g ≠ w3.heap.size from ⟨hg.1, (by have := hg.2; omega)⟩))) | (go_at_call 32; refine (hS9 _ h4).mono ?_; rintro e w5 ⟨rfl, h5, k5⟩; have Z5 := k5.size; have K5 : Keeps (fun k => k = r) w w5 := K4.trans k5; have M5 := M4.keep (by show 0 < 12; decide) k5 nb; have hb5 := hb4.keep (by show 0 < 12; decide) k5 (fun e => (by omega)); have T101 := T101.stay (k5.stay (fun i hi _ e => (by have := hi.1; omega))); have O102 := O102.stay (k5.stay (fun i hi _ e => (by have := hi.1; omega))); have X102 := X102.stay (k5.stay (fun i hi _ e => (by have := hi.1; omega))); clear hS9) | (go_at_call 69; refine (hS10 _ h5).mono ?_; rintro e w6 ⟨p104, m104, c104, xs104, rfl, ou4, u4, h6, k6⟩; have Z6 := k6.size; have K6 : Keeps (fun k => k = r) w w6 := K5.trans k6; have M6 := M5.keep (by show 0 < 12; decide) k6 nb; have hb6 := hb5.keep (by show 0 < 12; decide) k6 (fun e => (by omega)); have T101 := T101.stay (k6.stay (fun i hi _ e => (by have := hi.1; omega))); have O102 := O102.stay (k6.stay (fun i hi _ e => (by have := hi.1; omega))); have X102 := X102.stay (k6.stay (fun i hi _ e => (by have := hi.1; omega))); have O104 : OwnP w6 (fun g => w.heap.size < g ∧ g ≠ w3.heap.size) 37 12 (.slice p104 m104 c104) t10.length xs104 := ou4.mono (fun g hg => ⟨(by have hg : w5.heap.size ≤ g := hg; omega), (by have hg : w5.heap.size ≤ g := hg; omega)⟩); have X104 : SL w6 (fun g => w.heap.size < g ∧ g ≠ w3.heap.size) 35 37 t10 xs104 := u4.mono (fun g hg => ⟨(by have hg : w5.heap.size ≤ g := hg; omega), (by have hg : w5.heap.size ≤ g := hg; omega)⟩); clear hS10) | (refine wpList_store_slS rfl rfl _ _ rfl w3.heap.size 11 rfl p104 m104 c104 rfl hb6 (by show 11 < 12; decide) ?_; intro w7 hb7 k7 zz7; have hb7 : CL w7 w3.heap.size [.int .i64 4, .string (bs []), .int .i64 k101, .int .i64 n101, .string s101, .slice p101 m101 c101, .int .i64 0, .int .i64 0, .string { data := #[] }, .slice none 0 0, .slice p102 m102 c102, .slice p104 m104 c104] := hb7; have K7 : Keeps (fun k => k = r) w w7 := K6.trans' k7 (fun _ _ e => e) (fun i hi e => (by omega)); have M7 := M6.keep (by show 0 < 12; decide) k7 (fun e => (by omega)); have h7 := h6.keep k7 (fun i hi e => (by have := h6.low; omega)) (fun e => (by omega)); have st7 : Stay (fun g => w.heap.size < g ∧ g ≠ w3.heap.size) w6 w7 := k7.stay (fun i hi _ e => hi.2 e); have T101 := T101.stay st7; have O102 := O102.stay st7; have X102 := X102.stay st7; have O104 := O104.stay st7; have X104 := X104.stay st7) | (refine wpList_load_runL rfl 37 _ rfl ⟨w3.heap.size, 0, none⟩ rfl _ (run_st hb7 rfl) ?_) | (refine wpList_store_cl rfl 37 _ _ rfl w.heap.size 0 12 _ rfl rfl rfl M7 (by show 12 ≤ 12; decide) iSt one12 ?_; intro w9 hc9 k9 zz9; clear zz9))
              have hc6 : CL w9 w.heap.size [.int .i64 4, .string (bs []), .int .i64 k101, .int .i64 n101, .string s101, .slice p101 m101 c101, .int .i64 0, .int .i64 0, .string { data := #[] }, .slice none 0 0, .slice p102 m102 c102, .slice p104 m104 c104] := hc9
              have hrn := run_st hc6 rfl
              refine bodyPost_ret (v := .agg [.int .i64 4, .string (bs []), .int .i64 k101, .int .i64 n101, .string s101, .slice p101 m101 c101, .int .i64 0, .int .i64 0, .string { data := #[] }, .slice none 0 0, .slice p102 m102 c102, .slice p104 m104 c104].toArray) (by rw [results_cell1 rfl]; simp [asAddr, hrn]) rfl ?_
              have st9 : Stay (fun g => w.heap.size < g ∧ g ≠ w3.heap.size) w7 w9 := k9.stay (fun i hi _ e => by have := hi.1; omega)
              exact ⟨_, one12, rfl, rfl, (SC.mk (P := fun g => w.heap.size < g ∧ g ≠ w3.heap.size) (k := 4) (wd := []) (by unfold I64; omega) (by decide) (T101.stay st9) (tr0_cells w9 _ _) (O102.stay st9) (X102.stay st9) (O104.stay st9) (X104.stay st9)).mono (fun g hg => by have := hg.1; omega), h7.keep k9 (fun i hi e => by have := h7.low; omega) (fun e => by omega), K7.trans' k9 (fun _ _ e => e) (fun i hi e => by omega)⟩
        · rw [if_neg ht]
          have e9 : ((bs (tok R3)).toList == [101, 108, 115, 101]) = false := by rw [bs_toList]; exact beq_eq_false_iff_ne.2 ht
          clear ht
          show Calls _ _ _ _ (fun e w' => ∃ L : List Value, One L ∧ L.length = 12 ∧ e = .returned (.agg L.toArray) ∧ SC w' (fun g => w.heap.size ≤ g) 35 37 (.mk 4 [] t1 tr0 t2 []) L ∧ RdM w' r T R3 ∧ Keeps (fun k => k = r) w w')
          go_enter Tryz.func47, Tryz.ntmps47
          go_wp2_with (first | (go_at_call 51; refine (hS0 _ (hA _)).mono ?_; rintro e w1 ⟨rfl, h1, k1⟩; have Z1 := k1.size; simp only [World.size_alloc] at Z1; have K1 : Keeps (fun k => k = r) w w1 := ((Keeps.refl _ w).alloc _).trans k1; have M1 := m0.keep (by show 0 < 12; decide) k1 nb; clear hS0) | (go_at_call 48; refine (hS1 _ h1).mono ?_; rintro e w2 ⟨k101, n101, s101, p101, m101, c101, rfl, u1, h2, kk2⟩; have k2 := kk2; have Z2 := k2.size; have K2 : Keeps (fun k => k = r) w w2 := K1.trans k2; have M2 := M1.keep (by show 0 < 12; decide) k2 nb; have T101 : TC w2 (fun g => w.heap.size < g) 35 t1 [.int .i64 k101, .int .i64 n101, .string s101, .slice p101 m101 c101] := u1.mono (fun g hg => (by omega)); clear hS1) | (go_at_call 49; refine (hS2 _ h2).mono ?_; rintro e w3 ⟨p102, m102, c102, xs102, rfl, ou2, u2, h3, kk3⟩; have k3 := kk3; have Z3 := k3.size; have K3 : Keeps (fun k => k = r) w w3 := K2.trans k3; have M3 := M2.keep (by show 0 < 12; decide) k3 nb; have T101 := T101.stay (k3.stay (fun i hi _ e => (by omega))); have O102 : OwnP w3 (fun g => w.heap.size < g) 37 12 (.slice p102 m102 c102) t2.length xs102 := ou2.mono (fun g hg => (by omega)); have X102 : SL w3 (fun g => w.heap.size < g) 35 37 t2 xs102 := u2.mono (fun g hg => (by omega)); clear hS2) | (refine wpList_store_cl rfl 37 _ _ rfl w3.heap.size 0 12 _ rfl rfl rfl (CL.made w3 zS 37) (by show 12 ≤ 12; decide) iSt one12 ?_; intro w4 hb4 k4 zz4; clear zz4; have hb4 : CL w4 w3.heap.size [.int .i64 4, .string (bs []), .int .i64 k101, .int .i64 n101, .string s101, .slice p101 m101 c101, .int .i64 0, .int .i64 0, .string { data := #[] }, .slice none 0 0, .slice p102 m102 c102, .slice none 0 0] := hb4; have Z4 := k4.size; simp only [World.size_alloc] at Z4; have K4 : Keeps (fun k => k = r) w w4 := (K3.alloc _).trans' k4 (fun _ _ e => e) (fun i hi e => (by omega)); have M4 := (M3.alloc (by show 0 < 12; decide) _).keep (by show 0 < 12; decide) k4 (fun e => (by omega)); have h4 := (h3.keep ((Keeps.refl (fun _ => False) w3).alloc _) (fun _ _ e => e) (fun e => e)).keep k4 (fun i hi e => (by have := h3.low; omega)) (fun e => (by omega)); have y4 := h4.c.c 2 _ rfl; have T101 := ((T101.lt.stay (alloc_stay _ _)).stay (k4.stay (fun i hi _ e => (by have := hi.2; omega)))).mono (fun g hg => (show w.heap.size < g ∧ g ≠ w3.heap.size from ⟨hg.1, (by have := hg.2; omega)⟩)); have O102 := ((O102.lt.stay (alloc_stay _ _)).stay (k4.stay (fun i hi _ e => (by have := hi.2; omega)))).mono (fun g hg => (show w.heap.size < g ∧ g ≠ w3.heap.size from ⟨hg.1, (by have := hg.2; omega)⟩)); have X102 := ((X102.lt.stay (alloc_stay _ _)).stay (k4.stay (fun i hi _ e => (by have := hi.2; omega)))).mono (fun g hg => (show w.heap.size < g ∧ g ≠ w3.heap.size from ⟨hg.1, (by have := hg.2; omega)⟩))) | (refine wpList_load_runL rfl 37 _ rfl ⟨w3.heap.size, 0, none⟩ rfl _ (run_st hb4 rfl) ?_) | (refine wpList_store_cl rfl 37 _ _ rfl w.heap.size 0 12 _ rfl rfl rfl M4 (by show 12 ≤ 12; decide) iSt one12 ?_; intro w9 hc9 k9 zz9; clear zz9))
          have hc6 : CL w9 w.heap.size [.int .i64 4, .string (bs []), .int .i64 k101, .int .i64 n101, .string s101, .slice p101 m101 c101, .int .i64 0, .int .i64 0, .string { data := #[] }, .slice none 0 0, .slice p102 m102 c102, .slice none 0 0] := hc9
          have hrn := run_st hc6 rfl
          refine bodyPost_ret (v := .agg [.int .i64 4, .string (bs []), .int .i64 k101, .int .i64 n101, .string s101, .slice p101 m101 c101, .int .i64 0, .int .i64 0, .string { data := #[] }, .slice none 0 0, .slice p102 m102 c102, .slice none 0 0].toArray) (by rw [results_cell1 rfl]; simp [asAddr, hrn]) rfl ?_
          have st9 : Stay (fun g => w.heap.size < g ∧ g ≠ w3.heap.size) w4 w9 := k9.stay (fun i hi _ e => by have := hi.1; omega)
          exact ⟨_, one12, rfl, rfl, (SC.mk (P := fun g => w.heap.size < g ∧ g ≠ w3.heap.size) (k := 4) (wd := []) (by unfold I64; omega) (by decide) (T101.stay st9) (tr0_cells w9 _ _) (O102.stay st9) (X102.stay st9) (ownP_nil _ _ _ _) (SL.nil _ _ _ _)).mono (fun g hg => by have := hg.1; omega), h4.keep k9 (fun i hi e => by have := h4.low; omega) (fun e => by omega), K4.trans' k9 (fun _ _ e => e) (fun i hi e => by omega)⟩
/-- Statements read behind others. -/
def appR (acc : List St) (x : Except Bs (List St × Bs)) : Except Bs (List St × Bs) := match x with
  | .error E => .error E
  | .ok (l, R) => .ok (acc ++ l, R)
set_option maxHeartbeats 1000000 in
set_option maxRecDepth 100000 in
theorem sts_w {d : Nat} (IH : ∀ d', d' ≤ d → CS d') {w : World} {r : Nat} {T R : Bs} (en : Bs) (h : RdM w r T R) (hd : 10 * R.length + 5 ≤ d + 1) : Calls Tryz.prog 23 #[pR r, .string (bs en)] w (RetL (sts (d + 1) en R) w r T) := by
  have hr := h.lt
  have hrl := h.rl
  obtain ⟨RES, hRES⟩ : ∃ RES, RES = sts (d + 1) en R := ⟨_, rfl⟩
  rw [← hRES]
  have L0 : StL w r T w [] none 0 [] R := ⟨ownP_nil _ _ _ _, SL.nil _ _ _ _, h, Keeps.refl _ _⟩
  have HR0 : Hid (RES = appR [] (sts (d + 1) en R)) := by
    show _ = _
    rw [hRES]; cases sts (d + 1) en R <;> rfl
  clear hRES
  go_enter Tryz.func23, Tryz.ntmps23
  go_wp2_with fail
  go_loopw [5] (fun iv Wr => ∃ (dd : Nat) (acc : List St) (Rc : Bs) (p : Option Addr) (c : Nat) (xs : List Value), iv = .slice p acc.length c ∧ RES = appR acc (sts dd en Rc) ∧ 10 * Rc.length + 5 ≤ dd ∧ dd ≤ d + 1 ∧ acc.length + Rc.length ≤ R.length ∧ StL w r T Wr acc p c xs Rc) (fun _ Wr => mR r Wr)
  case atStart => exact ⟨d + 1, [], R, none, 0, [], rfl, HR0.out, hd, Nat.le_refl _, by simp, L0⟩
  case round =>
    clear L0 HR0
    obtain ⟨dd, acc, Rc, p, c, xs, rfl, hRE, hdd, hdl, hac, hL⟩ := hrel
    obtain ⟨dd, rfl⟩ : ∃ q, dd = q + 1 := ⟨dd - 1, by omega⟩
    rw [sts] at hRE
    have y2 := hL.h.c.c 2 _ rfl
    by_cases ht : tok Rc = en
    · have e1 : ((bs (tok Rc)).toList == (bs en).toList) = true := by rw [eqL, ht]; simp
      have e2 : ((bs (tok Rc)).toList != (bs en).toList) = false := by rw [bne, e1]; rfl
      rw [if_pos ht] at hRE
      have HR : Hid (RES = .ok (acc, Rc)) := by show _ = _; rw [hRE]; show Except.ok (acc ++ [], Rc) = _; rw [List.append_nil]
      clear hRE ht
      generalize bs (tok Rc) = K at *
      generalize bs en = EN at *
      go_wp2_with fail
      go_ret
      show RetL RES w r T _ _
      rw [HR.out]
      exact ⟨_, _, _, _, rfl, hL.o, hL.x.mono (fun g hg => hg.1), hL.h, hL.kk⟩
    · have e1 : ((bs (tok Rc)).toList == (bs en).toList) = false := by rw [eqL]; simpa using ht
      have e2 : ((bs (tok Rc)).toList != (bs en).toList) = true := by rw [bne, e1]; rfl
      rw [if_neg ht] at hRE
      have hSt := fun W (h : RdM W r T Rc) => (IH dd (by omega)).stm W r T Rc h (by omega)
      clear ht
      generalize bs (tok Rc) = K at *
      cases hx : stm dd Rc with
      | error E =>
        rw [hx] at hSt
        have HR : Hid (RES = .error E) := by show _ = _; rw [hRE, hx]; rfl
        clear hRE hx
        generalize bs en = EN at *
        go_wp2_with (go_at_call 33; refine (hSt _ hL.h).mono ?_; rintro e w1 ⟨rfl, k1⟩)
        have fin : RetL RES w r T (panT T E) w1 := by rw [HR.out]; exact ⟨rfl, hL.kk.trans k1⟩
        exact ⟨rfl, fin⟩
      | ok z =>
        obtain ⟨s, R1⟩ := z
        rw [hx] at hSt
        have hl1 := (rs_lt dd).2.1 _ _ _ hx
        have HR : Hid (RES = appR (acc ++ [s]) (sts dd en R1)) := by
          show _ = _
          rw [hRE, hx]
          dsimp only [thn]
          cases sts dd en R1 with
          | error E => rfl
          | ok q => show Except.ok (acc ++ s :: q.1, q.2) = Except.ok ((acc ++ [s]) ++ q.1, q.2); simp
        clear hRE hx
        generalize bs en = EN at *
        go_wp2_with (first | (go_at_call 33; refine (hSt _ hL.h).mono ?_; rintro e w1 ⟨L, hO, hLn, rfl, V, h1, k1⟩; obtain ⟨p', c', w2, hr1, hL2⟩ := hL.add hr h1 k1 V hLn hO (by omega)) | (refine wpList_build1L uSt inSt (by decide) (by decide) rfl _ rfl L hLn rfl ?_; (try simp only [Act.put, List.setIfInBounds_toArray, List.set_cons_zero, List.set_cons_succ])) | (refine wpList_append_tL rfl _ _ 25 rfl _ _ _ w2 rfl rfl hr1 ?_; clear hr1))
        go_roundw
        case rel => exact ⟨dd, acc ++ [s], R1, p', c', _, by simp, HR.out, by omega, by omega, by simp; omega, hL2⟩
        case measure =>
          have e1 := mR_eq hL2.h
          have e2 := mR_eq hL.h
          first | (show mR r w2 < mR r wr; omega) | (simp [e1, e2]; omega)
theorem stm_w' {d : Nat} (IH : CS d) {w : World} {r : Nat} {T R : Bs} (h : RdM w r T R) (hd : 10 * R.length + 4 ≤ d + 1) : Calls Tryz.prog 33 #[pR r] w (RetS (stm (d + 1) R) w r T) := by
  by_cases g1 : tok R = kIf
  · exact stm_i IH h hd g1
  by_cases g2 : tok R = kWhile
  · exact stm_w IH h hd g2
  exact stm_s h g1 g2
theorem oth_w {d : Nat} (IH : CS d) {w : World} {r : Nat} {T R : Bs} (h : RdM w r T R) (hd : 10 * R.length + 4 ≤ d + 1) : Calls Tryz.prog 69 #[pR r] w (RetL (oth (d + 1) R) w r T) := by
  by_cases g1 : tok R = kIf
  · exact oth_i IH h hd g1
  exact oth_b IH h hd g1
theorem cs_all (d : Nat) : CS d := by
  induction d using Nat.strongRecOn with
  | ind d ih =>
    cases d with
    | zero => exact ⟨fun _ _ _ _ _ _ h => absurd h (by omega), fun _ _ _ _ _ h => absurd h (by omega), fun _ _ _ _ _ h => absurd h (by omega), fun _ _ _ _ _ h => absurd h (by omega), fun _ _ _ _ _ h => absurd h (by omega)⟩
    | succ d =>
      have I := ih d (Nat.lt_succ_self d)
      exact ⟨fun w r T R en h hd => sts_w (fun d' hd' => ih d' (by omega)) en h hd, fun w r T R h hd => stm_w' I h hd, fun w r T R h hd => brn_w I h hd, fun w r T R h hd => oth_w I h hd, fun w r T R h hd => blk_w I h hd⟩
end Go.Proofs.YtehblpbefkopbaaGreatDoor
