import Derived.Test.YtgcfckbmmdajhaaLiD
namespace Go.Proofs.Ytgcfckbmmdajhaa
open Go.RowKit Go.Maps Go.ChangeMaps Go.MapKept Go.WideShapes
set_option maxHeartbeats 1000000 in
set_option maxRecDepth 100000 in
theorem do_any {w : World} {mb n : Nat} {f : Int → Bool} (h : SV w mb n f) (c : Cl) (h1 : I64 c.key) (h2 : I64 c.other) (hn : n < 9223372036854775806) : Calls Try.prog 23 #[.map (some mb), .agg c.cells.toArray] w fun e w' => ∃ y r n' f', e = .returned (.agg #[.bool y, .int .i64 r]) ∧ Did c n f y r n' f' ∧ SV w' mb n' f' ∧ Keeps (fun i => i = mb) w w' := by
  have lt := h.lt
  obtain ⟨W0, e0, k0, hb, z0⟩ := cl_box w c
  obtain ⟨W1, e1⟩ : ∃ W1, W1 = W0.alloc (.cells #[.bool false, .int .i64 0] 61) := ⟨_, rfl⟩
  have k1 : Keeps (fun _ => False) W0 W1 := by rw [e1]; exact (Keeps.refl _ W0).alloc _
  have hB : CL W1 (w.heap.size + 1) [.bool false, .int .i64 0] := by rw [e1, ← z0]; exact CL.made W0 [.bool false, .int .i64 0] _
  have c0 := k1.cell hb.c0 (fun e => e)
  have c1 := k1.cell hb.c1 (fun e => e)
  have c2 := k1.cell hb.c2 (fun e => e)
  have hS := h.keep (k0.trans k1) (fun e => e)
  have K := (k0.trans k1).mono (T := fun i => i = mb) (fun _ _ e => e.elim)
  clear h k0 k1 hb z0
  unfold Did
  go_enter Try.func23, Try.ntmps23
  refine wp_seq_k (fun KK hKK => ?_)
  have hKH : Hid _ := hKK
  clear hKK
  go_wp2_with fail
  refine hKH.out _ _ ?_
  clear hKH KK
  rw [← e0, ← e1]
  clear e0 e1 W0
  generalize c.kind = kd at *
  generalize c.key = ky at *
  generalize c.other = ot at *
  by_cases g1 : kd = 1
  · have q1 : (kd == 1) = true := by simp [g1]
    simp only [if_pos g1]
    clear g1
    have hha := has_any hS h1
    have HPU : Hid (∀ W, SV W mb n f → Calls Try.prog 35 #[.map (some mb), .int .i64 ky] W fun e w' => e = .returned (.tuple #[]) ∧ SV w' mb (upN (f ky) n) (putF f ky) ∧ Keeps (fun i => i = mb) W w') := fun W hW => putS_any hW h1 (by omega)
    generalize hfk : f ky = fk at *
    go_wp2_with (first | (go_at_call 34; refine hha.mono ?_; clear hha; rintro e w2 ⟨rfl, k2⟩; have KK_ := k2; replace hB := hB.keep (by show 0 < 2; decide) KK_ (fun e => e); replace c1 := KK_.cell c1 (fun e => e); replace c2 := KK_.cell c2 (fun e => e); replace hS := hS.keep KK_ (fun e => e); replace K := K.trans' KK_ (U := fun i => i = mb) (fun _ _ e => e) (fun _ _ e => e.elim); have hpu := HPU.out w2 hS; clear HPU KK_) | (go_at_call 35; refine hpu.mono ?_; clear hpu; rintro e w3 ⟨rfl, hS3, KK_⟩; replace hB := hB.keep (by show 0 < 2; decide) KK_ (fun e => (by have e : w.heap.size + 1 = mb := e; omega)); replace c1 := KK_.cell c1 (fun e => (by have e : w.heap.size = mb := e; omega)); replace c2 := KK_.cell c2 (fun e => (by have e : w.heap.size = mb := e; omega)); replace K := K.trans' KK_ (U := fun i => i = mb) (fun _ _ e => e) (fun _ _ e => e); clear KK_ hS; have hS := hS3; clear hS3) | (refine wpList_store_cl rfl 61 _ _ rfl (w.heap.size + 1) 0 2 _ rfl rfl rfl hB (by show 2 ≤ 2; decide) (by kernel_rfl) (by simp [Value.oneCell']) ?_; intro w9 hc9 k9 z9; clear z9; have hI9 : CL w9 (w.heap.size + 1) [.bool (!fk), .int .i64 0] := hc9; clear hc9 hB; have d0 := hI9.c 0 _ rfl; have d1 := hI9.c 1 _ rfl))
    refine bodyPost_ret (v := .agg #[.bool (!fk), .int .i64 (0)]) (by rw [results_cell1 rfl]; go_simp) rfl ⟨_, _, _, _, rfl, ⟨rfl, rfl, rfl, rfl⟩, hS.keep k9 (fun e => by have e : mb = w.heap.size + 1 := e; omega), K.trans' k9 (fun _ _ e => e) (fun i hi e => by have e : i = w.heap.size + 1 := e; omega)⟩
  have q1 : (kd == 1) = false := by simp [g1]
  simp only [if_neg g1]
  clear g1
  by_cases g2 : kd = 2
  · have q2 : (kd == 2) = true := by simp [g2]
    simp only [if_pos g2]
    clear g2
    have hta := take_any hS h1
    generalize hfk : f ky = fk at *
    go_wp2_with (first | (go_at_call 36; refine hta.mono ?_; clear hta; rintro e w3 ⟨rfl, hS3, KK_⟩; replace hB := hB.keep (by show 0 < 2; decide) KK_ (fun e => (by have e : w.heap.size + 1 = mb := e; omega)); replace c1 := KK_.cell c1 (fun e => (by have e : w.heap.size = mb := e; omega)); replace c2 := KK_.cell c2 (fun e => (by have e : w.heap.size = mb := e; omega)); replace K := K.trans' KK_ (U := fun i => i = mb) (fun _ _ e => e) (fun _ _ e => e); clear KK_ hS; have hS := hS3; clear hS3) | (refine wpList_store_cl rfl 61 _ _ rfl (w.heap.size + 1) 0 2 _ rfl rfl rfl hB (by show 2 ≤ 2; decide) (by kernel_rfl) (by simp [Value.oneCell']) ?_; intro w9 hc9 k9 z9; clear z9; have hI9 : CL w9 (w.heap.size + 1) [.bool fk, .int .i64 0] := hc9; clear hc9 hB; have d0 := hI9.c 0 _ rfl; have d1 := hI9.c 1 _ rfl))
    refine bodyPost_ret (v := .agg #[.bool (fk), .int .i64 (0)]) (by rw [results_cell1 rfl]; go_simp) rfl ⟨_, _, _, _, rfl, ⟨rfl, rfl, rfl, rfl⟩, hS.keep k9 (fun e => by have e : mb = w.heap.size + 1 := e; omega), K.trans' k9 (fun _ _ e => e) (fun i hi e => by have e : i = w.heap.size + 1 := e; omega)⟩
  have q2 : (kd == 2) = false := by simp [g2]
  simp only [if_neg g2]
  clear g2
  by_cases g3 : kd = 3
  · have q3 : (kd == 3) = true := by simp [g3]
    simp only [if_pos g3]
    clear g3
    have hha := has_any hS h1
    generalize hfk : f ky = fk at *
    go_wp2_with (first | (go_at_call 34; refine hha.mono ?_; clear hha; rintro e w2 ⟨rfl, k2⟩; have KK_ := k2; replace hB := hB.keep (by show 0 < 2; decide) KK_ (fun e => e); replace c1 := KK_.cell c1 (fun e => e); replace c2 := KK_.cell c2 (fun e => e); replace hS := hS.keep KK_ (fun e => e); replace K := K.trans' KK_ (U := fun i => i = mb) (fun _ _ e => e) (fun _ _ e => e.elim); clear KK_) | (refine wpList_store_cl rfl 61 _ _ rfl (w.heap.size + 1) 0 2 _ rfl rfl rfl hB (by show 2 ≤ 2; decide) (by kernel_rfl) (by simp [Value.oneCell']) ?_; intro w9 hc9 k9 z9; clear z9; have hI9 : CL w9 (w.heap.size + 1) [.bool fk, .int .i64 0] := hc9; clear hc9 hB; have d0 := hI9.c 0 _ rfl; have d1 := hI9.c 1 _ rfl))
    refine bodyPost_ret (v := .agg #[.bool (fk), .int .i64 (0)]) (by rw [results_cell1 rfl]; go_simp) rfl ⟨_, _, _, _, rfl, ⟨rfl, rfl, rfl, rfl⟩, hS.keep k9 (fun e => by have e : mb = w.heap.size + 1 := e; omega), K.trans' k9 (fun _ _ e => e) (fun i hi e => by have e : i = w.heap.size + 1 := e; omega)⟩
  have q3 : (kd == 3) = false := by simp [g3]
  simp only [if_neg g3]
  clear g3
  by_cases g4 : kd = 4
  · have q4 : (kd == 4) = true := by simp [g4]
    simp only [if_pos g4]
    clear g4
    by_cases h0 : n = 0
    · have s0 : ((n : Int) == 0) = true := by simp [h0]
      simp only [if_pos h0]
      go_wp2_with (first | (at_len; refine wpList_len_sv rfl _ rfl rfl hS ?_; (try simp only [Act.put, List.setIfInBounds_toArray, List.set_cons_zero, List.set_cons_succ])) | (refine wpList_store_cl rfl 61 _ _ rfl (w.heap.size + 1) 0 2 _ rfl rfl rfl hB (by show 2 ≤ 2; decide) (by kernel_rfl) (by simp [Value.oneCell']) ?_; intro w9 hc9 k9 z9; clear z9; have hI9 : CL w9 (w.heap.size + 1) [.bool false, .int .i64 0] := hc9; clear hc9 hB; have d0 := hI9.c 0 _ rfl; have d1 := hI9.c 1 _ rfl))
      refine bodyPost_ret (v := .agg #[.bool (false), .int .i64 (0)]) (by rw [results_cell1 rfl]; go_simp) rfl ⟨_, _, _, _, rfl, ⟨rfl, rfl, rfl, rfl⟩, hS.keep k9 (fun e => by have e : mb = w.heap.size + 1 := e; omega), K.trans' k9 (fun _ _ e => e) (fun i hi e => by have e : i = w.heap.size + 1 := e; omega)⟩
    · have s0 : ((n : Int) == 0) = false := by simp [h0]
      simp only [if_neg h0]
      have hle := least_any hS
      have HTK : Hid (∀ W x, I64 x → SV W mb n f → Calls Try.prog 36 #[.map (some mb), .int .i64 x] W fun e w' => e = .returned (.agg #[.bool (f x), .int .i64 0]) ∧ SV w' mb (dnN (f x) n) (delF f x) ∧ Keeps (fun i => i = mb) W w') := fun W x hx hW => take_any hW hx
      go_wp2_with (first | (at_len; refine wpList_len_sv rfl _ rfl rfl hS ?_; (try simp only [Act.put, List.setIfInBounds_toArray, List.set_cons_zero, List.set_cons_succ])) | (go_at_call 37; refine hle.mono ?_; clear hle; rintro e w2 ⟨x, rfl, hx, KK_⟩; replace hB := hB.keep (by show 0 < 2; decide) KK_ (fun e => e); replace c1 := KK_.cell c1 (fun e => e); replace c2 := KK_.cell c2 (fun e => e); replace hS := hS.keep KK_ (fun e => e); replace K := K.trans' KK_ (U := fun i => i = mb) (fun _ _ e => e) (fun _ _ e => e.elim); have hta := HTK.out w2 x hx.1 hS; clear HTK KK_) | (go_at_call 36; refine hta.mono ?_; clear hta; rintro e w3 ⟨rfl, hS3, KK_⟩; replace hB := hB.keep (by show 0 < 2; decide) KK_ (fun e => (by have e : w.heap.size + 1 = mb := e; omega)); replace c1 := KK_.cell c1 (fun e => (by have e : w.heap.size = mb := e; omega)); replace c2 := KK_.cell c2 (fun e => (by have e : w.heap.size = mb := e; omega)); replace K := K.trans' KK_ (U := fun i => i = mb) (fun _ _ e => e) (fun _ _ e => e); clear KK_ hS; have hS := hS3; clear hS3) | (refine wpList_store_cl rfl 61 _ _ rfl (w.heap.size + 1) 0 2 _ rfl rfl rfl hB (by show 2 ≤ 2; decide) (by kernel_rfl) (by simp [Value.oneCell']) ?_; intro w9 hc9 k9 z9; clear z9; have hI9 : CL w9 (w.heap.size + 1) [.bool true, .int .i64 x] := hc9; clear hc9 hB; have d0 := hI9.c 0 _ rfl; have d1 := hI9.c 1 _ rfl))
      refine bodyPost_ret (v := .agg #[.bool (true), .int .i64 (x)]) (by rw [results_cell1 rfl]; go_simp) rfl ⟨_, _, _, _, rfl, ⟨rfl, hx, rfl, rfl⟩, hS.keep k9 (fun e => by have e : mb = w.heap.size + 1 := e; omega), K.trans' k9 (fun _ _ e => e) (fun i hi e => by have e : i = w.heap.size + 1 := e; omega)⟩
  have q4 : (kd == 4) = false := by simp [g4]
  simp only [if_neg g4]
  clear g4
  by_cases g5 : kd = 5
  · have q5 : (kd == 5) = true := by simp [g5]
    simp only [if_pos g5]
    clear g5
    go_wp2_with (first | (at_len; refine wpList_len_sv rfl _ rfl rfl hS ?_; (try simp only [Act.put, List.setIfInBounds_toArray, List.set_cons_zero, List.set_cons_succ])) | (refine wpList_store_cl rfl 61 _ _ rfl (w.heap.size + 1) 0 2 _ rfl rfl rfl hB (by show 2 ≤ 2; decide) (by kernel_rfl) (by simp [Value.oneCell']) ?_; intro w9 hc9 k9 z9; clear z9; have hI9 : CL w9 (w.heap.size + 1) [.bool true, .int .i64 (n : Int)] := hc9; clear hc9 hB; have d0 := hI9.c 0 _ rfl; have d1 := hI9.c 1 _ rfl))
    refine bodyPost_ret (v := .agg #[.bool (true), .int .i64 ((n : Int))]) (by rw [results_cell1 rfl]; go_simp) rfl ⟨_, _, _, _, rfl, ⟨rfl, rfl, rfl, rfl⟩, hS.keep k9 (fun e => by have e : mb = w.heap.size + 1 := e; omega), K.trans' k9 (fun _ _ e => e) (fun i hi e => by have e : i = w.heap.size + 1 := e; omega)⟩
  have q5 : (kd == 5) = false := by simp [g5]
  simp only [if_neg g5]
  clear g5
  have hha := has_any hS h1
  cases hfk : f ky with
  | false =>
    rw [hfk] at hha
    simp only [true_or, if_true]
    go_wp2_with (first | (go_at_call 34; refine hha.mono ?_; clear hha; rintro e w2 ⟨rfl, k2⟩; have KK_ := k2; replace hB := hB.keep (by show 0 < 2; decide) KK_ (fun e => e); replace c1 := KK_.cell c1 (fun e => e); replace c2 := KK_.cell c2 (fun e => e); replace hS := hS.keep KK_ (fun e => e); replace K := K.trans' KK_ (U := fun i => i = mb) (fun _ _ e => e) (fun _ _ e => e.elim); clear KK_) | (refine wpList_store_cl rfl 61 _ _ rfl (w.heap.size + 1) 0 2 _ rfl rfl rfl hB (by show 2 ≤ 2; decide) (by kernel_rfl) (by simp [Value.oneCell']) ?_; intro w9 hc9 k9 z9; clear z9; have hI9 : CL w9 (w.heap.size + 1) [.bool false, .int .i64 0] := hc9; clear hc9 hB; have d0 := hI9.c 0 _ rfl; have d1 := hI9.c 1 _ rfl))
    refine bodyPost_ret (v := .agg #[.bool (false), .int .i64 (0)]) (by rw [results_cell1 rfl]; go_simp) rfl ⟨_, _, _, _, rfl, ⟨rfl, rfl, rfl, rfl⟩, hS.keep k9 (fun e => by have e : mb = w.heap.size + 1 := e; omega), K.trans' k9 (fun _ _ e => e) (fun i hi e => by have e : i = w.heap.size + 1 := e; omega)⟩
  | true =>
    rw [hfk] at hha
    have HH2 : Hid (∀ W, SV W mb n f → Calls Try.prog 34 #[.map (some mb), .int .i64 ot] W fun e w' => e = .returned (.bool (f ot)) ∧ Keeps (fun _ => False) W w') := fun W hW => has_any hW h2
    cases hfo : f ot with
    | true =>
      simp only [or_true, if_true]
      go_wp2_with (first | (go_at_call 34; refine hha.mono ?_; clear hha; rintro e w2 ⟨rfl, k2⟩; have KK_ := k2; replace hB := hB.keep (by show 0 < 2; decide) KK_ (fun e => e); replace c1 := KK_.cell c1 (fun e => e); replace c2 := KK_.cell c2 (fun e => e); replace hS := hS.keep KK_ (fun e => e); replace K := K.trans' KK_ (U := fun i => i = mb) (fun _ _ e => e) (fun _ _ e => e.elim); have hh2 := HH2.out w2 hS; rw [hfo] at hh2; clear HH2 KK_) | (go_at_call 34; refine hh2.mono ?_; clear hh2; rintro e w3 ⟨rfl, KK_⟩; replace hB := hB.keep (by show 0 < 2; decide) KK_ (fun e => e); replace c1 := KK_.cell c1 (fun e => e); replace c2 := KK_.cell c2 (fun e => e); replace hS := hS.keep KK_ (fun e => e); replace K := K.trans' KK_ (U := fun i => i = mb) (fun _ _ e => e) (fun _ _ e => e.elim); clear KK_) | (refine wpList_store_cl rfl 61 _ _ rfl (w.heap.size + 1) 0 2 _ rfl rfl rfl hB (by show 2 ≤ 2; decide) (by kernel_rfl) (by simp [Value.oneCell']) ?_; intro w9 hc9 k9 z9; clear z9; have hI9 : CL w9 (w.heap.size + 1) [.bool false, .int .i64 0] := hc9; clear hc9 hB; have d0 := hI9.c 0 _ rfl; have d1 := hI9.c 1 _ rfl))
      refine bodyPost_ret (v := .agg #[.bool (false), .int .i64 (0)]) (by rw [results_cell1 rfl]; go_simp) rfl ⟨_, _, _, _, rfl, ⟨rfl, rfl, rfl, rfl⟩, hS.keep k9 (fun e => by have e : mb = w.heap.size + 1 := e; omega), K.trans' k9 (fun _ _ e => e) (fun i hi e => by have e : i = w.heap.size + 1 := e; omega)⟩
    | false =>
      simp only [Bool.true_eq_false, Bool.false_eq_true, or_self, if_false]
      have HPU : Hid (∀ W, SV W mb n f → Calls Try.prog 35 #[.map (some mb), .int .i64 ot] W fun e w' => e = .returned (.tuple #[]) ∧ SV w' mb (upN (f ot) n) (putF f ot) ∧ Keeps (fun i => i = mb) W w') := fun W hW => putS_any hW h2 (by omega)
      have HTK : Hid (∀ W, SV W mb (upN (f ot) n) (putF f ot) → Calls Try.prog 36 #[.map (some mb), .int .i64 ky] W fun e w' => e = .returned (.agg #[.bool ((putF f ot) ky), .int .i64 0]) ∧ SV w' mb (dnN ((putF f ot) ky) (upN (f ot) n)) (delF (putF f ot) ky) ∧ Keeps (fun i => i = mb) W w') := fun W hW => take_any hW h1
      rw [hfo] at HPU HTK
      generalize hpk : (putF f ot) ky = pk at *
      go_wp2_with (first | (go_at_call 34; refine hha.mono ?_; clear hha; rintro e w2 ⟨rfl, k2⟩; have KK_ := k2; replace hB := hB.keep (by show 0 < 2; decide) KK_ (fun e => e); replace c1 := KK_.cell c1 (fun e => e); replace c2 := KK_.cell c2 (fun e => e); replace hS := hS.keep KK_ (fun e => e); replace K := K.trans' KK_ (U := fun i => i = mb) (fun _ _ e => e) (fun _ _ e => e.elim); have hh2 := HH2.out w2 hS; rw [hfo] at hh2; clear HH2 KK_) | (go_at_call 34; refine hh2.mono ?_; clear hh2; rintro e w3 ⟨rfl, KK_⟩; replace hB := hB.keep (by show 0 < 2; decide) KK_ (fun e => e); replace c1 := KK_.cell c1 (fun e => e); replace c2 := KK_.cell c2 (fun e => e); replace hS := hS.keep KK_ (fun e => e); replace K := K.trans' KK_ (U := fun i => i = mb) (fun _ _ e => e) (fun _ _ e => e.elim); have hpu := HPU.out w3 hS; clear HPU KK_) | (go_at_call 35; refine hpu.mono ?_; clear hpu; rintro e w4 ⟨rfl, hS3, KK_⟩; replace hB := hB.keep (by show 0 < 2; decide) KK_ (fun e => (by have e : w.heap.size + 1 = mb := e; omega)); replace c1 := KK_.cell c1 (fun e => (by have e : w.heap.size = mb := e; omega)); replace c2 := KK_.cell c2 (fun e => (by have e : w.heap.size = mb := e; omega)); replace K := K.trans' KK_ (U := fun i => i = mb) (fun _ _ e => e) (fun _ _ e => e); clear KK_ hS; have hS := hS3; clear hS3; have hta := HTK.out w4 hS; clear HTK) | (go_at_call 36; refine hta.mono ?_; clear hta; rintro e w5 ⟨rfl, hS3, KK_⟩; replace hB := hB.keep (by show 0 < 2; decide) KK_ (fun e => (by have e : w.heap.size + 1 = mb := e; omega)); replace c1 := KK_.cell c1 (fun e => (by have e : w.heap.size = mb := e; omega)); replace c2 := KK_.cell c2 (fun e => (by have e : w.heap.size = mb := e; omega)); replace K := K.trans' KK_ (U := fun i => i = mb) (fun _ _ e => e) (fun _ _ e => e); clear KK_ hS; have hS := hS3; clear hS3) | (refine wpList_store_cl rfl 61 _ _ rfl (w.heap.size + 1) 0 2 _ rfl rfl rfl hB (by show 2 ≤ 2; decide) (by kernel_rfl) (by simp [Value.oneCell']) ?_; intro w9 hc9 k9 z9; clear z9; have hI9 : CL w9 (w.heap.size + 1) [.bool pk, .int .i64 0] := hc9; clear hc9 hB; have d0 := hI9.c 0 _ rfl; have d1 := hI9.c 1 _ rfl))
      refine bodyPost_ret (v := .agg #[.bool (pk), .int .i64 (0)]) (by rw [results_cell1 rfl]; go_simp) rfl ⟨_, _, _, _, rfl, ⟨rfl, rfl, rfl, rfl⟩, hS.keep k9 (fun e => by have e : mb = w.heap.size + 1 := e; omega), K.trans' k9 (fun _ _ e => e) (fun i hi e => by have e : i = w.heap.size + 1 := e; omega)⟩
end Go.Proofs.Ytgcfckbmmdajhaa
