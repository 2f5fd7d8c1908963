import Derived.Test.YtdpnknleobobkaaGreatDoorXfB
import Derived.Test.YtdpnknleobobkaaGreatDoorXcF
namespace Go.Proofs.YtdpnknleobobkaaGreatDoor
open Go.RowKit Go.ChangeShapes Go.WideShapes Go.ChangeAt Go.Deep
attribute [local go_sem] Oper.semAt_some run_store_nf run_store_f
set_option maxHeartbeats 1500000 in
set_option maxRecDepth 100000 in
theorem sx_asg {w : Bs} {a : Tr} (hw : isNm w = true) (ha : WfE a) (hza : bgE a ≤ 1048576) : TS (.mk 1 w a tr0 [] []) := by
  intro W B b0 o T hG h hn hd
  obtain ⟨pt, ct, pe, ce, hc⟩ := h.cells
  have c0 := hc.c0
  have c1 := hc.c1
  have c10 := hc.c10
  have c11 := hc.c11
  have hTA := fun W1 (k : Keeps (fun _ => False) W W1) => text_all ha hza W1 B b0 (o + 2) (hG.keep k) (hc.xa.keep k (fun _ _ e => e))
  have hLA := pE_len ha
  obtain ⟨A, hA⟩ : ∃ A, A = bs (pE a) := ⟨_, rfl⟩
  have hzA : A.size ≤ 100000000 := by rw [hA, bs_size]; omega
  simp only [← hA] at hTA
  obtain ⟨s, hs⟩ : ∃ s, s = bs w := ⟨_, rfl⟩
  have hsz : s.size ≤ 16 := by
    obtain ⟨x, y, e, -, -, h3⟩ := (nm_wd hw).1
    rw [hs, bs_size]; exact h3
  rw [← hs] at c1
  have fin : (s ++ ⟨#[32, 58, 61, 32]⟩ ++ A ++ ⟨#[59]⟩ : ByteArray) = bs (pS T (.mk 1 w a tr0 [] [])) := bs_ext (by rw [app_bl, app_bl, app_bl, hA, hs, pS, if_pos rfl, bs_list, bs_list]; simp)
  rw [← fin]
  generalize bs T = t at *
  clear fin hA hs hLA hc h hG hn hd hw
  have n0 : ¬ (9223372036854775807 < s.size + 4) := by omega
  have m0 : ¬ (s.size + 4 > 9223372036854775807) := by omega
  have n1 : ¬ (9223372036854775807 < s.size + 4 + A.size) := by omega
  have m1 : ¬ (s.size + 4 + A.size > 9223372036854775807) := by omega
  have n2 : ¬ (9223372036854775807 < s.size + 4 + A.size + 1) := by omega
  have m2 : ¬ (s.size + 4 + A.size + 1 > 9223372036854775807) := by omega
  go_enter Tryz.func25, Tryz.ntmps25
  go_wp2_with fail
  rename_i K hK
  have hKI : Hid _ := hK
  clear hK
  refine wp_region_held_drew (S := fun w' => Keeps (fun _ => False) W w') (by kernel_rfl) (Keeps.refl _ W).drew (fun hHeld => ?_)
  refine wpAnyH_take (i := 0) (v := ?_) rfl (by kernel_rfl) (by kernel_rfl) (by kernel_rfl) (fun _ _ _ h => h) (Or.inl ⟨by rfl, ?_⟩) (by assumption) ?_
  rotate_left
  · intro wx hSw; have p0 := hSw.cell c0 (fun e => e); have p1 := hSw.cell c1 (fun e => e); have p10 := hSw.cell c10 (fun e => e); have p11 := hSw.cell c11 (fun e => e); clear hSw; go_simp <;> with_reducible rfl
  (try simp only [List.getElem_toArray]); (try simp only [List.getElem_cons_succ]); (try simp only [List.getElem_cons_zero]); (try simp only [Act.put]); (try simp only [List.setIfInBounds_toArray]); (repeat first | simp only [List.set_cons_succ] | simp only [List.set_cons_zero])
  refine wpAnyH_take (i := 1) (v := ?_) rfl (by kernel_rfl) (by kernel_rfl) (by kernel_rfl) (fun _ _ _ h => h) (Or.inl ⟨by rfl, ?_⟩) (by assumption) ?_
  rotate_left
  · intro wx hSw; have p0 := hSw.cell c0 (fun e => e); have p1 := hSw.cell c1 (fun e => e); have p10 := hSw.cell c10 (fun e => e); have p11 := hSw.cell c11 (fun e => e); clear hSw; go_simp <;> with_reducible rfl
  (try simp only [List.getElem_toArray]); (try simp only [List.getElem_cons_succ]); (try simp only [List.getElem_cons_zero]); (try simp only [Act.put]); (try simp only [List.setIfInBounds_toArray]); (repeat first | simp only [List.set_cons_succ] | simp only [List.set_cons_zero])
  refine wpAnyH_take (i := 2) (v := ?_) rfl (by kernel_rfl) (by kernel_rfl) (by kernel_rfl) (fun _ _ _ h => h) (Or.inl ⟨by rfl, ?_⟩) (by assumption) ?_
  rotate_left
  · intro wx hSw; have p0 := hSw.cell c0 (fun e => e); have p1 := hSw.cell c1 (fun e => e); have p10 := hSw.cell c10 (fun e => e); have p11 := hSw.cell c11 (fun e => e); clear hSw; go_simp <;> with_reducible rfl
  (try simp only [List.getElem_toArray]); (try simp only [List.getElem_cons_succ]); (try simp only [List.getElem_cons_zero]); (try simp only [Act.put]); (try simp only [List.setIfInBounds_toArray]); (repeat first | simp only [List.set_cons_succ] | simp only [List.set_cons_zero])
  refine wpAnyH_take (i := 3) (v := ?_) rfl (by kernel_rfl) (by kernel_rfl) (by kernel_rfl) (fun _ _ _ h => h) (Or.inl ⟨by rfl, ?_⟩) (by assumption) ?_
  rotate_left
  · intro wx hSw; have p0 := hSw.cell c0 (fun e => e); have p1 := hSw.cell c1 (fun e => e); have p10 := hSw.cell c10 (fun e => e); have p11 := hSw.cell c11 (fun e => e); clear hSw; go_simp <;> with_reducible rfl
  (try simp only [List.getElem_toArray]); (try simp only [List.getElem_cons_succ]); (try simp only [List.getElem_cons_zero]); (try simp only [Act.put]); (try simp only [List.setIfInBounds_toArray]); (repeat first | simp only [List.set_cons_succ] | simp only [List.set_cons_zero])
  refine wpAnyH_take (i := 4) (v := ?_) rfl (by kernel_rfl) (by kernel_rfl) (by kernel_rfl) (fun _ _ _ h => h) (Or.inl ⟨by rfl, ?_⟩) (by assumption) ?_
  rotate_left
  · intro wx hSw; have p0 := hSw.cell c0 (fun e => e); have p1 := hSw.cell c1 (fun e => e); have p10 := hSw.cell c10 (fun e => e); have p11 := hSw.cell c11 (fun e => e); clear hSw; go_simp <;> with_reducible rfl
  (try simp only [List.getElem_toArray]); (try simp only [List.getElem_cons_succ]); (try simp only [List.getElem_cons_zero]); (try simp only [Act.put]); (try simp only [List.setIfInBounds_toArray]); (repeat first | simp only [List.set_cons_succ] | simp only [List.set_cons_zero])
  refine wpAnyH_take (i := 5) (v := ?_) rfl (by kernel_rfl) (by kernel_rfl) (by kernel_rfl) (fun _ _ _ h => h) (Or.inl ⟨by rfl, ?_⟩) (by assumption) ?_
  rotate_left
  · intro wx hSw; have p0 := hSw.cell c0 (fun e => e); have p1 := hSw.cell c1 (fun e => e); have p10 := hSw.cell c10 (fun e => e); have p11 := hSw.cell c11 (fun e => e); clear hSw; go_simp <;> with_reducible rfl
  (try simp only [List.getElem_toArray]); (try simp only [List.getElem_cons_succ]); (try simp only [List.getElem_cons_zero]); (try simp only [Act.put]); (try simp only [List.setIfInBounds_toArray]); (repeat first | simp only [List.set_cons_succ] | simp only [List.set_cons_zero])
  refine wpAnyH_take (i := 6) (v := ?_) rfl (by kernel_rfl) (by kernel_rfl) (by kernel_rfl) (fun _ _ _ h => h) (Or.inl ⟨by rfl, ?_⟩) (by assumption) ?_
  rotate_left
  · intro wx hSw; have p0 := hSw.cell c0 (fun e => e); have p1 := hSw.cell c1 (fun e => e); have p10 := hSw.cell c10 (fun e => e); have p11 := hSw.cell c11 (fun e => e); clear hSw; go_simp <;> with_reducible rfl
  (try simp only [List.getElem_toArray]); (try simp only [List.getElem_cons_succ]); (try simp only [List.getElem_cons_zero]); (try simp only [Act.put]); (try simp only [List.setIfInBounds_toArray]); (repeat first | simp only [List.set_cons_succ] | simp only [List.set_cons_zero])
  refine wpAnyH_take (i := 7) (v := ?_) rfl (by kernel_rfl) (by kernel_rfl) (by kernel_rfl) (fun _ _ _ h => h) (Or.inl ⟨by rfl, ?_⟩) (by assumption) ?_
  rotate_left
  · intro wx hSw; have p0 := hSw.cell c0 (fun e => e); have p1 := hSw.cell c1 (fun e => e); have p10 := hSw.cell c10 (fun e => e); have p11 := hSw.cell c11 (fun e => e); clear hSw; go_simp <;> with_reducible rfl
  (try simp only [List.getElem_toArray]); (try simp only [List.getElem_cons_succ]); (try simp only [List.getElem_cons_zero]); (try simp only [Act.put]); (try simp only [List.setIfInBounds_toArray]); (repeat first | simp only [List.set_cons_succ] | simp only [List.set_cons_zero])
  refine wpAnyH_one 8 (by kernel_rfl) rfl rfl ?_
  refine wp_call1 38 _  rfl _  rfl  (fun _ _ => rfl) ((hTA W.drew (Keeps.refl (fun _ => False) W).drew).mono ?_)
  rintro e v1 ⟨rfl, kv1⟩
  have k1a : Keeps (fun _ => False) W v1 := (Keeps.refl (fun _ => False) W).drew.trans kv1
  refine ⟨_, rfl, k1a, fun hS1 => ?_⟩
  (try simp only [List.getElem_toArray]); (try simp only [List.getElem_cons_succ]); (try simp only [List.getElem_cons_zero]); (try simp only [Act.put]); (try simp only [List.setIfInBounds_toArray]); (repeat first | simp only [List.set_cons_succ] | simp only [List.set_cons_zero])
  refine wpAnyH_take (i := 9) (v := ?_) rfl (by kernel_rfl) (by kernel_rfl) (by kernel_rfl) (fun _ _ _ h => h) (Or.inl ⟨by rfl, ?_⟩) (by assumption) ?_
  rotate_left
  · intro wx hSw; have p0 := hSw.cell c0 (fun e => e); have p1 := hSw.cell c1 (fun e => e); have p10 := hSw.cell c10 (fun e => e); have p11 := hSw.cell c11 (fun e => e); clear hSw; go_simp <;> with_reducible rfl
  (try simp only [List.getElem_toArray]); (try simp only [List.getElem_cons_succ]); (try simp only [List.getElem_cons_zero]); (try simp only [Act.put]); (try simp only [List.setIfInBounds_toArray]); (repeat first | simp only [List.set_cons_succ] | simp only [List.set_cons_zero])
  refine wpAnyH_take (i := 10) (v := ?_) rfl (by kernel_rfl) (by kernel_rfl) (by kernel_rfl) (fun _ _ _ h => h) (Or.inl ⟨by rfl, ?_⟩) (by assumption) ?_
  rotate_left
  · intro wx hSw; have p0 := hSw.cell c0 (fun e => e); have p1 := hSw.cell c1 (fun e => e); have p10 := hSw.cell c10 (fun e => e); have p11 := hSw.cell c11 (fun e => e); clear hSw; go_simp <;> with_reducible rfl
  (try simp only [List.getElem_toArray]); (try simp only [List.getElem_cons_succ]); (try simp only [List.getElem_cons_zero]); (try simp only [Act.put]); (try simp only [List.setIfInBounds_toArray]); (repeat first | simp only [List.set_cons_succ] | simp only [List.set_cons_zero])
  refine wpAnyH_take (i := 11) (v := ?_) rfl (by kernel_rfl) (by kernel_rfl) (by kernel_rfl) (fun _ _ _ h => h) (Or.inl ⟨by rfl, ?_⟩) (by assumption) ?_
  rotate_left
  · intro wx hSw; have p0 := hSw.cell c0 (fun e => e); have p1 := hSw.cell c1 (fun e => e); have p10 := hSw.cell c10 (fun e => e); have p11 := hSw.cell c11 (fun e => e); clear hSw; go_simp <;> with_reducible rfl
  (try simp only [List.getElem_toArray]); (try simp only [List.getElem_cons_succ]); (try simp only [List.getElem_cons_zero]); (try simp only [Act.put]); (try simp only [List.setIfInBounds_toArray]); (repeat first | simp only [List.set_cons_succ] | simp only [List.set_cons_zero])
  refine wpAnyH_done (by kernel_rfl) ?_ _
  refine hKI.out _ _ ?_
  clear hKI
  go_wp2_with fail
  go_ret
  exact ⟨rfl, k1a⟩
set_option maxHeartbeats 1500000 in
set_option maxRecDepth 100000 in
theorem sx_sto {a b : Tr} (ha : WfE a) (hza : bgE a ≤ 1048576) (hb : WfE b) (hzb : bgE b ≤ 1048576) : TS (.mk 2 [] a b [] []) := by
  intro W B b0 o T hG h hn hd
  obtain ⟨pt, ct, pe, ce, hc⟩ := h.cells
  have c0 := hc.c0
  have c1 := hc.c1
  have c10 := hc.c10
  have c11 := hc.c11
  have hTA := fun W1 (k : Keeps (fun _ => False) W W1) => text_all ha hza W1 B b0 (o + 2) (hG.keep k) (hc.xa.keep k (fun _ _ e => e))
  have hLA := pE_len ha
  obtain ⟨A, hA⟩ : ∃ A, A = bs (pE a) := ⟨_, rfl⟩
  have hzA : A.size ≤ 100000000 := by rw [hA, bs_size]; omega
  simp only [← hA] at hTA
  have hTC := fun W1 (k : Keeps (fun _ => False) W W1) => text_all hb hzb W1 B b0 (o + 6) (hG.keep k) (hc.xb.keep k (fun _ _ e => e))
  have hLC := pE_len hb
  obtain ⟨C, hC⟩ : ∃ C, C = bs (pE b) := ⟨_, rfl⟩
  have hzC : C.size ≤ 100000000 := by rw [hC, bs_size]; omega
  simp only [← hC] at hTC
  have fin : (⟨#[91]⟩ ++ A ++ ⟨#[93, 32, 58, 61, 32]⟩ ++ C ++ ⟨#[59]⟩ : ByteArray) = bs (pS T (.mk 2 [] a b [] [])) := bs_ext (by rw [app_bl, app_bl, app_bl, app_bl, hA, hC, pS, if_neg (by decide), if_pos rfl, bs_list, bs_list]; simp)
  rw [← fin]
  generalize bs T = t at *
  clear fin hA hC hLA hLC hc h hG hn hd
  have n0 : ¬ (9223372036854775807 < 1 + A.size) := by omega
  have m0 : ¬ (1 + A.size > 9223372036854775807) := by omega
  have n1 : ¬ (9223372036854775807 < 1 + A.size + 5) := by omega
  have m1 : ¬ (1 + A.size + 5 > 9223372036854775807) := by omega
  have n2 : ¬ (9223372036854775807 < 1 + A.size + 5 + C.size) := by omega
  have m2 : ¬ (1 + A.size + 5 + C.size > 9223372036854775807) := by omega
  have n3 : ¬ (9223372036854775807 < 1 + A.size + 5 + C.size + 1) := by omega
  have m3 : ¬ (1 + A.size + 5 + C.size + 1 > 9223372036854775807) := by omega
  go_enter Tryz.func25, Tryz.ntmps25
  go_wp2_with fail
  rename_i K hK
  have hKI : Hid _ := hK
  clear hK
  refine wp_region_held_drew (S := fun w' => Keeps (fun _ => False) W w') (by kernel_rfl) (Keeps.refl _ W).drew (fun hHeld => ?_)
  refine wpAnyH_take (i := 0) (v := ?_) rfl (by kernel_rfl) (by kernel_rfl) (by kernel_rfl) (fun _ _ _ h => h) (Or.inl ⟨by rfl, ?_⟩) (by assumption) ?_
  rotate_left
  · intro wx hSw; have p0 := hSw.cell c0 (fun e => e); have p1 := hSw.cell c1 (fun e => e); have p10 := hSw.cell c10 (fun e => e); have p11 := hSw.cell c11 (fun e => e); clear hSw; go_simp <;> with_reducible rfl
  (try simp only [List.getElem_toArray]); (try simp only [List.getElem_cons_succ]); (try simp only [List.getElem_cons_zero]); (try simp only [Act.put]); (try simp only [List.setIfInBounds_toArray]); (repeat first | simp only [List.set_cons_succ] | simp only [List.set_cons_zero])
  refine wpAnyH_take (i := 1) (v := ?_) rfl (by kernel_rfl) (by kernel_rfl) (by kernel_rfl) (fun _ _ _ h => h) (Or.inl ⟨by rfl, ?_⟩) (by assumption) ?_
  rotate_left
  · intro wx hSw; have p0 := hSw.cell c0 (fun e => e); have p1 := hSw.cell c1 (fun e => e); have p10 := hSw.cell c10 (fun e => e); have p11 := hSw.cell c11 (fun e => e); clear hSw; go_simp <;> with_reducible rfl
  (try simp only [List.getElem_toArray]); (try simp only [List.getElem_cons_succ]); (try simp only [List.getElem_cons_zero]); (try simp only [Act.put]); (try simp only [List.setIfInBounds_toArray]); (repeat first | simp only [List.set_cons_succ] | simp only [List.set_cons_zero])
  refine wpAnyH_take (i := 2) (v := ?_) rfl (by kernel_rfl) (by kernel_rfl) (by kernel_rfl) (fun _ _ _ h => h) (Or.inl ⟨by rfl, ?_⟩) (by assumption) ?_
  rotate_left
  · intro wx hSw; have p0 := hSw.cell c0 (fun e => e); have p1 := hSw.cell c1 (fun e => e); have p10 := hSw.cell c10 (fun e => e); have p11 := hSw.cell c11 (fun e => e); clear hSw; go_simp <;> with_reducible rfl
  (try simp only [List.getElem_toArray]); (try simp only [List.getElem_cons_succ]); (try simp only [List.getElem_cons_zero]); (try simp only [Act.put]); (try simp only [List.setIfInBounds_toArray]); (repeat first | simp only [List.set_cons_succ] | simp only [List.set_cons_zero])
  refine wpAnyH_take (i := 6) (v := ?_) rfl (by kernel_rfl) (by kernel_rfl) (by kernel_rfl) (fun _ _ _ h => h) (Or.inl ⟨by rfl, ?_⟩) (by assumption) ?_
  rotate_left
  · intro wx hSw; have p0 := hSw.cell c0 (fun e => e); have p1 := hSw.cell c1 (fun e => e); have p10 := hSw.cell c10 (fun e => e); have p11 := hSw.cell c11 (fun e => e); clear hSw; go_simp <;> with_reducible rfl
  (try simp only [List.getElem_toArray]); (try simp only [List.getElem_cons_succ]); (try simp only [List.getElem_cons_zero]); (try simp only [Act.put]); (try simp only [List.setIfInBounds_toArray]); (repeat first | simp only [List.set_cons_succ] | simp only [List.set_cons_zero])
  refine wpAnyH_take (i := 7) (v := ?_) rfl (by kernel_rfl) (by kernel_rfl) (by kernel_rfl) (fun _ _ _ h => h) (Or.inl ⟨by rfl, ?_⟩) (by assumption) ?_
  rotate_left
  · intro wx hSw; have p0 := hSw.cell c0 (fun e => e); have p1 := hSw.cell c1 (fun e => e); have p10 := hSw.cell c10 (fun e => e); have p11 := hSw.cell c11 (fun e => e); clear hSw; go_simp <;> with_reducible rfl
  (try simp only [List.getElem_toArray]); (try simp only [List.getElem_cons_succ]); (try simp only [List.getElem_cons_zero]); (try simp only [Act.put]); (try simp only [List.setIfInBounds_toArray]); (repeat first | simp only [List.set_cons_succ] | simp only [List.set_cons_zero])
  refine wpAnyH_take (i := 8) (v := ?_) rfl (by kernel_rfl) (by kernel_rfl) (by kernel_rfl) (fun _ _ _ h => h) (Or.inl ⟨by rfl, ?_⟩) (by assumption) ?_
  rotate_left
  · intro wx hSw; have p0 := hSw.cell c0 (fun e => e); have p1 := hSw.cell c1 (fun e => e); have p10 := hSw.cell c10 (fun e => e); have p11 := hSw.cell c11 (fun e => e); clear hSw; go_simp <;> with_reducible rfl
  (try simp only [List.getElem_toArray]); (try simp only [List.getElem_cons_succ]); (try simp only [List.getElem_cons_zero]); (try simp only [Act.put]); (try simp only [List.setIfInBounds_toArray]); (repeat first | simp only [List.set_cons_succ] | simp only [List.set_cons_zero])
  refine wpAnyH_one 3 (by kernel_rfl) rfl rfl ?_
  refine wp_call1 38 _  rfl _  rfl  (fun _ _ => rfl) ((hTA W.drew (Keeps.refl (fun _ => False) W).drew).mono ?_)
  rintro e v1 ⟨rfl, kv1⟩
  have k1a : Keeps (fun _ => False) W v1 := (Keeps.refl (fun _ => False) W).drew.trans kv1
  refine ⟨_, rfl, k1a, fun hS1 => ?_⟩
  (try simp only [List.getElem_toArray]); (try simp only [List.getElem_cons_succ]); (try simp only [List.getElem_cons_zero]); (try simp only [Act.put]); (try simp only [List.setIfInBounds_toArray]); (repeat first | simp only [List.set_cons_succ] | simp only [List.set_cons_zero])
  refine wpAnyH_take (i := 4) (v := ?_) rfl (by kernel_rfl) (by kernel_rfl) (by kernel_rfl) (fun _ _ _ h => h) (Or.inl ⟨by rfl, ?_⟩) (by assumption) ?_
  rotate_left
  · intro wx hSw; have p0 := hSw.cell c0 (fun e => e); have p1 := hSw.cell c1 (fun e => e); have p10 := hSw.cell c10 (fun e => e); have p11 := hSw.cell c11 (fun e => e); clear hSw; go_simp <;> with_reducible rfl
  (try simp only [List.getElem_toArray]); (try simp only [List.getElem_cons_succ]); (try simp only [List.getElem_cons_zero]); (try simp only [Act.put]); (try simp only [List.setIfInBounds_toArray]); (repeat first | simp only [List.set_cons_succ] | simp only [List.set_cons_zero])
  refine wpAnyH_take (i := 5) (v := ?_) rfl (by kernel_rfl) (by kernel_rfl) (by kernel_rfl) (fun _ _ _ h => h) (Or.inl ⟨by rfl, ?_⟩) (by assumption) ?_
  rotate_left
  · intro wx hSw; have p0 := hSw.cell c0 (fun e => e); have p1 := hSw.cell c1 (fun e => e); have p10 := hSw.cell c10 (fun e => e); have p11 := hSw.cell c11 (fun e => e); clear hSw; go_simp <;> with_reducible rfl
  (try simp only [List.getElem_toArray]); (try simp only [List.getElem_cons_succ]); (try simp only [List.getElem_cons_zero]); (try simp only [Act.put]); (try simp only [List.setIfInBounds_toArray]); (repeat first | simp only [List.set_cons_succ] | simp only [List.set_cons_zero])
  refine wpAnyH_one 9 (by kernel_rfl) rfl rfl ?_
  refine wp_call1 38 _  rfl _  rfl  (fun _ _ => rfl) ((hTC v1 k1a).mono ?_)
  rintro e v2 ⟨rfl, kv2⟩
  have k2a : Keeps (fun _ => False) W v2 := k1a.trans kv2
  refine ⟨_, rfl, k2a, fun hS2 => ?_⟩
  (try simp only [List.getElem_toArray]); (try simp only [List.getElem_cons_succ]); (try simp only [List.getElem_cons_zero]); (try simp only [Act.put]); (try simp only [List.setIfInBounds_toArray]); (repeat first | simp only [List.set_cons_succ] | simp only [List.set_cons_zero])
  refine wpAnyH_take (i := 10) (v := ?_) rfl (by kernel_rfl) (by kernel_rfl) (by kernel_rfl) (fun _ _ _ h => h) (Or.inl ⟨by rfl, ?_⟩) (by assumption) ?_
  rotate_left
  · intro wx hSw; have p0 := hSw.cell c0 (fun e => e); have p1 := hSw.cell c1 (fun e => e); have p10 := hSw.cell c10 (fun e => e); have p11 := hSw.cell c11 (fun e => e); clear hSw; go_simp <;> with_reducible rfl
  (try simp only [List.getElem_toArray]); (try simp only [List.getElem_cons_succ]); (try simp only [List.getElem_cons_zero]); (try simp only [Act.put]); (try simp only [List.setIfInBounds_toArray]); (repeat first | simp only [List.set_cons_succ] | simp only [List.set_cons_zero])
  refine wpAnyH_take (i := 11) (v := ?_) rfl (by kernel_rfl) (by kernel_rfl) (by kernel_rfl) (fun _ _ _ h => h) (Or.inl ⟨by rfl, ?_⟩) (by assumption) ?_
  rotate_left
  · intro wx hSw; have p0 := hSw.cell c0 (fun e => e); have p1 := hSw.cell c1 (fun e => e); have p10 := hSw.cell c10 (fun e => e); have p11 := hSw.cell c11 (fun e => e); clear hSw; go_simp <;> with_reducible rfl
  (try simp only [List.getElem_toArray]); (try simp only [List.getElem_cons_succ]); (try simp only [List.getElem_cons_zero]); (try simp only [Act.put]); (try simp only [List.setIfInBounds_toArray]); (repeat first | simp only [List.set_cons_succ] | simp only [List.set_cons_zero])
  refine wpAnyH_take (i := 12) (v := ?_) rfl (by kernel_rfl) (by kernel_rfl) (by kernel_rfl) (fun _ _ _ h => h) (Or.inl ⟨by rfl, ?_⟩) (by assumption) ?_
  rotate_left
  · intro wx hSw; have p0 := hSw.cell c0 (fun e => e); have p1 := hSw.cell c1 (fun e => e); have p10 := hSw.cell c10 (fun e => e); have p11 := hSw.cell c11 (fun e => e); clear hSw; go_simp <;> with_reducible rfl
  (try simp only [List.getElem_toArray]); (try simp only [List.getElem_cons_succ]); (try simp only [List.getElem_cons_zero]); (try simp only [Act.put]); (try simp only [List.setIfInBounds_toArray]); (repeat first | simp only [List.set_cons_succ] | simp only [List.set_cons_zero])
  refine wpAnyH_done (by kernel_rfl) ?_ _
  refine hKI.out _ _ ?_
  clear hKI
  go_wp2_with fail
  go_ret
  exact ⟨rfl, k2a⟩
set_option maxHeartbeats 1500000 in
set_option maxRecDepth 100000 in
theorem sx_rel {a : Tr} (ha : WfE a) (hza : bgE a ≤ 1048576) : TS (.mk 3 [] a tr0 [] []) := by
  intro W B b0 o T hG h hn hd
  obtain ⟨pt, ct, pe, ce, hc⟩ := h.cells
  have c0 := hc.c0
  have c1 := hc.c1
  have c10 := hc.c10
  have c11 := hc.c11
  have hTA := fun W1 (k : Keeps (fun _ => False) W W1) => text_all ha hza W1 B b0 (o + 2) (hG.keep k) (hc.xa.keep k (fun _ _ e => e))
  have hLA := pE_len ha
  obtain ⟨A, hA⟩ : ∃ A, A = bs (pE a) := ⟨_, rfl⟩
  have hzA : A.size ≤ 100000000 := by rw [hA, bs_size]; omega
  simp only [← hA] at hTA
  have fin : (⟨#[114, 101, 108, 101, 97, 115, 101, 32, 91]⟩ ++ A ++ ⟨#[93, 59]⟩ : ByteArray) = bs (pS T (.mk 3 [] a tr0 [] [])) := bs_ext (by rw [app_bl, app_bl, hA, pS, if_neg (by decide), if_neg (by decide), if_pos rfl, bs_list]; simp [kRel])
  rw [← fin]
  have hT1 := hTA W (Keeps.refl _ W)
  generalize bs T = t at *
  clear fin hA hLA hc h hG hn hd hTA
  have n0 : ¬ (9223372036854775807 < 9 + A.size) := by omega
  have m0 : ¬ (9 + A.size > 9223372036854775807) := by omega
  have n1 : ¬ (9223372036854775807 < 9 + A.size + 2) := by omega
  have m1 : ¬ (9 + A.size + 2 > 9223372036854775807) := by omega
  go_enter Tryz.func25, Tryz.ntmps25
  go_wp2_with (go_at_call 38; refine hT1.mono ?_; clear hT1; rintro e w1 ⟨rfl, k1⟩)
  go_ret
  exact ⟨rfl, k1⟩
set_option maxHeartbeats 1500000 in
set_option maxRecDepth 100000 in
theorem sx_ret {a : Tr} (ha : WfE a) (hza : bgE a ≤ 1048576) : TS (.mk 7 [] a tr0 [] []) := by
  intro W B b0 o T hG h hn hd
  obtain ⟨pt, ct, pe, ce, hc⟩ := h.cells
  have c0 := hc.c0
  have c1 := hc.c1
  have c10 := hc.c10
  have c11 := hc.c11
  have hTA := fun W1 (k : Keeps (fun _ => False) W W1) => text_all ha hza W1 B b0 (o + 2) (hG.keep k) (hc.xa.keep k (fun _ _ e => e))
  have hLA := pE_len ha
  obtain ⟨A, hA⟩ : ∃ A, A = bs (pE a) := ⟨_, rfl⟩
  have hzA : A.size ≤ 100000000 := by rw [hA, bs_size]; omega
  simp only [← hA] at hTA
  have fin : (⟨#[114, 101, 116, 117, 114, 110, 32]⟩ ++ A ++ ⟨#[59]⟩ : ByteArray) = bs (pS T (.mk 7 [] a tr0 [] [])) := bs_ext (by rw [app_bl, app_bl, hA, pS, if_neg (by decide), if_neg (by decide), if_neg (by decide), if_neg (by decide), if_neg (by decide), if_neg (by decide), bs_list]; simp [kRet])
  rw [← fin]
  have hT1 := hTA W (Keeps.refl _ W)
  generalize bs T = t at *
  clear fin hA hLA hc h hG hn hd hTA
  have n0 : ¬ (9223372036854775807 < 7 + A.size) := by omega
  have m0 : ¬ (7 + A.size > 9223372036854775807) := by omega
  have n1 : ¬ (9223372036854775807 < 7 + A.size + 1) := by omega
  have m1 : ¬ (7 + A.size + 1 > 9223372036854775807) := by omega
  go_enter Tryz.func25, Tryz.ntmps25
  go_wp2_with (go_at_call 38; refine hT1.mono ?_; clear hT1; rintro e w1 ⟨rfl, k1⟩)
  go_ret
  exact ⟨rfl, k1⟩
set_option maxHeartbeats 1500000 in
set_option maxRecDepth 100000 in
theorem sx_abo  : TS (.mk 6 [] tr0 tr0 [] []) := by
  intro W B b0 o T hG h hn hd
  obtain ⟨pt, ct, pe, ce, hc⟩ := h.cells
  have c0 := hc.c0
  have c1 := hc.c1
  have c10 := hc.c10
  have c11 := hc.c11
  have fin : (⟨#[97, 98, 111, 114, 116, 59]⟩ : ByteArray) = bs (pS T (.mk 6 [] tr0 tr0 [] [])) := bs_ext (by rw [pS, if_neg (by decide), if_neg (by decide), if_neg (by decide), if_neg (by decide), if_neg (by decide), if_pos rfl]; rfl)
  rw [← fin]
  generalize bs T = t at *
  clear fin hc h hG hn hd
  go_enter Tryz.func25, Tryz.ntmps25
  go_wp2_with fail
  go_ret
  exact ⟨rfl, Keeps.refl _ _⟩
set_option maxHeartbeats 1500000 in
set_option maxRecDepth 100000 in
theorem sx_whl {a : Tr} {th : List St} (ha : WfE a) (hza : bgE a ≤ 1048576) (hN : TN th) (hL : LnL th) : TS (.mk 5 [] a tr0 th []) := by
  intro W B b0 o T hG h hn hd
  obtain ⟨pt, ct, pe, ce, hc⟩ := h.cells
  have c0 := hc.c0
  have c1 := hc.c1
  have c10 := hc.c10
  have c11 := hc.c11
  have hTA := fun W1 (k : Keeps (fun _ => False) W W1) => text_all ha hza W1 B b0 (o + 2) (hG.keep k) (hc.xa.keep k (fun _ _ e => e))
  have hLA := pE_len ha
  obtain ⟨A, hA⟩ : ∃ A, A = bs (pE a) := ⟨_, rfl⟩
  have hzA : A.size ≤ 100000000 := by rw [hA, bs_size]; omega
  simp only [← hA] at hTA
  have e : szS (.mk 5 [] a tr0 th []) = (max (szE a).1 (szSL th).1 + 1, min ((szE a).2 + (szSL th).2 + 1) 513) := by
    rw [szS, if_pos (by unfold okS; simp [usW, usA, usB, usT, usE, isZr, tr0]), szSL, if_pos (by decide), if_neg (by decide), wth_zero', wth_zero', und]; rfl
  rw [e] at hn hd
  simp only at hn hd
  have hlB := hL (T ++ [9]) (by omega) (by rw [List.length_append]; show T.length + 1 + _ ≤ 24; omega)
  have hB := fun W1 (k : Keeps (fun _ => False) W W1) => block_any hN hL (W := W1) (T := T) (hG.keep k) (hc.t.keep k) (by omega) (by omega)
  obtain ⟨C, hC⟩ : ∃ C, C = bs (pB T th) := ⟨_, rfl⟩
  have hzC : C.size ≤ 100000000 := by rw [hC, bs_size]; unfold pB; simp at hlB ⊢; omega
  simp only [← hC] at hB
  have fin : (⟨#[119, 104, 105, 108, 101, 32]⟩ ++ A ++ ⟨#[32]⟩ ++ C : ByteArray) = bs (pS T (.mk 5 [] a tr0 th [])) := bs_ext (by rw [app_bl, app_bl, app_bl, hA, hC, pS, if_neg (by decide), if_neg (by decide), if_neg (by decide), if_neg (by decide), if_pos rfl, bs_list, bs_list]; unfold pB; simp [kWhile])
  rw [← fin]
  obtain ⟨n, hn2⟩ : ∃ n, n = th.length := ⟨_, rfl⟩
  rw [← hn2] at c10 hB
  generalize bs T = t at *
  clear fin hA hC hLA hlB hc h hG hn hd e hn2 hN hL
  have n0 : ¬ (9223372036854775807 < 6 + A.size) := by omega
  have m0 : ¬ (6 + A.size > 9223372036854775807) := by omega
  have n1 : ¬ (9223372036854775807 < 6 + A.size + 1) := by omega
  have m1 : ¬ (6 + A.size + 1 > 9223372036854775807) := by omega
  have n2 : ¬ (9223372036854775807 < 6 + A.size + 1 + C.size) := by omega
  have m2 : ¬ (6 + A.size + 1 + C.size > 9223372036854775807) := by omega
  go_enter Tryz.func25, Tryz.ntmps25
  go_wp2_with fail
  rename_i K hK
  have hKI : Hid _ := hK
  clear hK
  refine wp_region_held_drew (S := fun w' => Keeps (fun _ => False) W w') (by kernel_rfl) (Keeps.refl _ W).drew (fun hHeld => ?_)
  refine wpAnyH_take (i := 0) (v := ?_) rfl (by kernel_rfl) (by kernel_rfl) (by kernel_rfl) (fun _ _ _ h => h) (Or.inl ⟨by rfl, ?_⟩) (by assumption) ?_
  rotate_left
  · intro wx hSw; have p0 := hSw.cell c0 (fun e => e); have p1 := hSw.cell c1 (fun e => e); have p10 := hSw.cell c10 (fun e => e); have p11 := hSw.cell c11 (fun e => e); clear hSw; go_simp <;> with_reducible rfl
  (try simp only [List.getElem_toArray]); (try simp only [List.getElem_cons_succ]); (try simp only [List.getElem_cons_zero]); (try simp only [Act.put]); (try simp only [List.setIfInBounds_toArray]); (repeat first | simp only [List.set_cons_succ] | simp only [List.set_cons_zero])
  refine wpAnyH_take (i := 1) (v := ?_) rfl (by kernel_rfl) (by kernel_rfl) (by kernel_rfl) (fun _ _ _ h => h) (Or.inl ⟨by rfl, ?_⟩) (by assumption) ?_
  rotate_left
  · intro wx hSw; have p0 := hSw.cell c0 (fun e => e); have p1 := hSw.cell c1 (fun e => e); have p10 := hSw.cell c10 (fun e => e); have p11 := hSw.cell c11 (fun e => e); clear hSw; go_simp <;> with_reducible rfl
  (try simp only [List.getElem_toArray]); (try simp only [List.getElem_cons_succ]); (try simp only [List.getElem_cons_zero]); (try simp only [Act.put]); (try simp only [List.setIfInBounds_toArray]); (repeat first | simp only [List.set_cons_succ] | simp only [List.set_cons_zero])
  refine wpAnyH_take (i := 2) (v := ?_) rfl (by kernel_rfl) (by kernel_rfl) (by kernel_rfl) (fun _ _ _ h => h) (Or.inl ⟨by rfl, ?_⟩) (by assumption) ?_
  rotate_left
  · intro wx hSw; have p0 := hSw.cell c0 (fun e => e); have p1 := hSw.cell c1 (fun e => e); have p10 := hSw.cell c10 (fun e => e); have p11 := hSw.cell c11 (fun e => e); clear hSw; go_simp <;> with_reducible rfl
  (try simp only [List.getElem_toArray]); (try simp only [List.getElem_cons_succ]); (try simp only [List.getElem_cons_zero]); (try simp only [Act.put]); (try simp only [List.setIfInBounds_toArray]); (repeat first | simp only [List.set_cons_succ] | simp only [List.set_cons_zero])
  refine wpAnyH_take (i := 6) (v := ?_) rfl (by kernel_rfl) (by kernel_rfl) (by kernel_rfl) (fun _ _ _ h => h) (Or.inl ⟨by rfl, ?_⟩) (by assumption) ?_
  rotate_left
  · intro wx hSw; have p0 := hSw.cell c0 (fun e => e); have p1 := hSw.cell c1 (fun e => e); have p10 := hSw.cell c10 (fun e => e); have p11 := hSw.cell c11 (fun e => e); clear hSw; go_simp <;> with_reducible rfl
  (try simp only [List.getElem_toArray]); (try simp only [List.getElem_cons_succ]); (try simp only [List.getElem_cons_zero]); (try simp only [Act.put]); (try simp only [List.setIfInBounds_toArray]); (repeat first | simp only [List.set_cons_succ] | simp only [List.set_cons_zero])
  refine wpAnyH_take (i := 7) (v := ?_) rfl (by kernel_rfl) (by kernel_rfl) (by kernel_rfl) (fun _ _ _ h => h) (Or.inl ⟨by rfl, ?_⟩) (by assumption) ?_
  rotate_left
  · intro wx hSw; have p0 := hSw.cell c0 (fun e => e); have p1 := hSw.cell c1 (fun e => e); have p10 := hSw.cell c10 (fun e => e); have p11 := hSw.cell c11 (fun e => e); clear hSw; go_simp <;> with_reducible rfl
  (try simp only [List.getElem_toArray]); (try simp only [List.getElem_cons_succ]); (try simp only [List.getElem_cons_zero]); (try simp only [Act.put]); (try simp only [List.setIfInBounds_toArray]); (repeat first | simp only [List.set_cons_succ] | simp only [List.set_cons_zero])
  refine wpAnyH_take (i := 8) (v := ?_) rfl (by kernel_rfl) (by kernel_rfl) (by kernel_rfl) (fun _ _ _ h => h) (Or.inl ⟨by rfl, ?_⟩) (by assumption) ?_
  rotate_left
  · intro wx hSw; have p0 := hSw.cell c0 (fun e => e); have p1 := hSw.cell c1 (fun e => e); have p10 := hSw.cell c10 (fun e => e); have p11 := hSw.cell c11 (fun e => e); clear hSw; go_simp <;> with_reducible rfl
  (try simp only [List.getElem_toArray]); (try simp only [List.getElem_cons_succ]); (try simp only [List.getElem_cons_zero]); (try simp only [Act.put]); (try simp only [List.setIfInBounds_toArray]); (repeat first | simp only [List.set_cons_succ] | simp only [List.set_cons_zero])
  refine wpAnyH_take (i := 9) (v := ?_) rfl (by kernel_rfl) (by kernel_rfl) (by kernel_rfl) (fun _ _ _ h => h) (Or.inl ⟨by rfl, ?_⟩) (by assumption) ?_
  rotate_left
  · intro wx hSw; have p0 := hSw.cell c0 (fun e => e); have p1 := hSw.cell c1 (fun e => e); have p10 := hSw.cell c10 (fun e => e); have p11 := hSw.cell c11 (fun e => e); clear hSw; go_simp <;> with_reducible rfl
  (try simp only [List.getElem_toArray]); (try simp only [List.getElem_cons_succ]); (try simp only [List.getElem_cons_zero]); (try simp only [Act.put]); (try simp only [List.setIfInBounds_toArray]); (repeat first | simp only [List.set_cons_succ] | simp only [List.set_cons_zero])
  refine wpAnyH_take (i := 10) (v := ?_) rfl (by kernel_rfl) (by kernel_rfl) (by kernel_rfl) (fun _ _ _ h => h) (Or.inl ⟨by rfl, ?_⟩) (by assumption) ?_
  rotate_left
  · intro wx hSw; have p0 := hSw.cell c0 (fun e => e); have p1 := hSw.cell c1 (fun e => e); have p10 := hSw.cell c10 (fun e => e); have p11 := hSw.cell c11 (fun e => e); clear hSw; go_simp <;> with_reducible rfl
  (try simp only [List.getElem_toArray]); (try simp only [List.getElem_cons_succ]); (try simp only [List.getElem_cons_zero]); (try simp only [Act.put]); (try simp only [List.setIfInBounds_toArray]); (repeat first | simp only [List.set_cons_succ] | simp only [List.set_cons_zero])
  refine wpAnyH_one 3 (by kernel_rfl) rfl rfl ?_
  refine wp_call1 38 _  rfl _  rfl  (fun _ _ => rfl) ((hTA W.drew (Keeps.refl (fun _ => False) W).drew).mono ?_)
  rintro e v1 ⟨rfl, kv1⟩
  have k1a : Keeps (fun _ => False) W v1 := (Keeps.refl (fun _ => False) W).drew.trans kv1
  refine ⟨_, rfl, k1a, fun hS1 => ?_⟩
  (try simp only [List.getElem_toArray]); (try simp only [List.getElem_cons_succ]); (try simp only [List.getElem_cons_zero]); (try simp only [Act.put]); (try simp only [List.setIfInBounds_toArray]); (repeat first | simp only [List.set_cons_succ] | simp only [List.set_cons_zero])
  refine wpAnyH_take (i := 4) (v := ?_) rfl (by kernel_rfl) (by kernel_rfl) (by kernel_rfl) (fun _ _ _ h => h) (Or.inl ⟨by rfl, ?_⟩) (by assumption) ?_
  rotate_left
  · intro wx hSw; have p0 := hSw.cell c0 (fun e => e); have p1 := hSw.cell c1 (fun e => e); have p10 := hSw.cell c10 (fun e => e); have p11 := hSw.cell c11 (fun e => e); clear hSw; go_simp <;> with_reducible rfl
  (try simp only [List.getElem_toArray]); (try simp only [List.getElem_cons_succ]); (try simp only [List.getElem_cons_zero]); (try simp only [Act.put]); (try simp only [List.setIfInBounds_toArray]); (repeat first | simp only [List.set_cons_succ] | simp only [List.set_cons_zero])
  refine wpAnyH_take (i := 5) (v := ?_) rfl (by kernel_rfl) (by kernel_rfl) (by kernel_rfl) (fun _ _ _ h => h) (Or.inl ⟨by rfl, ?_⟩) (by assumption) ?_
  rotate_left
  · intro wx hSw; have p0 := hSw.cell c0 (fun e => e); have p1 := hSw.cell c1 (fun e => e); have p10 := hSw.cell c10 (fun e => e); have p11 := hSw.cell c11 (fun e => e); clear hSw; go_simp <;> with_reducible rfl
  (try simp only [List.getElem_toArray]); (try simp only [List.getElem_cons_succ]); (try simp only [List.getElem_cons_zero]); (try simp only [Act.put]); (try simp only [List.setIfInBounds_toArray]); (repeat first | simp only [List.set_cons_succ] | simp only [List.set_cons_zero])
  refine wpAnyH_one 11 (by kernel_rfl) rfl rfl ?_
  refine wp_call2 39 _ _  rfl _ _  rfl rfl  (fun _ _ => rfl) ((hB v1 k1a).mono ?_)
  rintro e v2 ⟨rfl, kv2⟩
  have k2a : Keeps (fun _ => False) W v2 := k1a.trans kv2
  refine ⟨_, rfl, k2a, fun hS2 => ?_⟩
  (try simp only [List.getElem_toArray]); (try simp only [List.getElem_cons_succ]); (try simp only [List.getElem_cons_zero]); (try simp only [Act.put]); (try simp only [List.setIfInBounds_toArray]); (repeat first | simp only [List.set_cons_succ] | simp only [List.set_cons_zero])
  refine wpAnyH_take (i := 12) (v := ?_) rfl (by kernel_rfl) (by kernel_rfl) (by kernel_rfl) (fun _ _ _ h => h) (Or.inl ⟨by rfl, ?_⟩) (by assumption) ?_
  rotate_left
  · intro wx hSw; have p0 := hSw.cell c0 (fun e => e); have p1 := hSw.cell c1 (fun e => e); have p10 := hSw.cell c10 (fun e => e); have p11 := hSw.cell c11 (fun e => e); clear hSw; go_simp <;> with_reducible rfl
  (try simp only [List.getElem_toArray]); (try simp only [List.getElem_cons_succ]); (try simp only [List.getElem_cons_zero]); (try simp only [Act.put]); (try simp only [List.setIfInBounds_toArray]); (repeat first | simp only [List.set_cons_succ] | simp only [List.set_cons_zero])
  refine wpAnyH_take (i := 13) (v := ?_) rfl (by kernel_rfl) (by kernel_rfl) (by kernel_rfl) (fun _ _ _ h => h) (Or.inl ⟨by rfl, ?_⟩) (by assumption) ?_
  rotate_left
  · intro wx hSw; have p0 := hSw.cell c0 (fun e => e); have p1 := hSw.cell c1 (fun e => e); have p10 := hSw.cell c10 (fun e => e); have p11 := hSw.cell c11 (fun e => e); clear hSw; go_simp <;> with_reducible rfl
  (try simp only [List.getElem_toArray]); (try simp only [List.getElem_cons_succ]); (try simp only [List.getElem_cons_zero]); (try simp only [Act.put]); (try simp only [List.setIfInBounds_toArray]); (repeat first | simp only [List.set_cons_succ] | simp only [List.set_cons_zero])
  refine wpAnyH_done (by kernel_rfl) ?_ _
  refine hKI.out _ _ ?_
  clear hKI
  go_wp2_with fail
  go_ret
  exact ⟨rfl, k2a⟩
set_option maxHeartbeats 1500000 in
set_option maxRecDepth 100000 in
theorem sx_if {a : Tr} {th el : List St} (ha : WfE a) (hza : bgE a ≤ 1048576) (hN : TN th) (hL : LnL th) (hM : TN el) (hE : LnL el) (hS : ∀ s, el = [s] → TS s) (hS2 : ∀ s, el = [s] → LnS s) : TS (.mk 4 [] a tr0 th el) := by
  intro W B b0 o T hG h hn hd
  obtain ⟨pt, ct, pe, ce, hc⟩ := h.cells
  have c0 := hc.c0
  have c1 := hc.c1
  have c10 := hc.c10
  have c11 := hc.c11
  have hTA := fun W1 (k : Keeps (fun _ => False) W W1) => text_all ha hza W1 B b0 (o + 2) (hG.keep k) (hc.xa.keep k (fun _ _ e => e))
  have hLA := pE_len ha
  obtain ⟨A, hA⟩ : ∃ A, A = bs (pE a) := ⟨_, rfl⟩
  have hzA : A.size ≤ 100000000 := by rw [hA, bs_size]; omega
  simp only [← hA] at hTA
  have e : szS (.mk 4 [] a tr0 th el) = (max (max (szE a).1 (szSL th).1) (szSL el).1 + 1, min ((szE a).2 + (szSL th).2 + (szSL el).2 + 1) 513) := by
    rw [szS, if_pos (by unfold okS; simp [usW, usA, usB, usT, usE, isZr, tr0]), if_pos (by decide), if_neg (by decide), wth_zero', und]; rfl
  rw [e] at hn hd
  simp only at hn hd
  have hlB := hL (T ++ [9]) (by omega) (by rw [List.length_append]; show T.length + 1 + _ ≤ 24; omega)
  have hlE := hE (T ++ [9]) (by omega) (by rw [List.length_append]; show T.length + 1 + _ ≤ 24; omega)
  have hB := fun W1 (k : Keeps (fun _ => False) W W1) => block_any hN hL (W := W1) (T := T) (hG.keep k) (hc.t.keep k) (by omega) (by omega)
  have hO := fun W1 (k : Keeps (fun _ => False) W W1) => other_any hM hE hS hS2 (W := W1) (T := T) (hG.keep k) (hc.e.keep k) (by omega) (by omega)
  have hlO : (pO T el).length ≤ 100000 := by
    cases el with
    | nil => rw [pO]; simp
    | cons s r =>
      rw [pO]
      by_cases hcc : (r.isEmpty && decide (kdS s = 4)) = true
      · rw [if_pos hcc]
        have hr : r = [] := by
          simp only [Bool.and_eq_true, List.isEmpty_iff] at hcc
          exact hcc.1
        subst hr
        have ez : szSL [s] = szS s := by rw [szSL, szSL, wth_zero']
        rw [ez] at hn hd
        have := (hS2 s rfl).2.2 T (by omega) (by omega)
        simp [kElse]
        omega
      · rw [if_neg hcc]
        rw [pL] at hlE
        simp [kElse] at hlE ⊢
        omega
  obtain ⟨C, hC⟩ : ∃ C, C = bs (pB T th) := ⟨_, rfl⟩
  have hzC : C.size ≤ 100000000 := by rw [hC, bs_size]; unfold pB; simp at hlB ⊢; omega
  simp only [← hC] at hB
  obtain ⟨D, hD⟩ : ∃ D, D = bs (pO T el) := ⟨_, rfl⟩
  have hzD : D.size ≤ 100000000 := by rw [hD, bs_size]; omega
  simp only [← hD] at hO
  have fin : (⟨#[105, 102, 32]⟩ ++ A ++ ⟨#[32]⟩ ++ C ++ D : ByteArray) = bs (pS T (.mk 4 [] a tr0 th el)) := bs_ext (by rw [app_bl, app_bl, app_bl, app_bl, hA, hC, hD, pS, if_neg (by decide), if_neg (by decide), if_neg (by decide), if_pos rfl, bs_list, bs_list, bs_list]; unfold pB; simp [kIf])
  rw [← fin]
  obtain ⟨n, hn2⟩ : ∃ n, n = th.length := ⟨_, rfl⟩
  obtain ⟨m, hm2⟩ : ∃ m, m = el.length := ⟨_, rfl⟩
  rw [← hn2] at c10 hB
  rw [← hm2] at c11 hO
  generalize bs T = t at *
  clear fin hA hC hD hLA hlB hlE hlO hc h hG hn hd e hn2 hm2 hN hL hM hE hS hS2
  have nn0 : ¬ (9223372036854775807 < 3 + A.size) := by omega
  have m0 : ¬ (3 + A.size > 9223372036854775807) := by omega
  have nn1 : ¬ (9223372036854775807 < 3 + A.size + 1) := by omega
  have m1 : ¬ (3 + A.size + 1 > 9223372036854775807) := by omega
  have nn2 : ¬ (9223372036854775807 < 3 + A.size + 1 + C.size) := by omega
  have m2 : ¬ (3 + A.size + 1 + C.size > 9223372036854775807) := by omega
  have nn3 : ¬ (9223372036854775807 < 3 + A.size + 1 + C.size + D.size) := by omega
  have m3 : ¬ (3 + A.size + 1 + C.size + D.size > 9223372036854775807) := by omega
  go_enter Tryz.func25, Tryz.ntmps25
  go_wp2_with fail
  rename_i K hK
  have hKI : Hid _ := hK
  clear hK
  refine wp_region_held_drew (S := fun w' => Keeps (fun _ => False) W w') (by kernel_rfl) (Keeps.refl _ W).drew (fun hHeld => ?_)
  refine wpAnyH_take (i := 0) (v := ?_) rfl (by kernel_rfl) (by kernel_rfl) (by kernel_rfl) (fun _ _ _ h => h) (Or.inl ⟨by rfl, ?_⟩) (by assumption) ?_
  rotate_left
  · intro wx hSw; have p0 := hSw.cell c0 (fun e => e); have p1 := hSw.cell c1 (fun e => e); have p10 := hSw.cell c10 (fun e => e); have p11 := hSw.cell c11 (fun e => e); clear hSw; go_simp <;> with_reducible rfl
  (try simp only [List.getElem_toArray]); (try simp only [List.getElem_cons_succ]); (try simp only [List.getElem_cons_zero]); (try simp only [Act.put]); (try simp only [List.setIfInBounds_toArray]); (repeat first | simp only [List.set_cons_succ] | simp only [List.set_cons_zero])
  refine wpAnyH_take (i := 1) (v := ?_) rfl (by kernel_rfl) (by kernel_rfl) (by kernel_rfl) (fun _ _ _ h => h) (Or.inl ⟨by rfl, ?_⟩) (by assumption) ?_
  rotate_left
  · intro wx hSw; have p0 := hSw.cell c0 (fun e => e); have p1 := hSw.cell c1 (fun e => e); have p10 := hSw.cell c10 (fun e => e); have p11 := hSw.cell c11 (fun e => e); clear hSw; go_simp <;> with_reducible rfl
  (try simp only [List.getElem_toArray]); (try simp only [List.getElem_cons_succ]); (try simp only [List.getElem_cons_zero]); (try simp only [Act.put]); (try simp only [List.setIfInBounds_toArray]); (repeat first | simp only [List.set_cons_succ] | simp only [List.set_cons_zero])
  refine wpAnyH_take (i := 2) (v := ?_) rfl (by kernel_rfl) (by kernel_rfl) (by kernel_rfl) (fun _ _ _ h => h) (Or.inl ⟨by rfl, ?_⟩) (by assumption) ?_
  rotate_left
  · intro wx hSw; have p0 := hSw.cell c0 (fun e => e); have p1 := hSw.cell c1 (fun e => e); have p10 := hSw.cell c10 (fun e => e); have p11 := hSw.cell c11 (fun e => e); clear hSw; go_simp <;> with_reducible rfl
  (try simp only [List.getElem_toArray]); (try simp only [List.getElem_cons_succ]); (try simp only [List.getElem_cons_zero]); (try simp only [Act.put]); (try simp only [List.setIfInBounds_toArray]); (repeat first | simp only [List.set_cons_succ] | simp only [List.set_cons_zero])
  refine wpAnyH_take (i := 6) (v := ?_) rfl (by kernel_rfl) (by kernel_rfl) (by kernel_rfl) (fun _ _ _ h => h) (Or.inl ⟨by rfl, ?_⟩) (by assumption) ?_
  rotate_left
  · intro wx hSw; have p0 := hSw.cell c0 (fun e => e); have p1 := hSw.cell c1 (fun e => e); have p10 := hSw.cell c10 (fun e => e); have p11 := hSw.cell c11 (fun e => e); clear hSw; go_simp <;> with_reducible rfl
  (try simp only [List.getElem_toArray]); (try simp only [List.getElem_cons_succ]); (try simp only [List.getElem_cons_zero]); (try simp only [Act.put]); (try simp only [List.setIfInBounds_toArray]); (repeat first | simp only [List.set_cons_succ] | simp only [List.set_cons_zero])
  refine wpAnyH_take (i := 7) (v := ?_) rfl (by kernel_rfl) (by kernel_rfl) (by kernel_rfl) (fun _ _ _ h => h) (Or.inl ⟨by rfl, ?_⟩) (by assumption) ?_
  rotate_left
  · intro wx hSw; have p0 := hSw.cell c0 (fun e => e); have p1 := hSw.cell c1 (fun e => e); have p10 := hSw.cell c10 (fun e => e); have p11 := hSw.cell c11 (fun e => e); clear hSw; go_simp <;> with_reducible rfl
  (try simp only [List.getElem_toArray]); (try simp only [List.getElem_cons_succ]); (try simp only [List.getElem_cons_zero]); (try simp only [Act.put]); (try simp only [List.setIfInBounds_toArray]); (repeat first | simp only [List.set_cons_succ] | simp only [List.set_cons_zero])
  refine wpAnyH_take (i := 8) (v := ?_) rfl (by kernel_rfl) (by kernel_rfl) (by kernel_rfl) (fun _ _ _ h => h) (Or.inl ⟨by rfl, ?_⟩) (by assumption) ?_
  rotate_left
  · intro wx hSw; have p0 := hSw.cell c0 (fun e => e); have p1 := hSw.cell c1 (fun e => e); have p10 := hSw.cell c10 (fun e => e); have p11 := hSw.cell c11 (fun e => e); clear hSw; go_simp <;> with_reducible rfl
  (try simp only [List.getElem_toArray]); (try simp only [List.getElem_cons_succ]); (try simp only [List.getElem_cons_zero]); (try simp only [Act.put]); (try simp only [List.setIfInBounds_toArray]); (repeat first | simp only [List.set_cons_succ] | simp only [List.set_cons_zero])
  refine wpAnyH_take (i := 9) (v := ?_) rfl (by kernel_rfl) (by kernel_rfl) (by kernel_rfl) (fun _ _ _ h => h) (Or.inl ⟨by rfl, ?_⟩) (by assumption) ?_
  rotate_left
  · intro wx hSw; have p0 := hSw.cell c0 (fun e => e); have p1 := hSw.cell c1 (fun e => e); have p10 := hSw.cell c10 (fun e => e); have p11 := hSw.cell c11 (fun e => e); clear hSw; go_simp <;> with_reducible rfl
  (try simp only [List.getElem_toArray]); (try simp only [List.getElem_cons_succ]); (try simp only [List.getElem_cons_zero]); (try simp only [Act.put]); (try simp only [List.setIfInBounds_toArray]); (repeat first | simp only [List.set_cons_succ] | simp only [List.set_cons_zero])
  refine wpAnyH_take (i := 10) (v := ?_) rfl (by kernel_rfl) (by kernel_rfl) (by kernel_rfl) (fun _ _ _ h => h) (Or.inl ⟨by rfl, ?_⟩) (by assumption) ?_
  rotate_left
  · intro wx hSw; have p0 := hSw.cell c0 (fun e => e); have p1 := hSw.cell c1 (fun e => e); have p10 := hSw.cell c10 (fun e => e); have p11 := hSw.cell c11 (fun e => e); clear hSw; go_simp <;> with_reducible rfl
  (try simp only [List.getElem_toArray]); (try simp only [List.getElem_cons_succ]); (try simp only [List.getElem_cons_zero]); (try simp only [Act.put]); (try simp only [List.setIfInBounds_toArray]); (repeat first | simp only [List.set_cons_succ] | simp only [List.set_cons_zero])
  refine wpAnyH_take (i := 13) (v := ?_) rfl (by kernel_rfl) (by kernel_rfl) (by kernel_rfl) (fun _ _ _ h => h) (Or.inl ⟨by rfl, ?_⟩) (by assumption) ?_
  rotate_left
  · intro wx hSw; have p0 := hSw.cell c0 (fun e => e); have p1 := hSw.cell c1 (fun e => e); have p10 := hSw.cell c10 (fun e => e); have p11 := hSw.cell c11 (fun e => e); clear hSw; go_simp <;> with_reducible rfl
  (try simp only [List.getElem_toArray]); (try simp only [List.getElem_cons_succ]); (try simp only [List.getElem_cons_zero]); (try simp only [Act.put]); (try simp only [List.setIfInBounds_toArray]); (repeat first | simp only [List.set_cons_succ] | simp only [List.set_cons_zero])
  refine wpAnyH_take (i := 14) (v := ?_) rfl (by kernel_rfl) (by kernel_rfl) (by kernel_rfl) (fun _ _ _ h => h) (Or.inl ⟨by rfl, ?_⟩) (by assumption) ?_
  rotate_left
  · intro wx hSw; have p0 := hSw.cell c0 (fun e => e); have p1 := hSw.cell c1 (fun e => e); have p10 := hSw.cell c10 (fun e => e); have p11 := hSw.cell c11 (fun e => e); clear hSw; go_simp <;> with_reducible rfl
  (try simp only [List.getElem_toArray]); (try simp only [List.getElem_cons_succ]); (try simp only [List.getElem_cons_zero]); (try simp only [Act.put]); (try simp only [List.setIfInBounds_toArray]); (repeat first | simp only [List.set_cons_succ] | simp only [List.set_cons_zero])
  refine wpAnyH_take (i := 15) (v := ?_) rfl (by kernel_rfl) (by kernel_rfl) (by kernel_rfl) (fun _ _ _ h => h) (Or.inl ⟨by rfl, ?_⟩) (by assumption) ?_
  rotate_left
  · intro wx hSw; have p0 := hSw.cell c0 (fun e => e); have p1 := hSw.cell c1 (fun e => e); have p10 := hSw.cell c10 (fun e => e); have p11 := hSw.cell c11 (fun e => e); clear hSw; go_simp <;> with_reducible rfl
  (try simp only [List.getElem_toArray]); (try simp only [List.getElem_cons_succ]); (try simp only [List.getElem_cons_zero]); (try simp only [Act.put]); (try simp only [List.setIfInBounds_toArray]); (repeat first | simp only [List.set_cons_succ] | simp only [List.set_cons_zero])
  refine wpAnyH_take (i := 16) (v := ?_) rfl (by kernel_rfl) (by kernel_rfl) (by kernel_rfl) (fun _ _ _ h => h) (Or.inl ⟨by rfl, ?_⟩) (by assumption) ?_
  rotate_left
  · intro wx hSw; have p0 := hSw.cell c0 (fun e => e); have p1 := hSw.cell c1 (fun e => e); have p10 := hSw.cell c10 (fun e => e); have p11 := hSw.cell c11 (fun e => e); clear hSw; go_simp <;> with_reducible rfl
  (try simp only [List.getElem_toArray]); (try simp only [List.getElem_cons_succ]); (try simp only [List.getElem_cons_zero]); (try simp only [Act.put]); (try simp only [List.setIfInBounds_toArray]); (repeat first | simp only [List.set_cons_succ] | simp only [List.set_cons_zero])
  refine wpAnyH_take (i := 17) (v := ?_) rfl (by kernel_rfl) (by kernel_rfl) (by kernel_rfl) (fun _ _ _ h => h) (Or.inl ⟨by rfl, ?_⟩) (by assumption) ?_
  rotate_left
  · intro wx hSw; have p0 := hSw.cell c0 (fun e => e); have p1 := hSw.cell c1 (fun e => e); have p10 := hSw.cell c10 (fun e => e); have p11 := hSw.cell c11 (fun e => e); clear hSw; go_simp <;> with_reducible rfl
  (try simp only [List.getElem_toArray]); (try simp only [List.getElem_cons_succ]); (try simp only [List.getElem_cons_zero]); (try simp only [Act.put]); (try simp only [List.setIfInBounds_toArray]); (repeat first | simp only [List.set_cons_succ] | simp only [List.set_cons_zero])
  refine wpAnyH_one 3 (by kernel_rfl) rfl rfl ?_
  refine wp_call1 38 _  rfl _  rfl  (fun _ _ => rfl) ((hTA W.drew (Keeps.refl (fun _ => False) W).drew).mono ?_)
  rintro e v1 ⟨rfl, kv1⟩
  have k1a : Keeps (fun _ => False) W v1 := (Keeps.refl (fun _ => False) W).drew.trans kv1
  refine ⟨_, rfl, k1a, fun hS1 => ?_⟩
  (try simp only [List.getElem_toArray]); (try simp only [List.getElem_cons_succ]); (try simp only [List.getElem_cons_zero]); (try simp only [Act.put]); (try simp only [List.setIfInBounds_toArray]); (repeat first | simp only [List.set_cons_succ] | simp only [List.set_cons_zero])
  refine wpAnyH_take (i := 4) (v := ?_) rfl (by kernel_rfl) (by kernel_rfl) (by kernel_rfl) (fun _ _ _ h => h) (Or.inl ⟨by rfl, ?_⟩) (by assumption) ?_
  rotate_left
  · intro wx hSw; have p0 := hSw.cell c0 (fun e => e); have p1 := hSw.cell c1 (fun e => e); have p10 := hSw.cell c10 (fun e => e); have p11 := hSw.cell c11 (fun e => e); clear hSw; go_simp <;> with_reducible rfl
  (try simp only [List.getElem_toArray]); (try simp only [List.getElem_cons_succ]); (try simp only [List.getElem_cons_zero]); (try simp only [Act.put]); (try simp only [List.setIfInBounds_toArray]); (repeat first | simp only [List.set_cons_succ] | simp only [List.set_cons_zero])
  refine wpAnyH_take (i := 5) (v := ?_) rfl (by kernel_rfl) (by kernel_rfl) (by kernel_rfl) (fun _ _ _ h => h) (Or.inl ⟨by rfl, ?_⟩) (by assumption) ?_
  rotate_left
  · intro wx hSw; have p0 := hSw.cell c0 (fun e => e); have p1 := hSw.cell c1 (fun e => e); have p10 := hSw.cell c10 (fun e => e); have p11 := hSw.cell c11 (fun e => e); clear hSw; go_simp <;> with_reducible rfl
  (try simp only [List.getElem_toArray]); (try simp only [List.getElem_cons_succ]); (try simp only [List.getElem_cons_zero]); (try simp only [Act.put]); (try simp only [List.setIfInBounds_toArray]); (repeat first | simp only [List.set_cons_succ] | simp only [List.set_cons_zero])
  refine wpAnyH_one 11 (by kernel_rfl) rfl rfl ?_
  refine wp_call2 39 _ _  rfl _ _  rfl rfl  (fun _ _ => rfl) ((hB v1 k1a).mono ?_)
  rintro e v2 ⟨rfl, kv2⟩
  have k2a : Keeps (fun _ => False) W v2 := k1a.trans kv2
  refine ⟨_, rfl, k2a, fun hS2 => ?_⟩
  (try simp only [List.getElem_toArray]); (try simp only [List.getElem_cons_succ]); (try simp only [List.getElem_cons_zero]); (try simp only [Act.put]); (try simp only [List.setIfInBounds_toArray]); (repeat first | simp only [List.set_cons_succ] | simp only [List.set_cons_zero])
  refine wpAnyH_take (i := 12) (v := ?_) rfl (by kernel_rfl) (by kernel_rfl) (by kernel_rfl) (fun _ _ _ h => h) (Or.inl ⟨by rfl, ?_⟩) (by assumption) ?_
  rotate_left
  · intro wx hSw; have p0 := hSw.cell c0 (fun e => e); have p1 := hSw.cell c1 (fun e => e); have p10 := hSw.cell c10 (fun e => e); have p11 := hSw.cell c11 (fun e => e); clear hSw; go_simp <;> with_reducible rfl
  (try simp only [List.getElem_toArray]); (try simp only [List.getElem_cons_succ]); (try simp only [List.getElem_cons_zero]); (try simp only [Act.put]); (try simp only [List.setIfInBounds_toArray]); (repeat first | simp only [List.set_cons_succ] | simp only [List.set_cons_zero])
  refine wpAnyH_one 18 (by kernel_rfl) rfl rfl ?_
  refine wp_call2 40 _ _  rfl _ _  rfl rfl  (fun _ _ => rfl) ((hO v2 k2a).mono ?_)
  rintro e v3 ⟨rfl, kv3⟩
  have k3a : Keeps (fun _ => False) W v3 := k2a.trans kv3
  refine ⟨_, rfl, k3a, fun hS3 => ?_⟩
  (try simp only [List.getElem_toArray]); (try simp only [List.getElem_cons_succ]); (try simp only [List.getElem_cons_zero]); (try simp only [Act.put]); (try simp only [List.setIfInBounds_toArray]); (repeat first | simp only [List.set_cons_succ] | simp only [List.set_cons_zero])
  refine wpAnyH_take (i := 19) (v := ?_) rfl (by kernel_rfl) (by kernel_rfl) (by kernel_rfl) (fun _ _ _ h => h) (Or.inl ⟨by rfl, ?_⟩) (by assumption) ?_
  rotate_left
  · intro wx hSw; have p0 := hSw.cell c0 (fun e => e); have p1 := hSw.cell c1 (fun e => e); have p10 := hSw.cell c10 (fun e => e); have p11 := hSw.cell c11 (fun e => e); clear hSw; go_simp <;> with_reducible rfl
  (try simp only [List.getElem_toArray]); (try simp only [List.getElem_cons_succ]); (try simp only [List.getElem_cons_zero]); (try simp only [Act.put]); (try simp only [List.setIfInBounds_toArray]); (repeat first | simp only [List.set_cons_succ] | simp only [List.set_cons_zero])
  refine wpAnyH_take (i := 20) (v := ?_) rfl (by kernel_rfl) (by kernel_rfl) (by kernel_rfl) (fun _ _ _ h => h) (Or.inl ⟨by rfl, ?_⟩) (by assumption) ?_
  rotate_left
  · intro wx hSw; have p0 := hSw.cell c0 (fun e => e); have p1 := hSw.cell c1 (fun e => e); have p10 := hSw.cell c10 (fun e => e); have p11 := hSw.cell c11 (fun e => e); clear hSw; go_simp <;> with_reducible rfl
  (try simp only [List.getElem_toArray]); (try simp only [List.getElem_cons_succ]); (try simp only [List.getElem_cons_zero]); (try simp only [Act.put]); (try simp only [List.setIfInBounds_toArray]); (repeat first | simp only [List.set_cons_succ] | simp only [List.set_cons_zero])
  refine wpAnyH_done (by kernel_rfl) ?_ _
  refine hKI.out _ _ ?_
  clear hKI
  go_wp2_with fail
  go_ret
  exact ⟨rfl, k3a⟩
def bldR : Go.Shelf.Ren := ⟨fun | 166 => 24 | 240 => 37 | 276 => 62 | n => n, fun | 0 => 0 | 3 => 3 | 4 => 4 | 5 => 5 | 9 => 9 | 20 => 20 | 37 => 71 | 70 => 70 | 72 => 73 | 75 => 75 | 80 => 79 | 164 => 109 | n => n, fun | n => n⟩
theorem bldL : Lays.n166 Tryz.prog bldR := {
  mixed := by kernel_rfl
  f166 := Tryz.func24.trans (congrArg some (by kernel_rfl))
  f240 := Tryz.func37.trans (congrArg some (by kernel_rfl))
  f276 := Tryz.func62.trans (congrArg some (by kernel_rfl))
  t0 := Tryz.underlying0
  a0 := Tryz.isAgg0
  z0 := Tryz.sizeOf0
  v0 := Tryz.zeroValue0
  t3 := Tryz.underlying3
  a3 := Tryz.isAgg3
  z3 := Tryz.sizeOf3
  v3 := Tryz.zeroValue3
  t4 := Tryz.underlying4
  a4 := Tryz.isAgg4
  z4 := Tryz.sizeOf4
  v4 := Tryz.zeroValue4
  t9 := Tryz.underlying9
  a9 := Tryz.isAgg9
  z9 := Tryz.sizeOf9
  v9 := Tryz.zeroValue9
  t20 := Tryz.underlying20
  a20 := Tryz.isAgg20
  z20 := Tryz.sizeOf20
  v20 := Tryz.zeroValue20
  t37 := Tryz.underlying71
  a37 := Tryz.isAgg71
  z37 := Tryz.sizeOf71
  v37 := Tryz.zeroValue71
  t70 := Tryz.underlying70
  a70 := Tryz.isAgg70
  z70 := Tryz.sizeOf70
  v70 := Tryz.zeroValue70
  t72 := Tryz.underlying73
  a72 := Tryz.isAgg73
  z72 := Tryz.sizeOf73
  v72 := Tryz.zeroValue73
  t75 := Tryz.underlying75
  a75 := Tryz.isAgg75
  z75 := Tryz.sizeOf75
  v75 := Tryz.zeroValue75
  t164 := Tryz.underlying109
  a164 := Tryz.isAgg109
  z164 := Tryz.sizeOf109
  v164 := Tryz.zeroValue109 }
theorem bldX : Builder.Extra Tryz.prog bldR := {
  sizeBuilder := by kernel_rfl
  liesBuilder := by kernel_rfl
  t5 := Tryz.underlying5
  a5 := Tryz.isAgg5
  z5 := Tryz.sizeOf5
  v5 := Tryz.zeroValue5
  infoByte := by kernel_rfl
  cellsByte := by kernel_rfl
  sizeByte := by kernel_rfl
  neB5 := by decide }
theorem write_k (B b : Nat) (bs : List Value) (s : ByteArray) (w : World) (h : Lib.IsBuilderF 73 5 B b bs w) (hlen : bs.length + s.size ≤ 140737488355328) (hBw : B ≤ w.heap.size) :
    Calls Tryz.prog 24 #[.pointer (some ⟨b, 0, none⟩), .string s] w fun e w' => e = .returned (.tuple #[.int .i64 s.size, .nilIface]) ∧ (Lib.BuilderAtF 73 5 B b (.pointer (some ⟨b, 0, none⟩)) (bs ++ Lib.strCells s) w' ∧ Below B w w' ∧ Lib.OthersKept 5 (some b) w w') :=
  Any.Builder_WriteString_k bldL bldX B b bs s w h hlen hBw
/-- A builder, in whatever world keeps its blocks. -/
theorem IsB.keep {T e : TypeId} {B b : Nat} {bs : List Value} {w w' : World} (h : Lib.IsBuilderF T e B b bs w) (k : Keeps (fun _ => False) w w') : Lib.IsBuilderF T e B b bs w' := by
  have key : ∀ p, Lib.BuilderAtF T e B b p bs w → Lib.BuilderAtF T e B b p bs w' := fun p ⟨hB, v, hb, hown, hne⟩ => by
    have hlt := (Array.getElem?_eq_some_iff.1 hb).1
    refine ⟨hB, v, by rw [k.block b hlt (fun e => e)]; exact hb, ?_, hne⟩
    refine ⟨hown.1, ?_⟩
    rcases hown.2 with hn | ⟨g, cap, cur, fz, rfl, hb2, hgg, rest⟩
    · exact .inl hn
    · refine .inr ⟨g, cap, cur, fz, rfl, hb2, ?_, rest⟩
      rw [k.block g (Array.getElem?_eq_some_iff.1 hgg).1 (fun e => e)]
      exact hgg
  exact h.elim (fun x => .inl (key _ x)) (fun x => .inr (key _ x))
/-- A new builder. -/
theorem IsB.made (w : World) (T e : TypeId) : Lib.IsBuilderF T e w.heap.size w.heap.size [] (w.alloc (.cells #[.pointer none, .slice none 0 0] T)) :=
  .inl ⟨Nat.le_refl _, .slice none 0 0, Array.getElem?_push_size, World.ownsRowF_nil _ _ _ _, by simp [Value.ownBlock]⟩
theorem keepsB {B : Nat} {w w' : World} (hb : Below B w w') : Keeps (fun k => B ≤ k) w w' :=
  ⟨hb.os, hb.tape, hb.output, hb.size, fun k _ hS => hb.block k (Nat.lt_of_not_le hS)⟩
theorem strCells_bs (l : Bs) : Lib.strCells (bs l) = Lib.byteCells l := by unfold Lib.strCells; rfl
theorem byteCells_app (a b : Bs) : Lib.byteCells (a ++ b) = Lib.byteCells a ++ Lib.byteCells b := by unfold Lib.byteCells; simp
theorem byteCells_len (a : Bs) : (Lib.byteCells a).length = a.length := by unfold Lib.byteCells; simp
theorem pL_snoc (T : Bs) (s : St) : ∀ l : List St, pL T (l ++ [s]) = pL T l ++ (T ++ (pS T s ++ [10]))
  | [] => by rw [List.nil_append, pL, pL, pL]; rfl
  | a :: r => by rw [List.cons_append, pL, pL, pL_snoc T s r]; simp
theorem szSL_at : ∀ (l : List St) (i : Nat) (s : St), l[i]? = some s → (szS s).1 ≤ (szSL l).1 ∧ (szS s).2 ≤ (szSL l).2
  | [], i, s, h => by cases h
  | a :: r, 0, s, h => by
    injection h with h; subst h
    rw [szSL]; unfold wth; simp only; omega
  | a :: r, i + 1, s, h => by
    have := szSL_at r i s h
    rw [szSL]; unfold wth; simp only; omega
theorem pL_take (T : Bs) : ∀ (l : List St) (i : Nat), (pL T (l.take i)).length ≤ (pL T l).length
  | [], i => by simp
  | a :: r, 0 => by rw [List.take_zero, pL]; simp
  | a :: r, i + 1 => by
    have := pL_take T r i
    rw [List.take_succ_cons, pL, pL]
    simp; omega
set_option maxHeartbeats 1500000 in
set_option maxRecDepth 100000 in
theorem lines_any {l : List St} (hS : ∀ s ∈ l, TS s) (hS2 : ∀ s ∈ l, LnS s) (hL : LnL l) : TN l := by
  intro W B p c T hG h hn hd
  obtain ⟨N, hN⟩ : ∃ N, N = l.length := ⟨_, rfl⟩
  have HN : Hid (N = l.length) := hN
  rw [← hN]
  have hNb : N ≤ 512 := by
    rw [hN]
    have : ∀ l : List St, (∀ s ∈ l, LnS s) → l.length ≤ (szSL l).2 := by
      intro l
      induction l with
      | nil => intro _; simp
      | cons a r ih =>
        intro h
        have h1 := (h a List.mem_cons_self).2.1
        have h2 := ih (fun s hs => h s (List.mem_cons_of_mem _ hs))
        rw [szSL]; unfold wth; simp only [List.length_cons]; omega
    exact Nat.le_trans (this l hS2) hn
  clear hN
  have hall := hL T hn hd
  obtain ⟨t, ht⟩ : ∃ t, t = bs T := ⟨_, rfl⟩
  have htz : t.size ≤ 24 := by rw [ht, bs_size]; omega
  have HT : Hid (t = bs T) := ht
  have HW : Hid (∀ (W1 : World) (X Y : Bs), Lib.IsBuilderF 73 5 W.heap.size W.heap.size (Lib.byteCells X) W1 → X.length ≤ 100000 → Y.length ≤ 100000 → W.heap.size ≤ W1.heap.size → Calls Tryz.prog 24 #[.pointer (some ⟨W.heap.size, 0, none⟩), .string (bs Y)] W1 fun e w' => e = .returned (.tuple #[.int .i64 (bs Y).size, .nilIface]) ∧ Lib.IsBuilderF 73 5 W.heap.size W.heap.size (Lib.byteCells (X ++ Y)) w' ∧ Below W.heap.size W1 w') := fun W1 X Y h1 h2 h3 h4 =>
    (write_k _ _ _ (bs Y) W1 h1 (by rw [byteCells_len, bs_size]; omega) h4).mono fun e w' q => ⟨q.1, .inr (by rw [byteCells_app, ← strCells_bs Y]; exact q.2.1), q.2.2.1⟩
  have HR : Hid (∀ (W1 : World) (X : Bs), Lib.IsBuilderF 73 5 W.heap.size W.heap.size (Lib.byteCells X) W1 → W.heap.size ≤ W1.heap.size → Calls Tryz.prog 26 #[.pointer (some ⟨W.heap.size, 0, none⟩)] W1 fun e w' => e = .returned (.string (bs X)) ∧ Below W.heap.size W1 w') := fun W1 X h1 h2 =>
    (Tryz.Builder_String_any_k _ _ X W1 h1 h2).mono fun e w' q => ⟨q.1, q.2.2.1⟩
  have hK0 : Keeps (fun _ => False) W (W.alloc (.cells #[.pointer none, .slice none 0 0] 73)) := (Keeps.refl _ W).alloc _
  have hB0 : Lib.IsBuilderF 73 5 W.heap.size W.heap.size (Lib.byteCells (pL T (l.take 0))) (W.alloc (.cells #[.pointer none, .slice none 0 0] 73)) := by
    rw [List.take_zero, pL]; exact IsB.made _ _ _
  rw [← ht]
  clear ht
  go_enter Tryz.func17, Tryz.ntmps17
  go_wp2_with fail
  obtain ⟨W0, hW0⟩ : ∃ W0, W0 = W.alloc (.cells #[.pointer none, .slice none 0 0] 73) := ⟨_, rfl⟩
  rw [← hW0] at hK0 hB0
  rw [show W.alloc (.cells #[.pointer none, .slice none 0 0] 73) = W0 from hW0.symm]
  clear hW0
  go_loopw [9] (fun iv Wr => ∃ i : Nat, iv = .int .i64 (i : Int) ∧ i ≤ N ∧ Lib.IsBuilderF 73 5 W.heap.size W.heap.size (Lib.byteCells (pL T (l.take i))) Wr ∧ Keeps (fun _ => False) W Wr) (fun iv _ => N - (intOf iv).toNat)
  case atStart => exact ⟨0, rfl, Nat.zero_le _, hB0, hK0⟩
  case round =>
    clear hB0 hK0
    obtain ⟨i, rfl, hi, hB, hK⟩ := hrel
    by_cases hlt : i < N
    · have d1 : decide ((i : Int) < (N : Int)) = true := decide_eq_true (by omega)
      have d2 : decide (i < N) = true := decide_eq_true hlt
      have i0 : (0 : Int) ≤ (i : Int) := by omega
      have i1 : (i : Int) < (N : Int) := by omega
      have i2 : (i : Int) + 1 ≤ 9223372036854775807 := by omega
      have hip : i < l.length := by rw [← HN.out]; exact hlt
      obtain ⟨s, hss⟩ : ∃ s, s = l[i] := ⟨_, rfl⟩
      have hgt : l[i]? = some s := by rw [hss]; exact List.getElem?_eq_getElem hip
      have hmem : s ∈ l := List.mem_of_getElem? hgt
      have hsz := szSL_at l i s hgt
      obtain ⟨g, rfl, hp⟩ := h.at hgt
      have hX := hS s hmem wr B g (i * 12) T (hG.keep hK) (hp.keep hK) (by omega) (by omega)
      have hXl := (hS2 s hmem).2.2 T (by omega) (by omega)
      have htk : l.take (i + 1) = l.take i ++ [s] := take_snoc hgt
      have hpt := pL_take T l i
      obtain ⟨X, hXX⟩ : ∃ X, X = bs (pS T s) := ⟨_, rfl⟩
      have hXz : X.size ≤ 100000 := by rw [hXX, bs_size]; omega
      rw [← hXX, ← HT.out] at hX
      have fin : (t ++ X ++ ⟨#[10]⟩ : ByteArray) = bs (T ++ (pS T s ++ [10])) := bs_ext (by rw [app_bl, app_bl, hXX, HT.out, bs_list, bs_list]; simp)
      have HFN : Hid (_ = _) := fin
      have HTK : Hid (pL T (l.take (i + 1)) = pL T (l.take i) ++ (T ++ (pS T s ++ [10]))) := by show _ = _; rw [htk, pL_snoc]
      have hY : (T ++ (pS T s ++ [10])).length ≤ 100000 := by
        have h9 := congrArg ByteArray.size hXX
        rw [bs_size] at h9
        have h10 := congrArg ByteArray.size HT.out
        rw [bs_size] at h10
        simp; omega
      have hWR := fun W1 (k : Keeps (fun _ => False) wr W1) => HW.out W1 (pL T (l.take i)) (T ++ (pS T s ++ [10])) (IsB.keep hB k) (by omega) hY (Nat.le_trans hK.size k.size)
      simp only [← HFN.out] at hWR
      clear fin hXX hXl hpt htk hgt hss hip hmem hsz hp hY
      have n0 : ¬ (9223372036854775807 < t.size + X.size) := by omega
      have m0 : ¬ (t.size + X.size > 9223372036854775807) := by omega
      have n1 : ¬ (9223372036854775807 < t.size + X.size + 1) := by omega
      have m1 : ¬ (t.size + X.size + 1 > 9223372036854775807) := by omega
      go_wp2_with (first | (go_at_call 25; refine hX.mono ?_; clear hX; rintro e w1 ⟨rfl, k1⟩; have hW1 := hWR w1 k1; clear hWR) | (go_at_call 24; refine hW1.mono ?_; clear hW1; rintro e w2 ⟨rfl, hB2, k2⟩))
      have kk : Keeps (fun _ => False) W w2 := (hK.trans k1).trans' (keepsB k2) (fun _ _ e => e) (fun j hj e => by omega)
      go_roundw
      case rel => exact ⟨i + 1, by go_num, by omega, by rw [HTK.out]; exact hB2, kk⟩
      case measure => simp [intOf]; omega
    · obtain rfl : i = N := by omega
      have d1 : decide ((i : Int) < (i : Int)) = false := decide_eq_false (by omega)
      have d2 : decide (i < i) = false := decide_eq_false (by omega)
      have hR := HR.out wr _ hB hK.size
      have ep : l.take i = l := by rw [HN.out]; exact List.take_length
      rw [ep] at hR
      go_wp2_with (go_at_call 26; refine hR.mono ?_; clear hR; rintro e w2 ⟨rfl, k2⟩)
      go_ret
      exact ⟨rfl, hK.trans' (keepsB k2) (fun _ _ e => e) (fun j hj e => by omega)⟩
theorem bgE_sz {e : Tr} (h : WfE e) : (szE e).2 ≤ 512 → bgE e ≤ (szE e).2 := by
  induction h with
  | @num n h0 h =>
    have e : szE (.mk 1 n [] []) = (1, 1) := by
      rw [szE, if_pos (by unfold okE; simp [h0]), szL]; rfl
    intro _
    rw [e, bgE, bgL]
    exact Nat.le_refl _
  | @name w h =>
    have e : szE (.mk 2 0 w []) = (1, 1) := by
      rw [szE, if_pos (by unfold okE; simp [h]), szL]; rfl
    intro _
    rw [e, bgE, bgL]
    exact Nat.le_refl _
  | @obj a _ ih =>
    rw [szE_one (.inl rfl), bg_one]
    simp only
    intro h
    have := ih (by omega)
    omega
  | @tak a _ ih =>
    rw [szE_one (.inr (.inl rfl)), bg_one]
    simp only
    intro h
    have := ih (by omega)
    omega
  | @neg a _ ih =>
    rw [szE_one (.inr (.inr (.inl rfl))), bg_one]
    simp only
    intro h
    have := ih (by omega)
    omega
  | @not a _ ih =>
    rw [szE_one (.inr (.inr (.inr rfl))), bg_one]
    simp only
    intro h
    have := ih (by omega)
    omega
  | @bin w a b hb _ _ iha ihb =>
    rw [szE_two hb, bg_two]
    simp only
    intro h
    have := iha (by omega)
    have := ihb (by omega)
    omega
theorem bg_tr0 : bgE tr0 = 1 := rfl
def BgS (s : St) : Prop := 1 ≤ (szS s).2 ∧ ((szS s).2 ≤ 512 → bgS s ≤ 3 * (szS s).2)
def BgL (l : List St) : Prop := (szSL l).2 ≤ 512 → bgSL l ≤ 3 * (szSL l).2
theorem bgl_nil : BgL [] := by
  intro _
  rw [bgSL]; omega
theorem bgl_cons {s : St} {r : List St} (h1 : BgS s) (h2 : BgL r) : BgL (s :: r) := by
  unfold BgL
  rw [szSL, bgSL]
  unfold wth
  simp only
  intro h
  have := h1.2 (by omega)
  have := h2 (by omega)
  omega
theorem bgS_of {k : Int} {w : Bs} {a b : Tr} {th el : List St} (hw : WfS (.mk k w a b th el)) (ht : BgL th) (he : BgL el) : BgS (.mk k w a b th el) := by
  unfold BgS
  rw [bgS_eq]
  unfold WfS at hw
  rcases hw with ⟨rfl, h1, h2, rfl, rfl, rfl⟩ | ⟨rfl, rfl, h1, h2, rfl, rfl⟩ | ⟨rfl, rfl, h1, rfl, rfl, rfl⟩ | ⟨rfl, rfl, h1, rfl, h2, h3⟩ | ⟨rfl, rfl, h1, rfl, h2, rfl⟩ | ⟨rfl, rfl, rfl, rfl, rfl, rfl⟩ | ⟨rfl, rfl, h1, rfl, rfl, rfl⟩
  · have e : szS (.mk 1 w a tr0 [] []) = ((szE a).1 + 1, min ((szE a).2 + 1) 513) := by
      rw [szS, if_pos (by unfold okS; simp [usW, usA, usB, usT, usE, h1, isZr, tr0]), szSL, if_pos (by decide), if_neg (by decide), wth_zero', wth_zero', wth_zero', und]
    rw [e, bg_tr0, bgSL]
    simp only
    have := (pE_sz h2).2.1
    refine ⟨by omega, fun h => ?_⟩
    have := bgE_sz h2 (by omega)
    omega
  · have e : szS (.mk 2 [] a b [] []) = (max (szE a).1 (szE b).1 + 1, min ((szE a).2 + (szE b).2 + 1) 513) := by
      rw [szS, if_pos (by unfold okS; simp [usW, usA, usB, usT, usE]), szSL, if_pos (by decide), if_pos (by decide), wth_zero', wth_zero', und]; rfl
    rw [e, bgSL]
    simp only
    have := (pE_sz h1).2.1
    refine ⟨by omega, fun h => ?_⟩
    have := bgE_sz h1 (by omega)
    have := bgE_sz h2 (by omega)
    omega
  · have e : szS (.mk 3 [] a tr0 [] []) = ((szE a).1 + 1, min ((szE a).2 + 1) 513) := by
      rw [szS, if_pos (by unfold okS; simp [usW, usA, usB, usT, usE, isZr, tr0]), szSL, if_pos (by decide), if_neg (by decide), wth_zero', wth_zero', wth_zero', und]
    rw [e, bg_tr0, bgSL]
    simp only
    have := (pE_sz h1).2.1
    refine ⟨by omega, fun h => ?_⟩
    have := bgE_sz h1 (by omega)
    omega
  · have e : szS (.mk 4 [] a tr0 th el) = (max (max (szE a).1 (szSL th).1) (szSL el).1 + 1, min ((szE a).2 + (szSL th).2 + (szSL el).2 + 1) 513) := by
      rw [szS, if_pos (by unfold okS; simp [usW, usA, usB, usT, usE, isZr, tr0]), if_pos (by decide), if_neg (by decide), wth_zero', und]; rfl
    rw [e, bg_tr0]
    simp only
    have := (pE_sz h1).2.1
    refine ⟨by omega, fun h => ?_⟩
    have := bgE_sz h1 (by omega)
    have := ht (by omega)
    have := he (by omega)
    omega
  · have e : szS (.mk 5 [] a tr0 th []) = (max (szE a).1 (szSL th).1 + 1, min ((szE a).2 + (szSL th).2 + 1) 513) := by
      rw [szS, if_pos (by unfold okS; simp [usW, usA, usB, usT, usE, isZr, tr0]), szSL, if_pos (by decide), if_neg (by decide), wth_zero', wth_zero', und]; rfl
    rw [e, bg_tr0]
    simp only
    have := (pE_sz h1).2.1
    refine ⟨by omega, fun h => ?_⟩
    have := bgE_sz h1 (by omega)
    have := ht (by omega)
    have : bgSL [] = 0 := by rw [bgSL]
    omega
  · have e : szS (.mk 6 [] tr0 tr0 [] []) = (1, 1) := by
      rw [szS, if_pos (by unfold okS; simp [usW, usA, usB, usT, usE, isZr, tr0]), szSL, if_neg (by decide), if_neg (by decide), wth_zero', wth_zero', und]; rfl
    rw [e, bg_tr0, bgSL]
    simp only
    exact ⟨by omega, fun _ => by omega⟩
  · have e : szS (.mk 7 [] a tr0 [] []) = ((szE a).1 + 1, min ((szE a).2 + 1) 513) := by
      rw [szS, if_pos (by unfold okS; simp [usW, usA, usB, usT, usE, isZr, tr0]), szSL, if_pos (by decide), if_neg (by decide), wth_zero', wth_zero', wth_zero', und]
    rw [e, bg_tr0, bgSL]
    simp only
    have := (pE_sz h1).2.1
    refine ⟨by omega, fun h => ?_⟩
    have := bgE_sz h1 (by omega)
    omega
theorem bg_all : ∀ n : Nat, (∀ s, bgS s ≤ n → WfS s → BgS s) ∧ (∀ l, bgSL l ≤ n → WfL l → BgL l)
  | 0 => by
    refine ⟨fun s h => absurd h (by have := bgS_pos s; omega), fun l h _ => ?_⟩
    cases l with
    | nil => exact bgl_nil
    | cons s r => exact absurd h (by have := bgS_pos s; rw [bgSL]; omega)
  | n + 1 => by
    obtain ⟨i1, i2⟩ := bg_all n
    have j1 : ∀ s, bgS s ≤ n + 1 → WfS s → BgS s := by
      intro s hb hw
      obtain ⟨k, w, a, b, th, el⟩ := s
      rw [bgS_eq] at hb
      have hwt : WfL th ∧ WfL el := by
        unfold WfS at hw
        rcases hw with ⟨-, -, -, -, rfl, rfl⟩ | ⟨-, -, -, -, rfl, rfl⟩ | ⟨-, -, -, -, rfl, rfl⟩ | ⟨-, -, -, -, h2, h3⟩ | ⟨-, -, -, -, h2, rfl⟩ | ⟨-, -, -, -, rfl, rfl⟩ | ⟨-, -, -, -, rfl, rfl⟩
        · exact ⟨by unfold WfL; trivial, by unfold WfL; trivial⟩
        · exact ⟨by unfold WfL; trivial, by unfold WfL; trivial⟩
        · exact ⟨by unfold WfL; trivial, by unfold WfL; trivial⟩
        · exact ⟨h2, h3⟩
        · exact ⟨h2, by unfold WfL; trivial⟩
        · exact ⟨by unfold WfL; trivial, by unfold WfL; trivial⟩
        · exact ⟨by unfold WfL; trivial, by unfold WfL; trivial⟩
      exact bgS_of hw (i2 th (by omega) hwt.1) (i2 el (by omega) hwt.2)
    refine ⟨j1, fun l h hw => ?_⟩
    cases l with
    | nil => exact bgl_nil
    | cons s r =>
      unfold WfL at hw
      have e : bgSL (s :: r) = bgS s + bgSL r := by rw [bgSL]
      rw [e] at h
      have := bgS_pos s
      exact bgl_cons (j1 s (by omega) hw.1) (i2 r (by omega) hw.2)
theorem chk_bg {l : List St} (hw : WfL l) (h : chk l = 0) : bgSL l ≤ 1536 := by
  obtain ⟨-, -, h2⟩ := chk_zero h
  have := (bg_all (bgSL l)).2 l (Nat.le_refl _) hw h2
  omega
theorem wfL_mem : ∀ {l : List St}, WfL l → ∀ s ∈ l, WfS s ∧ bgS s ≤ bgSL l
  | [], _, s, h => by cases h
  | a :: r, hw, s, h => by
    unfold WfL at hw
    rw [bgSL]
    rcases List.mem_cons.1 h with h | h
    · rw [h]; exact ⟨hw.1, by omega⟩
    · have := wfL_mem hw.2 s h
      exact ⟨this.1, by omega⟩
theorem st_all : ∀ n : Nat, n ≤ 1048576 → (∀ s, bgS s ≤ n → WfS s → TS s) ∧ (∀ l, bgSL l ≤ n → WfL l → TN l)
  | 0, _ => by
    refine ⟨fun s h => absurd h (by have := bgS_pos s; omega), fun l h hw => ?_⟩
    cases l with
    | nil => exact lines_any (fun s h => by cases h) (fun s h => by cases h) ((lnS 0).2 [] h hw)
    | cons s r => exact absurd h (by have := bgS_pos s; rw [bgSL]; omega)
  | n + 1, hn => by
    obtain ⟨i1, i2⟩ := st_all n (by omega)
    have L2 := fun l (hw : WfL l) => (lnS (bgSL l)).2 l (Nat.le_refl _) hw
    have L1 := fun s (hw : WfS s) => (lnS (bgS s)).1 s (Nat.le_refl _) hw
    have j1 : ∀ s, bgS s ≤ n + 1 → WfS s → TS s := by
      intro s hb hw
      obtain ⟨k, w, a, b, th, el⟩ := s
      rw [bgS_eq] at hb
      have ha := bgE_pos a
      have hb0 := bgE_pos b
      unfold WfS at hw
      rcases hw with ⟨rfl, h1, h2, rfl, rfl, rfl⟩ | ⟨rfl, rfl, h1, h2, rfl, rfl⟩ | ⟨rfl, rfl, h1, rfl, rfl, rfl⟩ | ⟨rfl, rfl, h1, rfl, h2, h3⟩ | ⟨rfl, rfl, h1, rfl, h2, rfl⟩ | ⟨rfl, rfl, rfl, rfl, rfl, rfl⟩ | ⟨rfl, rfl, h1, rfl, rfl, rfl⟩
      · exact sx_asg h1 h2 (by omega)
      · exact sx_sto h1 (by omega) h2 (by omega)
      · exact sx_rel h1 (by omega)
      · refine sx_if h1 (by omega) (i2 th (by omega) h2) (L2 th h2) (i2 el (by omega) h3) (L2 el h3) (fun s hs => ?_) (fun s hs => ?_)
        · subst hs
          have e : bgSL [s] = bgS s := by rw [bgSL, bgSL]; rfl
          rw [e] at hb
          unfold WfL at h3
          exact i1 s (by omega) h3.1
        · subst hs
          unfold WfL at h3
          exact L1 s h3.1
      · exact sx_whl h1 (by omega) (i2 th (by omega) h2) (L2 th h2)
      · exact sx_abo
      · exact sx_ret h1 (by omega)
    refine ⟨j1, fun l h hw => ?_⟩
    have hm := wfL_mem hw
    exact lines_any (fun s hs => j1 s (Nat.le_trans (hm s hs).2 h) (hm s hs).1) (fun s hs => L1 s (hm s hs).1) (L2 l hw)
theorem sl_lt {w w' : World} {l : List St} {p : Option Addr} {c : Nat} {xs : List Value} (ho : OwnP w' (fun g => w.heap.size ≤ g) 56 12 (.slice p l.length c) l.length xs) (hx : SL w' (fun g => w.heap.size ≤ g) 54 56 l xs) : PtL w' w'.heap.size p c l :=
  ⟨xs, ho.lt.mono (fun _ hg => hg.2), hx.lt.mono (fun _ hg => hg.2)⟩
set_option maxHeartbeats 1000000 in
set_option maxRecDepth 100000 in
theorem print_any {w : World} {l : List St} {p : Option Addr} {c : Nat} (hG : PG w) (h : PtL w w.heap.size p c l) (hc : chk l = 0) (hw : WfL l) : Calls Tryz.prog 8 #[.slice p l.length c] w fun e w' => e = .returned (.tuple #[.string (bs (pL [] l)), .int .i64 0]) ∧ Keeps (fun _ => False) w w' := by
  have hbg := chk_bg hw hc
  obtain ⟨-, hz1, hz2⟩ := chk_zero hc
  obtain ⟨xs, h1, h2⟩ := h
  have hC := check_any hG.g hG.h h1 h2 (by omega)
  rw [hc] at hC
  have hN := fun W (k : Keeps (fun _ => False) w W) => (st_all 1048576 (Nat.le_refl _)).2 l (by omega) hw W w.heap.size p c [] (hG.keep k) (PtL.keep ⟨xs, h1, h2⟩ k) hz2 (by simpa using hz1)
  obtain ⟨n, hn⟩ : ∃ n, n = l.length := ⟨_, rfl⟩
  rw [← hn] at hC ⊢
  simp only [← hn] at hN
  obtain ⟨S, hS⟩ : ∃ S, S = bs (pL [] l) := ⟨_, rfl⟩
  rw [← hS]
  simp only [← hS] at hN
  clear hS hn h1 h2 hz1 hz2 hG hc hw hbg
  go_enter Tryz.func8, Tryz.ntmps8
  go_wp2_with (first | (go_at_call 7; refine hC.mono ?_; clear hC; rintro e w1 ⟨rfl, k1⟩; have hN1 := hN w1 k1; clear hN) | (go_at_call 17; refine hN1.mono ?_; clear hN1; rintro e w2 ⟨rfl, k2⟩))
  go_ret2
  exact ⟨rfl, k1.trans k2⟩
/-- A reading's program and its fault. -/
def lsX' (x : Except (Int × Int × Int) (List St)) : List St := match x with
  | .ok l => l
  | .error _ => []
def ftX' (x : Except (Int × Int × Int) (List St)) : Int × Int × Int := match x with
  | .ok _ => (0, 0, 0)
  | .error f => f
def PrsV (f : Int × Int × Int) (l : List St) (w : World) (e : Ending) (w' : World) : Prop := ∃ (p : Option Addr) (c : Nat) (xs : List Value), e = .returned (.tuple #[.slice p l.length c, .agg #[.int .i64 f.1, .int .i64 f.2.1, .int .i64 f.2.2]]) ∧ OwnP w' (fun g => w.heap.size ≤ g) 56 12 (.slice p l.length c) l.length xs ∧ SL w' (fun g => w.heap.size ≤ g) 54 56 l xs ∧ Keeps (fun _ => False) w w'
theorem parse_v {w : World} (T : Bs) (hG : SG w) (h12 : 12 ≤ w.heap.size) : Calls Tryz.prog 6 #[.string (bs T)] w (PrsV (ftX' (prX T)) (lsX' (prX T)) w) := by
  refine (parse_all hG h12).mono fun e w' h => ?_
  cases hx : prX T with
  | ok l =>
    rw [hx] at h
    exact h
  | error f =>
    rw [hx] at h
    obtain ⟨h1, h2⟩ := h
    exact ⟨none, 0, [], h1, ownP_nil _ _ _ _, SL.nil _ _ _ _, h2⟩
end Go.Proofs.YtdpnknleobobkaaGreatDoor
