import Derived.Test.YtckjnjdmnhmgeaaGreatDoorXcF
namespace Go.Proofs.YtckjnjdmnhmgeaaGreatDoor
open Go.RowKit Go.ChangeShapes Go.WideShapes Go.ChangeAt Go.Deep
attribute [local go_sem] Oper.semAt_some run_store_nf run_store_f
/-- "x = 1;" -/
def tx2 : Bs := [120, 32, 61, 32, 49, 59]
set_option maxRecDepth 1000000 in
theorem prX_tx2 : prX tx2 = .error (231, 1, 3) := by kernel_rfl
theorem chk_a : chk [.mk 6 [] tr0 tr0 [] [], .mk 8 [] tr0 tr0 [] []] = 235 := by kernel_rfl
theorem chk_b : chk [.mk 6 [] tr0 tr0 [] []] = 0 := by kernel_rfl
theorem bg_a : bgSL [.mk 6 [] tr0 tr0 [] [], .mk 8 [] tr0 tr0 [] []] = 6 := by kernel_rfl
theorem bg_b : bgSL [.mk 6 [] tr0 tr0 [] []] = 3 := by kernel_rfl
set_option maxHeartbeats 1000000 in
set_option maxRecDepth 100000 in
theorem names_law {w : World} (hG : SG w) (h12 : 12 ≤ w.heap.size) : Calls Tryz.prog 3 #[] w fun e w' => e = .returned (.bool true) ∧ Below w.heap.size w w' := by
  have hP := parse_all (T := tx2) hG h12
  rw [prX_tx2] at hP
  go_enter Tryz.func3, Tryz.ntmps3
  refine wp_seq_k (fun KK hKK => ?_)
  have hKH : Hid _ := hKK
  clear hKK
  go_wp2_with fail
  refine hKH.out _ _ ?_
  clear hKH KK
  refine wp_seq_k (fun KK hKK => ?_)
  have hKH : Hid _ := hKK
  clear hKK
  go_wp2_with (go_at_call 6; refine hP.mono ?_; clear hP; rintro e w1 ⟨rfl, k1⟩)
  refine hKH.out _ _ ?_
  clear hKH KK
  obtain ⟨W2, hW2⟩ : ∃ W2, W2 = w1.alloc (.cells #[.int .i64 231, .int .i64 1, .int .i64 3] 25) := ⟨_, rfl⟩
  have k2 : Keeps (fun _ => False) w1 W2 := by rw [hW2]; exact (Keeps.refl _ w1).alloc _
  have c2 : CL W2 w1.heap.size [.int .i64 231, .int .i64 1, .int .i64 3] := by rw [hW2]; exact CL.made w1 _ _
  rw [show w1.alloc (.cells #[.int .i64 231, .int .i64 1, .int .i64 3] 25) = W2 from hW2.symm]
  clear hW2
  have K2 := k1.trans k2
  clear k1 k2
  obtain ⟨Va, hVa⟩ : ∃ Va, Va = W2.alloc (.cells #[.int .i64 6, .string ⟨#[]⟩, .int .i64 0, .int .i64 0, .string ⟨#[]⟩, .slice none 0 0, .int .i64 0, .int .i64 0, .string ⟨#[]⟩, .slice none 0 0, .slice none 0 0, .slice none 0 0, .int .i64 8, .string ⟨#[]⟩, .int .i64 0, .int .i64 0, .string ⟨#[]⟩, .slice none 0 0, .int .i64 0, .int .i64 0, .string ⟨#[]⟩, .slice none 0 0, .slice none 0 0, .slice none 0 0] 33) := ⟨_, rfl⟩
  have kVa : Keeps (fun _ => False) W2 Va := by rw [hVa]; exact (Keeps.refl _ W2).alloc _
  have oVa : OwnP Va (fun _ => True) 33 12 (.slice (some ⟨W2.heap.size, 0, none⟩) 2 2) 2 [.int .i64 6, .string ⟨#[]⟩, .int .i64 0, .int .i64 0, .string ⟨#[]⟩, .slice none 0 0, .int .i64 0, .int .i64 0, .string ⟨#[]⟩, .slice none 0 0, .slice none 0 0, .slice none 0 0, .int .i64 8, .string ⟨#[]⟩, .int .i64 0, .int .i64 0, .string ⟨#[]⟩, .slice none 0 0, .int .i64 0, .int .i64 0, .string ⟨#[]⟩, .slice none 0 0, .slice none 0 0, .slice none 0 0] := by rw [hVa]; exact ⟨own_lit W2 _ _ _ _ rfl (by decide), fun _ _ => trivial⟩
  have xVa : SL Va (fun _ => True) 31 33 [.mk 6 [] tr0 tr0 [] [], .mk 8 [] tr0 tr0 [] []] [.int .i64 6, .string ⟨#[]⟩, .int .i64 0, .int .i64 0, .string ⟨#[]⟩, .slice none 0 0, .int .i64 0, .int .i64 0, .string ⟨#[]⟩, .slice none 0 0, .slice none 0 0, .slice none 0 0, .int .i64 8, .string ⟨#[]⟩, .int .i64 0, .int .i64 0, .string ⟨#[]⟩, .slice none 0 0, .int .i64 0, .int .i64 0, .string ⟨#[]⟩, .slice none 0 0, .slice none 0 0, .slice none 0 0] := SL.snoc (SC.join (w := Va) (P := fun _ => True) (k := 8) (wd := []) (th := []) (el := []) i64d (by decide) (tr0_cells _ _ _) (tr0_cells _ _ _) (ownP_nil _ _ _ _) (SL.nil _ _ _ _) (ownP_nil _ _ _ _) (SL.nil _ _ _ _)) (SL.snoc (SC.join (w := Va) (P := fun _ => True) (k := 6) (wd := []) (th := []) (el := []) i64d (by decide) (tr0_cells _ _ _) (tr0_cells _ _ _) (ownP_nil _ _ _ _) (SL.nil _ _ _ _) (ownP_nil _ _ _ _) (SL.nil _ _ _ _)) (SL.nil Va (fun _ => True) 31 33))
  have KVa := K2.trans kVa
  have gVa := hG.keep KVa (fun _ _ e => e)
  have hC := check_any (ps := [.mk 6 [] tr0 tr0 [] [], .mk 8 [] tr0 tr0 [] []]) gVa (Nat.le_trans h12 KVa.size) (oVa.lt.mono (fun g hg => hg.2)) (xVa.lt.mono (fun g hg => hg.2)) (by rw [bg_a]; decide)
  rw [chk_a] at hC
  refine wp_seq_k (fun KK hKK => ?_)
  have hKH : Hid _ := hKK
  clear hKK
  go_wp2_with (first | (refine wpList_build2L uSt inSt (by decide) (by decide) rfl _ _  rfl [.int .i64 6, .string ⟨#[]⟩, .int .i64 0, .int .i64 0, .string ⟨#[]⟩, .slice none 0 0, .int .i64 0, .int .i64 0, .string ⟨#[]⟩, .slice none 0 0, .slice none 0 0, .slice none 0 0] [.int .i64 8, .string ⟨#[]⟩, .int .i64 0, .int .i64 0, .string ⟨#[]⟩, .slice none 0 0, .int .i64 0, .int .i64 0, .string ⟨#[]⟩, .slice none 0 0, .slice none 0 0, .slice none 0 0] rfl rfl rfl rfl ?_; (try simp only [Act.put, List.setIfInBounds_toArray, List.set_cons_zero, List.set_cons_succ])) | (go_at_call 7; rw [← hVa]; refine hC.mono ?_; clear hC; rintro e W3 ⟨rfl, k3⟩))
  refine hKH.out _ _ ?_
  clear hKH KK
  have c3 := (c2.keep (by show 0 < 3; decide) kVa (fun e => e)).keep (by show 0 < 3; decide) k3 (fun e => e)
  have K2 := KVa.trans k3
  clear hVa kVa oVa xVa KVa gVa k3 c2
  obtain ⟨Vb, hVb⟩ : ∃ Vb, Vb = W3.alloc (.cells #[.int .i64 6, .string ⟨#[]⟩, .int .i64 0, .int .i64 0, .string ⟨#[]⟩, .slice none 0 0, .int .i64 0, .int .i64 0, .string ⟨#[]⟩, .slice none 0 0, .slice none 0 0, .slice none 0 0] 33) := ⟨_, rfl⟩
  have kVb : Keeps (fun _ => False) W3 Vb := by rw [hVb]; exact (Keeps.refl _ W3).alloc _
  have oVb : OwnP Vb (fun _ => True) 33 12 (.slice (some ⟨W3.heap.size, 0, none⟩) 1 1) 1 [.int .i64 6, .string ⟨#[]⟩, .int .i64 0, .int .i64 0, .string ⟨#[]⟩, .slice none 0 0, .int .i64 0, .int .i64 0, .string ⟨#[]⟩, .slice none 0 0, .slice none 0 0, .slice none 0 0] := by rw [hVb]; exact ⟨own_lit W3 _ _ _ _ rfl (by decide), fun _ _ => trivial⟩
  have xVb : SL Vb (fun _ => True) 31 33 [.mk 6 [] tr0 tr0 [] []] [.int .i64 6, .string ⟨#[]⟩, .int .i64 0, .int .i64 0, .string ⟨#[]⟩, .slice none 0 0, .int .i64 0, .int .i64 0, .string ⟨#[]⟩, .slice none 0 0, .slice none 0 0, .slice none 0 0] := SL.snoc (SC.join (w := Vb) (P := fun _ => True) (k := 6) (wd := []) (th := []) (el := []) i64d (by decide) (tr0_cells _ _ _) (tr0_cells _ _ _) (ownP_nil _ _ _ _) (SL.nil _ _ _ _) (ownP_nil _ _ _ _) (SL.nil _ _ _ _)) (SL.nil Vb (fun _ => True) 31 33)
  have KVb := K2.trans kVb
  have gVb := hG.keep KVb (fun _ _ e => e)
  have hC := check_any (ps := [.mk 6 [] tr0 tr0 [] []]) gVb (Nat.le_trans h12 KVb.size) (oVb.lt.mono (fun g hg => hg.2)) (xVb.lt.mono (fun g hg => hg.2)) (by rw [bg_b]; decide)
  rw [chk_b] at hC
  refine wp_seq_k (fun KK hKK => ?_)
  have hKH : Hid _ := hKK
  clear hKK
  go_wp2_with (first | (refine wpList_build1L uSt inSt (by decide) (by decide) rfl _  rfl [.int .i64 6, .string ⟨#[]⟩, .int .i64 0, .int .i64 0, .string ⟨#[]⟩, .slice none 0 0, .int .i64 0, .int .i64 0, .string ⟨#[]⟩, .slice none 0 0, .slice none 0 0, .slice none 0 0] rfl rfl ?_; (try simp only [Act.put, List.setIfInBounds_toArray, List.set_cons_zero, List.set_cons_succ])) | (go_at_call 7; rw [← hVb]; refine hC.mono ?_; clear hC; rintro e W4 ⟨rfl, k4⟩))
  refine hKH.out _ _ ?_
  clear hKH KK
  have c4 := (c3.keep (by show 0 < 3; decide) kVb (fun e => e)).keep (by show 0 < 3; decide) k4 (fun e => e)
  have K4 := KVb.trans k4
  have hF := fixed_ok (hG.keep K4 (fun _ _ e => e)) (Nat.le_trans h12 K4.size)
  clear hVb kVb oVb xVb KVb gVb k4 c3 hG h12 K2
  go_wp2_with (go_at_call 8; refine hF.mono ?_; clear hF; rintro e W5 ⟨rfl, k5⟩; have c5 := c4.keep (by show 0 < 3; decide) k5 (fun e => e); have f0 := c5.c 0 _ rfl; have f1 := c5.c 1 _ rfl; have f2 := c5.c 2 _ rfl)
  go_ret
  exact ⟨rfl, (K4.trans k5).below (Nat.le_refl _) (fun _ _ e => e)⟩
end Go.Proofs.YtckjnjdmnhmgeaaGreatDoor
