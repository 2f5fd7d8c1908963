import Derived.Test.YtanmpioplckgbaaDoorRefFormat
import Derived.Test.YtanmpioplckgbaaDoorPrY
import Derived.Test.YtanmpioplckgbaaDoorPtZ
namespace Go.Proofs.YtanmpioplckgbaaDoor
open Go.RowKit Go.Deep Go.ChangeShapes Go.WideShapes Go.ChangeAt
theorem rop1 (w : World) : Calls Tryd.prog 49 #[.int .i64 1] w fun e w' => e = .returned (.string (opT 1)) ∧ w' = w := by
  go_enter Tryd.func49, Tryd.ntmps49
  go_wp2
  go_ret
  exact ⟨rfl, rfl⟩
theorem rop2 (w : World) : Calls Tryd.prog 49 #[.int .i64 2] w fun e w' => e = .returned (.string (opT 2)) ∧ w' = w := by
  go_enter Tryd.func49, Tryd.ntmps49
  go_wp2
  go_ret
  exact ⟨rfl, rfl⟩
theorem rop3 (w : World) : Calls Tryd.prog 49 #[.int .i64 3] w fun e w' => e = .returned (.string (opT 3)) ∧ w' = w := by
  go_enter Tryd.func49, Tryd.ntmps49
  go_wp2
  go_ret
  exact ⟨rfl, rfl⟩
theorem rop4 (w : World) : Calls Tryd.prog 49 #[.int .i64 4] w fun e w' => e = .returned (.string (opT 4)) ∧ w' = w := by
  go_enter Tryd.func49, Tryd.ntmps49
  go_wp2
  go_ret
  exact ⟨rfl, rfl⟩
theorem rop5 (w : World) : Calls Tryd.prog 49 #[.int .i64 5] w fun e w' => e = .returned (.string (opT 5)) ∧ w' = w := by
  go_enter Tryd.func49, Tryd.ntmps49
  go_wp2
  go_ret
  exact ⟨rfl, rfl⟩
theorem rop6 (w : World) : Calls Tryd.prog 49 #[.int .i64 6] w fun e w' => e = .returned (.string (opT 6)) ∧ w' = w := by
  go_enter Tryd.func49, Tryd.ntmps49
  go_wp2
  go_ret
  exact ⟨rfl, rfl⟩
theorem rop7 (w : World) : Calls Tryd.prog 49 #[.int .i64 7] w fun e w' => e = .returned (.string (opT 7)) ∧ w' = w := by
  go_enter Tryd.func49, Tryd.ntmps49
  go_wp2
  go_ret
  exact ⟨rfl, rfl⟩
theorem rop8 (w : World) : Calls Tryd.prog 49 #[.int .i64 8] w fun e w' => e = .returned (.string (opT 8)) ∧ w' = w := by
  go_enter Tryd.func49, Tryd.ntmps49
  go_wp2
  go_ret
  exact ⟨rfl, rfl⟩
theorem rop9 (w : World) : Calls Tryd.prog 49 #[.int .i64 9] w fun e w' => e = .returned (.string (opT 9)) ∧ w' = w := by
  go_enter Tryd.func49, Tryd.ntmps49
  go_wp2
  go_ret
  exact ⟨rfl, rfl⟩
theorem rop10 (w : World) : Calls Tryd.prog 49 #[.int .i64 10] w fun e w' => e = .returned (.string (opT 10)) ∧ w' = w := by
  go_enter Tryd.func49, Tryd.ntmps49
  go_wp2
  go_ret
  exact ⟨rfl, rfl⟩
theorem rop11 (w : World) : Calls Tryd.prog 49 #[.int .i64 11] w fun e w' => e = .returned (.string (opT 11)) ∧ w' = w := by
  go_enter Tryd.func49, Tryd.ntmps49
  go_wp2
  go_ret
  exact ⟨rfl, rfl⟩
theorem rop12 (w : World) : Calls Tryd.prog 49 #[.int .i64 12] w fun e w' => e = .returned (.string (opT 12)) ∧ w' = w := by
  go_enter Tryd.func49, Tryd.ntmps49
  go_wp2
  go_ret
  exact ⟨rfl, rfl⟩
theorem rrel1 (w : World) : Calls Tryd.prog 35 #[.int .i64 1] w fun e w' => e = .returned (.string (relT 1)) ∧ w' = w := by
  go_enter Tryd.func35, Tryd.ntmps35
  go_wp2
  go_ret
  exact ⟨rfl, rfl⟩
theorem rrel2 (w : World) : Calls Tryd.prog 35 #[.int .i64 2] w fun e w' => e = .returned (.string (relT 2)) ∧ w' = w := by
  go_enter Tryd.func35, Tryd.ntmps35
  go_wp2
  go_ret
  exact ⟨rfl, rfl⟩
theorem rrel3 (w : World) : Calls Tryd.prog 35 #[.int .i64 3] w fun e w' => e = .returned (.string (relT 3)) ∧ w' = w := by
  go_enter Tryd.func35, Tryd.ntmps35
  go_wp2
  go_ret
  exact ⟨rfl, rfl⟩
theorem rrel4 (w : World) : Calls Tryd.prog 35 #[.int .i64 4] w fun e w' => e = .returned (.string (relT 4)) ∧ w' = w := by
  go_enter Tryd.func35, Tryd.ntmps35
  go_wp2
  go_ret
  exact ⟨rfl, rfl⟩
theorem rrel5 (w : World) : Calls Tryd.prog 35 #[.int .i64 5] w fun e w' => e = .returned (.string (relT 5)) ∧ w' = w := by
  go_enter Tryd.func35, Tryd.ntmps35
  go_wp2
  go_ret
  exact ⟨rfl, rfl⟩
theorem rrel6 (w : World) : Calls Tryd.prog 35 #[.int .i64 6] w fun e w' => e = .returned (.string (relT 6)) ∧ w' = w := by
  go_enter Tryd.func35, Tryd.ntmps35
  go_wp2
  go_ret
  exact ⟨rfl, rfl⟩
theorem rop_in (i : Nat) (h : 1 ≤ i ∧ i ≤ 12) (w : World) : Calls Tryd.prog 49 #[.int .i64 (i : Int)] w fun e w' => e = .returned (.string (opT i)) ∧ w' = w := by
  rcases (by omega : i = 1 ∨ i = 2 ∨ i = 3 ∨ i = 4 ∨ i = 5 ∨ i = 6 ∨ i = 7 ∨ i = 8 ∨ i = 9 ∨ i = 10 ∨ i = 11 ∨ i = 12) with rfl | rfl | rfl | rfl | rfl | rfl | rfl | rfl | rfl | rfl | rfl | rfl
  · exact rop1 w
  · exact rop2 w
  · exact rop3 w
  · exact rop4 w
  · exact rop5 w
  · exact rop6 w
  · exact rop7 w
  · exact rop8 w
  · exact rop9 w
  · exact rop10 w
  · exact rop11 w
  · exact rop12 w
theorem rrel_in (i : Nat) (h : 1 ≤ i ∧ i ≤ 6) (w : World) : Calls Tryd.prog 35 #[.int .i64 (i : Int)] w fun e w' => e = .returned (.string (relT i)) ∧ w' = w := by
  rcases (by omega : i = 1 ∨ i = 2 ∨ i = 3 ∨ i = 4 ∨ i = 5 ∨ i = 6) with rfl | rfl | rfl | rfl | rfl | rfl
  · exact rrel1 w
  · exact rrel2 w
  · exact rrel3 w
  · exact rrel4 w
  · exact rrel5 w
  · exact rrel6 w
/-- An instruction's word. -/
theorem wordOf_T (c : Nat) (hc : 1 ≤ c ∧ c ≤ 10) (op : Int) (ho : c = 6 → isOp op = true) (w : World) : Calls Tryd.prog 32 #[.int .i64 (c : Int), .int .i64 op] w fun e w' => e = .returned (.string (if c = 6 then opT op.toNat else shT c)) ∧ w' = w := by
  rcases (by omega : c = 1 ∨ c = 2 ∨ c = 3 ∨ c = 4 ∨ c = 5 ∨ c = 7 ∨ c = 8 ∨ c = 9 ∨ c = 10 ∨ c = 6) with rfl | rfl | rfl | rfl | rfl | rfl | rfl | rfl | rfl | rfl
  · go_enter Tryd.func32, Tryd.ntmps32
    go_wp2
    go_ret
    exact ⟨rfl, rfl⟩
  · go_enter Tryd.func32, Tryd.ntmps32
    go_wp2
    go_ret
    exact ⟨rfl, rfl⟩
  · go_enter Tryd.func32, Tryd.ntmps32
    go_wp2
    go_ret
    exact ⟨rfl, rfl⟩
  · go_enter Tryd.func32, Tryd.ntmps32
    go_wp2
    go_ret
    exact ⟨rfl, rfl⟩
  · go_enter Tryd.func32, Tryd.ntmps32
    go_wp2
    go_ret
    exact ⟨rfl, rfl⟩
  · go_enter Tryd.func32, Tryd.ntmps32
    go_wp2
    go_ret
    exact ⟨rfl, rfl⟩
  · go_enter Tryd.func32, Tryd.ntmps32
    go_wp2
    go_ret
    exact ⟨rfl, rfl⟩
  · go_enter Tryd.func32, Tryd.ntmps32
    go_wp2
    go_ret
    exact ⟨rfl, rfl⟩
  · go_enter Tryd.func32, Tryd.ntmps32
    go_wp2
    go_ret
    exact ⟨rfl, rfl⟩
  · obtain ⟨i, rfl⟩ : ∃ i : Nat, op = (i : Int) := ⟨op.toNat, by have := ho rfl; unfold isOp at this; simp at this; omega⟩
    have hi : 1 ≤ i ∧ i ≤ 12 := by have := ho rfl; unfold isOp at this; simp at this; omega
    have hN := rop_in i hi w
    clear ho
    go_enter Tryd.func32, Tryd.ntmps32
    go_wp2_with (go_at_call 49; refine hN.mono ?_; rintro e w1 ⟨rfl, rfl⟩)
    go_ret
    exact ⟨rfl, rfl⟩
/-- The document's Format, with its size. -/
theorem rfmt (n : Int) (hn : In64 n) (w : World) : Calls Tryd.prog 31 #[.int .i64 n] w fun e w' => ∃ T : ByteArray, e = .returned (.string T) ∧ Hid (T = ⟨(Lib.itoa n).toArray⟩) ∧ T.size ≤ 20 ∧ Keeps (fun _ => False) w w' := by
  refine (refFormat_any n hn w).mono ?_
  rintro e w' ⟨T, rfl, hT, hb⟩
  have e1 : T = ⟨(Lib.itoa n).toArray⟩ := ba_ext (by rw [← ByteArray.toList_eq, hT])
  refine ⟨T, rfl, e1, ?_, .ofBelow hb⟩
  have := (round_to n hn).2.2.2
  rw [e1]
  show (Lib.itoa n).toArray.size ≤ 20
  simpa using this
set_option maxHeartbeats 500000 in
theorem rtold_T {w : World} (r : Bool) (n : Int) (hn : In64 n) : Calls Tryd.prog 34 #[.agg #[.bool r, .int .i64 n]] w fun e w' => ∃ T : ByteArray, e = .returned (.string T) ∧ Hid (T = ⟨(srcT r n).toArray⟩) ∧ T.size ≤ 21 ∧ Keeps (fun _ => False) w w' := by
  have HF : Hid (∀ W, Calls Tryd.prog 31 #[.int .i64 n] W fun e w' => ∃ T : ByteArray, e = .returned (.string T) ∧ Hid (T = ⟨(Lib.itoa n).toArray⟩) ∧ T.size ≤ 20 ∧ Keeps (fun _ => False) W w') := fun W => rfmt n hn W
  obtain ⟨w0, hw0⟩ : ∃ w0, w0 = w.alloc (.cells #[.bool r, .int .i64 n] 40) := ⟨_, rfl⟩
  have k0 : Keeps (fun _ => False) w w0 := by rw [hw0]; exact (Keeps.refl _ w).alloc _
  have m0 : CL w0 w.heap.size [.bool r, .int .i64 n] := by rw [hw0]; exact CL.made w [.bool r, .int .i64 n] 40
  have c0 := m0.c 0 _ rfl
  have c1 := m0.c 1 _ rfl
  cases r with
  | true =>
    go_enter Tryd.func34, Tryd.ntmps34
    go_wp2_with (first | (rw [← hw0]; clear hw0) | (go_at_call 31; refine (HF.out _).mono ?_; rintro e w1 ⟨T, rfl, hT, hTs, k1⟩))
    go_ret
    exact ⟨_, rfl, (by show _ = _; rw [hT.out, cat_cons]; rfl), (by rw [ByteArray.size_append]; show 1 + T.size ≤ 21; omega), k0.trans k1⟩
  | false =>
    go_enter Tryd.func34, Tryd.ntmps34
    go_wp2_with (first | (rw [← hw0]; clear hw0) | (go_at_call 31; refine (HF.out _).mono ?_; rintro e w1 ⟨T, rfl, hT, hTs, k1⟩))
    go_ret
    exact ⟨_, rfl, hT, (by omega), k0.trans k1⟩
end Go.Proofs.YtanmpioplckgbaaDoor
