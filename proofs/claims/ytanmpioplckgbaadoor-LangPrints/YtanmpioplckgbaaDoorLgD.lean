import Derived.Test.YtanmpioplckgbaaDoorLgC
import Derived.Test.YtanmpioplckgbaaDoorTab
namespace Go.Proofs.YtanmpioplckgbaaDoor
open Go.RowKit
attribute [local go_sem] Oper.semAt_some run_store_nf run_store_f
/-- The operators' and the relations' names. -/
def OT (w : World) : Prop := ∀ i, i < 13 → w.cell? ⟨1, i, none⟩ = some (.string (opT i))
def RT (w : World) : Prop := ∀ i, i < 7 → w.cell? ⟨2, i, none⟩ = some (.string (relT i))
theorem OT.keep {w w' : World} {S : Nat → Prop} (h : OT w) (k : Keeps S w w') (hS : ¬ S 1) : OT w' := fun i hi => k.cell (h i hi) hS
theorem RT.keep {w w' : World} {S : Nat → Prop} (h : RT w) (k : Keeps S w w') (hS : ¬ S 2) : RT w' := fun i hi => k.cell (h i hi) hS
theorem opName_in (i : Nat) (h1 : 1 ≤ i) (h2 : i ≤ 12) (w : World) (hc : w.cell? ⟨1, i, none⟩ = some (.string (opT i))) :
    Calls Tryd.prog 26 #[.int .i64 i] w fun e w' => e = .returned (.string (opT i)) ∧ w' = w := by
  have b1 : decide ((i : Int) ≤ 12) = true := by simp; omega
  have b2 : decide ((i : Int) < 1) = false := by simp; omega
  have b3 : decide ((12 : Int) < i) = false := by simp; omega
  go_enter Tryd.func26, Tryd.ntmps26
  go_wp2
  go_ret
  exact ⟨rfl, rfl⟩
theorem opName_out (op : Int) (h : op < 1 ∨ 12 < op) (w : World) :
    Calls Tryd.prog 26 #[.int .i64 op] w fun e w' => e = .returned (.string ⟨#[]⟩) ∧ w' = w := by
  rcases h with h | h
  · go_enter Tryd.func26, Tryd.ntmps26
    go_wp2
    go_ret
    exact ⟨rfl, rfl⟩
  · have h1 : 1 ≤ op := by omega
    have h2 : decide (op ≤ 12) = false := by simp; omega
    have h3 : decide (op < 1) = false := by simp; omega
    go_enter Tryd.func26, Tryd.ntmps26
    go_wp2
    go_ret
    exact ⟨rfl, rfl⟩
theorem opName_ne (op : Int) (w : World) (hc : OT w) :
    Calls Tryd.prog 26 #[.int .i64 op] w fun e w' => ∃ s : ByteArray, e = .returned (.string s) ∧ s.toList.isEmpty = !(isOp op) ∧ w' = w := by
  by_cases h : 1 ≤ op ∧ op ≤ 12
  · obtain ⟨i, rfl⟩ := Int.eq_ofNat_of_zero_le (show 0 ≤ op by omega)
    refine (opName_in i (by omega) (by omega) w (hc i (by omega))).mono ?_
    rintro e w' ⟨rfl, rfl⟩
    refine ⟨_, rfl, ?_, rfl⟩
    have hi : i = 1 ∨ i = 2 ∨ i = 3 ∨ i = 4 ∨ i = 5 ∨ i = 6 ∨ i = 7 ∨ i = 8 ∨ i = 9 ∨ i = 10 ∨ i = 11 ∨ i = 12 := by omega
    rcases hi with rfl | rfl | rfl | rfl | rfl | rfl | rfl | rfl | rfl | rfl | rfl | rfl <;> (rw [ByteArray.toList_eq]; rfl)
  · refine (opName_out op (by omega) w).mono ?_
    rintro e w' ⟨rfl, rfl⟩
    refine ⟨_, rfl, ?_, rfl⟩
    have : isOp op = false := by unfold isOp; rw [Bool.and_eq_false_iff]; simp; omega
    rw [this, ByteArray.toList_eq]; rfl
theorem relName_in (i : Nat) (h1 : 1 ≤ i) (h2 : i ≤ 6) (w : World) (hc : w.cell? ⟨2, i, none⟩ = some (.string (relT i))) :
    Calls Tryd.prog 43 #[.int .i64 i] w fun e w' => e = .returned (.string (relT i)) ∧ w' = w := by
  have b1 : decide ((i : Int) ≤ 6) = true := by simp; omega
  have b2 : decide ((i : Int) < 1) = false := by simp; omega
  have b3 : decide ((6 : Int) < i) = false := by simp; omega
  go_enter Tryd.func43, Tryd.ntmps43
  go_wp2
  go_ret
  exact ⟨rfl, rfl⟩
theorem relName_out (op : Int) (h : op < 1 ∨ 6 < op) (w : World) :
    Calls Tryd.prog 43 #[.int .i64 op] w fun e w' => e = .returned (.string ⟨#[]⟩) ∧ w' = w := by
  rcases h with h | h
  · have h3 : decide (op < 1) = true := by simp; omega
    go_enter Tryd.func43, Tryd.ntmps43
    go_wp2
    go_ret
    exact ⟨rfl, rfl⟩
  · have h1 : 1 ≤ op := by omega
    have h2 : decide (op ≤ 6) = false := by simp; omega
    have h3 : decide (op < 1) = false := by simp; omega
    have h4 : decide (6 < op) = true := by simp; omega
    go_enter Tryd.func43, Tryd.ntmps43
    go_wp2
    go_ret
    exact ⟨rfl, rfl⟩
theorem relName_ne (op : Int) (w : World) (hc : RT w) :
    Calls Tryd.prog 43 #[.int .i64 op] w fun e w' => ∃ s : ByteArray, e = .returned (.string s) ∧ s.toList.isEmpty = !(isRel op) ∧ w' = w := by
  by_cases h : 1 ≤ op ∧ op ≤ 6
  · obtain ⟨i, rfl⟩ := Int.eq_ofNat_of_zero_le (show 0 ≤ op by omega)
    refine (relName_in i (by omega) (by omega) w (hc i (by omega))).mono ?_
    rintro e w' ⟨rfl, rfl⟩
    refine ⟨_, rfl, ?_, rfl⟩
    have hi : i = 1 ∨ i = 2 ∨ i = 3 ∨ i = 4 ∨ i = 5 ∨ i = 6 := by omega
    rcases hi with rfl | rfl | rfl | rfl | rfl | rfl <;> (rw [ByteArray.toList_eq]; rfl)
  · refine (relName_out op (by omega) w).mono ?_
    rintro e w' ⟨rfl, rfl⟩
    refine ⟨_, rfl, ?_, rfl⟩
    have : isRel op = false := by unfold isRel; rw [Bool.and_eq_false_iff]; simp; omega
    rw [this, ByteArray.toList_eq]; rfl
theorem iOp : (Tryd.prog.info? 27).map (·.size) = some 2 := by kernel_rfl
set_option maxHeartbeats 1000000 in
set_option maxRecDepth 100000 in
/-- One field is taken over. -/
theorem use_any {w : World} {ub : Nat} {u : Ins} (q : Ins) (n s : Int) (hs : 1 ≤ s ∧ s ≤ 6) (hU : CL w ub u.cells) (hR : RT w) (hu2 : ¬ (2 = ub)) :
    Calls Tryd.prog 36 #[.pointer (some ⟨ub, 0, none⟩), .agg q.cells.toArray, .int .i64 s, .int .i64 n] w fun e w' => e = .returned (.bool (q.oks n s)) ∧ CL w' ub (u.lay q s).cells ∧ Keeps (fun k => k = ub) w w' := by
  obtain ⟨cd, dst, oR, oN, xR, xN, yR, yN, op, rel, to⟩ := q
  show Calls Tryd.prog 36 #[.pointer (some ⟨ub, 0, none⟩), .agg #[.int .i64 cd, .int .i64 dst, .bool oR, .int .i64 oN, .bool xR, .int .i64 xN, .bool yR, .int .i64 yN, .int .i64 op, .int .i64 rel, .int .i64 to], .int .i64 s, .int .i64 n] w _
  obtain ⟨w0, hw0⟩ : ∃ w0, w0 = w.alloc (.cells #[.int .i64 cd, .int .i64 dst, .bool oR, .int .i64 oN, .bool xR, .int .i64 xN, .bool yR, .int .i64 yN, .int .i64 op, .int .i64 rel, .int .i64 to] 31) := ⟨_, rfl⟩
  have k0 : Keeps (fun _ => False) w w0 := by rw [hw0]; exact (Keeps.refl _ w).alloc _
  have lu := hU.lt (by show 0 < 11; decide)
  have nu : ¬ ub = w.heap.size := by omega
  have nu' : ¬ w.heap.size = ub := by omega
  have hU0 := hU.keep (by show 0 < 11; decide) k0 (fun e => e)
  have hI : CL w0 w.heap.size [.int .i64 cd, .int .i64 dst, .bool oR, .int .i64 oN, .bool xR, .int .i64 xN, .bool yR, .int .i64 yN, .int .i64 op, .int .i64 rel, .int .i64 to] := by rw [hw0]; exact CL.made w [.int .i64 cd, .int .i64 dst, .bool oR, .int .i64 oN, .bool xR, .int .i64 xN, .bool yR, .int .i64 yN, .int .i64 op, .int .i64 rel, .int .i64 to] _
  rcases (by omega : s = 1 ∨ s = 2 ∨ s = 3 ∨ s = 4 ∨ s = 5 ∨ s = 6) with rfl | rfl | rfl | rfl | rfl | rfl
  · subst hw0
    have hS := (hU.set (o := 1) (by first | (show 1 < 11; decide) | (simp only [List.length_set]; show 1 < 11; decide)) (.int .i64 dst)).alloc (by first | (show 0 < 11; decide) | (simp only [List.length_set]; show 0 < 11; decide)) (.cells #[.int .i64 cd, .int .i64 dst, .bool oR, .int .i64 oN, .bool xR, .int .i64 xN, .bool yR, .int .i64 yN, .int .i64 op, .int .i64 rel, .int .i64 to] 31)
    have kS := ((Keeps.refl (fun k => k = ub) w).setA 1 (.int .i64 dst)).alloc (.cells #[.int .i64 cd, .int .i64 dst, .bool oR, .int .i64 oN, .bool xR, .int .i64 xN, .bool yR, .int .i64 yN, .int .i64 op, .int .i64 rel, .int .i64 to] 31)
    have z1 := hU0.z 1 (by show 1 < 11; decide)
    have c1 := hU0.c 1 _ rfl
    go_enter Tryd.func36, Tryd.ntmps36
    go_wp2_with (go_at_call 50; refine (isReg_any _ _).mono ?_; rintro e w' ⟨rfl, rfl⟩)
    go_ret
    exact ⟨rfl, hS, kS⟩
  · go_enter Tryd.func36, Tryd.ntmps36
    go_wp2_with (first | (rw [← hw0]; clear hw0; refine wpList_store_cl rfl 27 _ _ rfl ub 2 2 _ rfl rfl rfl hU0 (by show 4 ≤ 11; decide) iOp (all_oneCell_toArray (by simp [Value.oneCell'])) ?_; intro w5 hc5 k5 hsz5; clear hsz5; have hI5 := hI.keep (by show 0 < 11; decide) k5 nu'; have b0 := hI5.c 2 _ rfl; have b1 := hI5.c 3 _ rfl) | (go_at_call 51; refine (inBounds_any _ _ _).mono ?_; rintro e wi ⟨rfl, ki⟩))
    go_ret
    exact ⟨rfl, hc5.keep (by show 0 < 11; decide) ki (fun e => e), (k0.mono (fun _ _ e => e.elim)).trans (k5.trans (ki.mono (fun _ _ e => e.elim)))⟩
  · go_enter Tryd.func36, Tryd.ntmps36
    go_wp2_with (first | (rw [← hw0]; clear hw0; refine wpList_store_cl rfl 27 _ _ rfl ub 4 2 _ rfl rfl rfl hU0 (by show 6 ≤ 11; decide) iOp (all_oneCell_toArray (by simp [Value.oneCell'])) ?_; intro w5 hc5 k5 hsz5; clear hsz5; have hI5 := hI.keep (by show 0 < 11; decide) k5 nu'; have b0 := hI5.c 4 _ rfl; have b1 := hI5.c 5 _ rfl) | (go_at_call 51; refine (inBounds_any _ _ _).mono ?_; rintro e wi ⟨rfl, ki⟩))
    go_ret
    exact ⟨rfl, hc5.keep (by show 0 < 11; decide) ki (fun e => e), (k0.mono (fun _ _ e => e.elim)).trans (k5.trans (ki.mono (fun _ _ e => e.elim)))⟩
  · go_enter Tryd.func36, Tryd.ntmps36
    go_wp2_with (first | (rw [← hw0]; clear hw0; refine wpList_store_cl rfl 27 _ _ rfl ub 6 2 _ rfl rfl rfl hU0 (by show 8 ≤ 11; decide) iOp (all_oneCell_toArray (by simp [Value.oneCell'])) ?_; intro w5 hc5 k5 hsz5; clear hsz5; have hI5 := hI.keep (by show 0 < 11; decide) k5 nu'; have b0 := hI5.c 6 _ rfl; have b1 := hI5.c 7 _ rfl) | (go_at_call 51; refine (inBounds_any _ _ _).mono ?_; rintro e wi ⟨rfl, ki⟩))
    go_ret
    exact ⟨rfl, hc5.keep (by show 0 < 11; decide) ki (fun e => e), (k0.mono (fun _ _ e => e.elim)).trans (k5.trans (ki.mono (fun _ _ e => e.elim)))⟩
  · subst hw0
    have hS := (hU.set (o := 9) (by first | (show 9 < 11; decide) | (simp only [List.length_set]; show 9 < 11; decide)) (.int .i64 rel)).alloc (by first | (show 0 < 11; decide) | (simp only [List.length_set]; show 0 < 11; decide)) (.cells #[.int .i64 cd, .int .i64 dst, .bool oR, .int .i64 oN, .bool xR, .int .i64 xN, .bool yR, .int .i64 yN, .int .i64 op, .int .i64 rel, .int .i64 to] 31)
    have kS := ((Keeps.refl (fun k => k = ub) w).setA 9 (.int .i64 rel)).alloc (.cells #[.int .i64 cd, .int .i64 dst, .bool oR, .int .i64 oN, .bool xR, .int .i64 xN, .bool yR, .int .i64 yN, .int .i64 op, .int .i64 rel, .int .i64 to] 31)
    have z9 := hU0.z 9 (by show 9 < 11; decide)
    have c9 := hU0.c 9 _ rfl
    have hRS := hR.keep kS (fun e => hu2 e)
    cases hir : isRel rel with
    | true =>
      go_enter Tryd.func36, Tryd.ntmps36
      go_wp2_with (go_at_call 43; refine (relName_ne _ _ hRS).mono ?_; rintro e wi ⟨ss, rfl, hss, rfl⟩)
      go_ret
      exact ⟨by rw [show Ins.oks _ n 5 = isRel rel from rfl, hir]; rfl, hS, kS⟩
    | false =>
      go_enter Tryd.func36, Tryd.ntmps36
      go_wp2_with (go_at_call 43; refine (relName_ne _ _ hRS).mono ?_; rintro e wi ⟨ss, rfl, hss, rfl⟩)
      go_ret
      exact ⟨by rw [show Ins.oks _ n 5 = isRel rel from rfl, hir]; rfl, hS, kS⟩
  · subst hw0
    have hS := (hU.set (o := 10) (by first | (show 10 < 11; decide) | (simp only [List.length_set]; show 10 < 11; decide)) (.int .i64 to)).alloc (by first | (show 0 < 11; decide) | (simp only [List.length_set]; show 0 < 11; decide)) (.cells #[.int .i64 cd, .int .i64 dst, .bool oR, .int .i64 oN, .bool xR, .int .i64 xN, .bool yR, .int .i64 yN, .int .i64 op, .int .i64 rel, .int .i64 to] 31)
    have kS := ((Keeps.refl (fun k => k = ub) w).setA 10 (.int .i64 to)).alloc (.cells #[.int .i64 cd, .int .i64 dst, .bool oR, .int .i64 oN, .bool xR, .int .i64 xN, .bool yR, .int .i64 yN, .int .i64 op, .int .i64 rel, .int .i64 to] 31)
    have z10 := hU0.z 10 (by show 10 < 11; decide)
    have c10 := hU0.c 10 _ rfl
    cases h1 : decide (0 ≤ to) <;> cases h2 : decide (to ≤ n) <;>
    (go_enter Tryd.func36, Tryd.ntmps36
     go_wp2
     go_ret
     exact ⟨by rw [show Ins.oks _ n 6 = (decide (0 ≤ to) && decide (to ≤ n)) from rfl, h1, h2]; rfl, hS, kS⟩)
end Go.Proofs.YtanmpioplckgbaaDoor
