import Derived.Test.YthchbcfecconbaaGreatDoorG01
namespace Go.Proofs.YthchbcfecconbaaGreatDoor
open Go.RowKit
attribute [local go_sem] Oper.semAt_some run_store_nf run_store_f
def OT (w : World) : Prop := ∀ i, i < 13 → w.cell? ⟨1, i, none⟩ = some (.string (opT i))
def RT (w : World) : Prop := ∀ i, i < 7 → w.cell? ⟨2, i, none⟩ = some (.string (relT i))
theorem OT.keep {w w' : World} {S : Nat → Prop} (h : OT w) (k : Keeps S w w') (hS : ¬ S 1) : OT w' := fun i hi => k.cell (h i hi) hS
theorem RT.keep {w w' : World} {S : Nat → Prop} (h : RT w) (k : Keeps S w w') (hS : ¬ S 2) : RT w' := fun i hi => k.cell (h i hi) hS
theorem opName_in (i : Nat) (h1 : 1 ≤ i) (h2 : i ≤ 12) (w : World) (hc : w.cell? ⟨1, i, none⟩ = some (.string (opT i))) :
    Calls Tryz.prog 42 #[.int .i64 i] w fun e w' => e = .returned (.string (opT i)) ∧ w' = w := by
  have b1 : decide ((i : Int) ≤ 12) = true := by simp; omega
  have b2 : decide ((i : Int) < 1) = false := by simp; omega
  have b3 : decide ((12 : Int) < i) = false := by simp; omega
  go_enter Tryz.func42, Tryz.ntmps42
  go_wp2
  go_ret
  exact ⟨rfl, rfl⟩
theorem opName_out (op : Int) (h : op < 1 ∨ 12 < op) (w : World) :
    Calls Tryz.prog 42 #[.int .i64 op] w fun e w' => e = .returned (.string ⟨#[]⟩) ∧ w' = w := by
  rcases h with h | h
  · go_enter Tryz.func42, Tryz.ntmps42
    go_wp2
    go_ret
    exact ⟨rfl, rfl⟩
  · have h1 : 1 ≤ op := by omega
    have h2 : decide (op ≤ 12) = false := by simp; omega
    have h3 : decide (op < 1) = false := by simp; omega
    go_enter Tryz.func42, Tryz.ntmps42
    go_wp2
    go_ret
    exact ⟨rfl, rfl⟩
theorem opName_ne (op : Int) (w : World) (hc : OT w) :
    Calls Tryz.prog 42 #[.int .i64 op] w fun e w' => ∃ s : ByteArray, e = .returned (.string s) ∧ s.toList.isEmpty = !(isOp op) ∧ w' = w := by
  by_cases h : 1 ≤ op ∧ op ≤ 12
  · obtain ⟨i, rfl⟩ := Int.eq_ofNat_of_zero_le (show 0 ≤ op by omega)
    refine (opName_in i (by omega) (by omega) w (hc i (by omega))).mono ?_
    rintro e w' ⟨rfl, rfl⟩
    refine ⟨_, rfl, ?_, rfl⟩
    have hi : i = 1 ∨ i = 2 ∨ i = 3 ∨ i = 4 ∨ i = 5 ∨ i = 6 ∨ i = 7 ∨ i = 8 ∨ i = 9 ∨ i = 10 ∨ i = 11 ∨ i = 12 := by omega
    rcases hi with rfl | rfl | rfl | rfl | rfl | rfl | rfl | rfl | rfl | rfl | rfl | rfl <;> (rw [ByteArray.toList_eq]; rfl)
  · refine (opName_out op (by omega) w).mono ?_
    rintro e w' ⟨rfl, rfl⟩
    refine ⟨_, rfl, ?_, rfl⟩
    have : isOp op = false := by unfold isOp; rw [Bool.and_eq_false_iff]; simp; omega
    rw [this, ByteArray.toList_eq]; rfl
theorem relName_in (i : Nat) (h1 : 1 ≤ i) (h2 : i ≤ 6) (w : World) (hc : w.cell? ⟨2, i, none⟩ = some (.string (relT i))) :
    Calls Tryz.prog 70 #[.int .i64 i] w fun e w' => e = .returned (.string (relT i)) ∧ w' = w := by
  have b1 : decide ((i : Int) ≤ 6) = true := by simp; omega
  have b2 : decide ((i : Int) < 1) = false := by simp; omega
  have b3 : decide ((6 : Int) < i) = false := by simp; omega
  go_enter Tryz.func70, Tryz.ntmps70
  go_wp2
  go_ret
  exact ⟨rfl, rfl⟩
theorem relName_out (op : Int) (h : op < 1 ∨ 6 < op) (w : World) :
    Calls Tryz.prog 70 #[.int .i64 op] w fun e w' => e = .returned (.string ⟨#[]⟩) ∧ w' = w := by
  rcases h with h | h
  · have h3 : decide (op < 1) = true := by simp; omega
    go_enter Tryz.func70, Tryz.ntmps70
    go_wp2
    go_ret
    exact ⟨rfl, rfl⟩
  · have h1 : 1 ≤ op := by omega
    have h2 : decide (op ≤ 6) = false := by simp; omega
    have h3 : decide (op < 1) = false := by simp; omega
    have h4 : decide (6 < op) = true := by simp; omega
    go_enter Tryz.func70, Tryz.ntmps70
    go_wp2
    go_ret
    exact ⟨rfl, rfl⟩
theorem relName_ne (op : Int) (w : World) (hc : RT w) :
    Calls Tryz.prog 70 #[.int .i64 op] w fun e w' => ∃ s : ByteArray, e = .returned (.string s) ∧ s.toList.isEmpty = !(isRel op) ∧ w' = w := by
  by_cases h : 1 ≤ op ∧ op ≤ 6
  · obtain ⟨i, rfl⟩ := Int.eq_ofNat_of_zero_le (show 0 ≤ op by omega)
    refine (relName_in i (by omega) (by omega) w (hc i (by omega))).mono ?_
    rintro e w' ⟨rfl, rfl⟩
    refine ⟨_, rfl, ?_, rfl⟩
    have hi : i = 1 ∨ i = 2 ∨ i = 3 ∨ i = 4 ∨ i = 5 ∨ i = 6 := by omega
    rcases hi with rfl | rfl | rfl | rfl | rfl | rfl <;> (rw [ByteArray.toList_eq]; rfl)
  · refine (relName_out op (by omega) w).mono ?_
    rintro e w' ⟨rfl, rfl⟩
    refine ⟨_, rfl, ?_, rfl⟩
    have : isRel op = false := by unfold isRel; rw [Bool.and_eq_false_iff]; simp; omega
    rw [this, ByteArray.toList_eq]; rfl
theorem iOp : (Tryz.prog.info? 64).map (·.size) = some 2 := by kernel_rfl
set_option maxHeartbeats 1000000 in
set_option maxRecDepth 100000 in
theorem use_any {w : World} {ub : Nat} {u : Ins} (q : Ins) (n s : Int) (hs : 1 ≤ s ∧ s ≤ 6) (hU : CL w ub u.cells) (hR : RT w) (hu2 : ¬ (2 = ub)) :
    Calls Tryz.prog 43 #[.pointer (some ⟨ub, 0, none⟩), .agg q.cells.toArray, .int .i64 s, .int .i64 n] w fun e w' => e = .returned (.bool (q.oks n s)) ∧ CL w' ub (u.lay q s).cells ∧ Keeps (fun k => k = ub) w w' := by
  obtain ⟨cd, dst, oR, oN, xR, xN, yR, yN, op, rel, to⟩ := q
  show Calls Tryz.prog 43 #[.pointer (some ⟨ub, 0, none⟩), .agg #[.int .i64 cd, .int .i64 dst, .bool oR, .int .i64 oN, .bool xR, .int .i64 xN, .bool yR, .int .i64 yN, .int .i64 op, .int .i64 rel, .int .i64 to], .int .i64 s, .int .i64 n] w _
  obtain ⟨w0, hw0⟩ : ∃ w0, w0 = w.alloc (.cells #[.int .i64 cd, .int .i64 dst, .bool oR, .int .i64 oN, .bool xR, .int .i64 xN, .bool yR, .int .i64 yN, .int .i64 op, .int .i64 rel, .int .i64 to] 69) := ⟨_, rfl⟩
  have k0 : Keeps (fun _ => False) w w0 := by rw [hw0]; exact (Keeps.refl _ w).alloc _
  have lu := hU.lt (by show 0 < 11; decide)
  have nu : ¬ ub = w.heap.size := by omega
  have nu' : ¬ w.heap.size = ub := by omega
  have hU0 := hU.keep (by show 0 < 11; decide) k0 (fun e => e)
  have hI : CL w0 w.heap.size [.int .i64 cd, .int .i64 dst, .bool oR, .int .i64 oN, .bool xR, .int .i64 xN, .bool yR, .int .i64 yN, .int .i64 op, .int .i64 rel, .int .i64 to] := by rw [hw0]; exact CL.made w [.int .i64 cd, .int .i64 dst, .bool oR, .int .i64 oN, .bool xR, .int .i64 xN, .bool yR, .int .i64 yN, .int .i64 op, .int .i64 rel, .int .i64 to] _
  rcases (by omega : s = 1 ∨ s = 2 ∨ s = 3 ∨ s = 4 ∨ s = 5 ∨ s = 6) with rfl | rfl | rfl | rfl | rfl | rfl
  · subst hw0
    have hS := (hU.set (o := 1) (by first | (show 1 < 11; decide) | (simp only [List.length_set]; show 1 < 11; decide)) (.int .i64 dst)).alloc (by first | (show 0 < 11; decide) | (simp only [List.length_set]; show 0 < 11; decide)) (.cells #[.int .i64 cd, .int .i64 dst, .bool oR, .int .i64 oN, .bool xR, .int .i64 xN, .bool yR, .int .i64 yN, .int .i64 op, .int .i64 rel, .int .i64 to] 69)
    have kS := ((Keeps.refl (fun k => k = ub) w).setA 1 (.int .i64 dst)).alloc (.cells #[.int .i64 cd, .int .i64 dst, .bool oR, .int .i64 oN, .bool xR, .int .i64 xN, .bool yR, .int .i64 yN, .int .i64 op, .int .i64 rel, .int .i64 to] 69)
    have z1 := hU0.z 1 (by show 1 < 11; decide)
    have c1 := hU0.c 1 _ rfl
    go_enter Tryz.func43, Tryz.ntmps43
    go_wp2_with (go_at_call 68; refine (isReg_any _ _).mono ?_; rintro e w' ⟨rfl, rfl⟩)
    go_ret
    exact ⟨rfl, hS, kS⟩
  · go_enter Tryz.func43, Tryz.ntmps43
    go_wp2_with (first | (rw [← hw0]; clear hw0; refine wpList_store_cl rfl 64 _ _ rfl ub 2 2 _ rfl rfl rfl hU0 (by show 4 ≤ 11; decide) iOp (all_oneCell_toArray (by simp [Value.oneCell'])) ?_; intro w5 hc5 k5 hsz5; clear hsz5; have hI5 := hI.keep (by show 0 < 11; decide) k5 nu'; have b0 := hI5.c 2 _ rfl; have b1 := hI5.c 3 _ rfl) | (go_at_call 69; refine (inBounds_any _ _ _).mono ?_; rintro e wi ⟨rfl, ki⟩))
    go_ret
    exact ⟨rfl, hc5.keep (by show 0 < 11; decide) ki (fun e => e), (k0.mono (fun _ _ e => e.elim)).trans (k5.trans (ki.mono (fun _ _ e => e.elim)))⟩
  · go_enter Tryz.func43, Tryz.ntmps43
    go_wp2_with (first | (rw [← hw0]; clear hw0; refine wpList_store_cl rfl 64 _ _ rfl ub 4 2 _ rfl rfl rfl hU0 (by show 6 ≤ 11; decide) iOp (all_oneCell_toArray (by simp [Value.oneCell'])) ?_; intro w5 hc5 k5 hsz5; clear hsz5; have hI5 := hI.keep (by show 0 < 11; decide) k5 nu'; have b0 := hI5.c 4 _ rfl; have b1 := hI5.c 5 _ rfl) | (go_at_call 69; refine (inBounds_any _ _ _).mono ?_; rintro e wi ⟨rfl, ki⟩))
    go_ret
    exact ⟨rfl, hc5.keep (by show 0 < 11; decide) ki (fun e => e), (k0.mono (fun _ _ e => e.elim)).trans (k5.trans (ki.mono (fun _ _ e => e.elim)))⟩
  · go_enter Tryz.func43, Tryz.ntmps43
    go_wp2_with (first | (rw [← hw0]; clear hw0; refine wpList_store_cl rfl 64 _ _ rfl ub 6 2 _ rfl rfl rfl hU0 (by show 8 ≤ 11; decide) iOp (all_oneCell_toArray (by simp [Value.oneCell'])) ?_; intro w5 hc5 k5 hsz5; clear hsz5; have hI5 := hI.keep (by show 0 < 11; decide) k5 nu'; have b0 := hI5.c 6 _ rfl; have b1 := hI5.c 7 _ rfl) | (go_at_call 69; refine (inBounds_any _ _ _).mono ?_; rintro e wi ⟨rfl, ki⟩))
    go_ret
    exact ⟨rfl, hc5.keep (by show 0 < 11; decide) ki (fun e => e), (k0.mono (fun _ _ e => e.elim)).trans (k5.trans (ki.mono (fun _ _ e => e.elim)))⟩
  · subst hw0
    have hS := (hU.set (o := 9) (by first | (show 9 < 11; decide) | (simp only [List.length_set]; show 9 < 11; decide)) (.int .i64 rel)).alloc (by first | (show 0 < 11; decide) | (simp only [List.length_set]; show 0 < 11; decide)) (.cells #[.int .i64 cd, .int .i64 dst, .bool oR, .int .i64 oN, .bool xR, .int .i64 xN, .bool yR, .int .i64 yN, .int .i64 op, .int .i64 rel, .int .i64 to] 69)
    have kS := ((Keeps.refl (fun k => k = ub) w).setA 9 (.int .i64 rel)).alloc (.cells #[.int .i64 cd, .int .i64 dst, .bool oR, .int .i64 oN, .bool xR, .int .i64 xN, .bool yR, .int .i64 yN, .int .i64 op, .int .i64 rel, .int .i64 to] 69)
    have z9 := hU0.z 9 (by show 9 < 11; decide)
    have c9 := hU0.c 9 _ rfl
    have hRS := hR.keep kS (fun e => hu2 e)
    cases hir : isRel rel with
    | true =>
      go_enter Tryz.func43, Tryz.ntmps43
      go_wp2_with (go_at_call 70; refine (relName_ne _ _ hRS).mono ?_; rintro e wi ⟨ss, rfl, hss, rfl⟩)
      go_ret
      exact ⟨by rw [show Ins.oks _ n 5 = isRel rel from rfl, hir]; rfl, hS, kS⟩
    | false =>
      go_enter Tryz.func43, Tryz.ntmps43
      go_wp2_with (go_at_call 70; refine (relName_ne _ _ hRS).mono ?_; rintro e wi ⟨ss, rfl, hss, rfl⟩)
      go_ret
      exact ⟨by rw [show Ins.oks _ n 5 = isRel rel from rfl, hir]; rfl, hS, kS⟩
  · subst hw0
    have hS := (hU.set (o := 10) (by first | (show 10 < 11; decide) | (simp only [List.length_set]; show 10 < 11; decide)) (.int .i64 to)).alloc (by first | (show 0 < 11; decide) | (simp only [List.length_set]; show 0 < 11; decide)) (.cells #[.int .i64 cd, .int .i64 dst, .bool oR, .int .i64 oN, .bool xR, .int .i64 xN, .bool yR, .int .i64 yN, .int .i64 op, .int .i64 rel, .int .i64 to] 69)
    have kS := ((Keeps.refl (fun k => k = ub) w).setA 10 (.int .i64 to)).alloc (.cells #[.int .i64 cd, .int .i64 dst, .bool oR, .int .i64 oN, .bool xR, .int .i64 xN, .bool yR, .int .i64 yN, .int .i64 op, .int .i64 rel, .int .i64 to] 69)
    have z10 := hU0.z 10 (by show 10 < 11; decide)
    have c10 := hU0.c 10 _ rfl
    cases h1 : decide (0 ≤ to) <;> cases h2 : decide (to ≤ n) <;>
    (go_enter Tryz.func43, Tryz.ntmps43
     go_wp2
     go_ret
     exact ⟨by rw [show Ins.oks _ n 6 = (decide (0 ≤ to) && decide (to ≤ n)) from rfl, h1, h2]; rfl, hS, kS⟩)
end Go.Proofs.YthchbcfecconbaaGreatDoor

namespace Go.Proofs.YthchbcfecconbaaGreatDoor
open Go.RowKit
attribute [local go_sem] Oper.semAt_some run_store_nf run_store_f
def SLI (w : World) (v : Value) (l : List Int) : Prop := ∃ a cap, v = .slice a l.length cap ∧ ∀ j x, l[j]? = some x → ∃ b off, a = some ⟨b, off, none⟩ ∧ w.cell? ⟨b, off + j, none⟩ = some (.int .i64 x)
def SH (w : World) : Prop := ∀ c, 1 ≤ c → c ≤ 10 → ∃ v, w.cell? ⟨0, c * 2 + 1, none⟩ = some v ∧ SLI w v (slo c)
structure LT (w : World) : Prop where
  ot : OT w
  rt : RT w
  sh : SH w
theorem SLI.keep {w w' : World} {v : Value} {l : List Int} (h : SLI w v l) (k : Keeps (fun _ => False) w w') : SLI w' v l := by
  obtain ⟨a, cap, hv, hl⟩ := h
  refine ⟨a, cap, hv, fun j x hx => ?_⟩
  obtain ⟨b, off, e1, e2⟩ := hl j x hx
  exact ⟨b, off, e1, k.cell e2 (fun e => e)⟩
theorem LT.keep {w w' : World} (h : LT w) (k : Keeps (fun _ => False) w w') : LT w' := by
  refine ⟨h.ot.keep k (fun e => e), h.rt.keep k (fun e => e), fun c h1 h2 => ?_⟩
  obtain ⟨v, e, hl⟩ := h.sh c h1 h2
  exact ⟨v, k.cell e (fun e => e), hl.keep k⟩
theorem LT.lt {w : World} (h : LT w) : 2 < w.heap.size := World.block_lt_of_cell? _ _ (h.rt 0 (by decide))
theorem iIn : (Tryz.prog.info? 69).map (·.size) = some 11 := by kernel_rfl
theorem slo_le (c : Nat) : (slo c).length ≤ 4 ∧ ∀ x ∈ slo c, 1 ≤ x ∧ x ≤ 6 := by
  by_cases h : c ≤ 10
  · rcases (by omega : c = 0 ∨ c = 1 ∨ c = 2 ∨ c = 3 ∨ c = 4 ∨ c = 5 ∨ c = 6 ∨ c = 7 ∨ c = 8 ∨ c = 9 ∨ c = 10) with rfl | rfl | rfl | rfl | rfl | rfl | rfl | rfl | rfl | rfl | rfl <;> simp [slo]
  · have : slo c = [] := by
      unfold slo
      rw [List.getD_eq_getElem?_getD, List.getElem?_eq_none (by show 11 ≤ c; omega)]; rfl
    rw [this]; simp
theorem run_ins {W : World} {b : Nat} {q : Ins} (h : CL W b q.cells) : (loadVar 69 ⟨b, 0, none⟩).run Tryz.prog W = .ok (.agg q.cells.toArray) W :=
  run_loadVar_mid W b 0 69 q.cells _ (fun j v e => by have := h.c j v e; rwa [Nat.zero_add]) Tryz.underlying69 rfl (by rw [iIn]; rfl)
def canTail (f : Func) : Code := match f.body with | some (.seq _ (.seq _ (.seq _ (.seq _ (.seq _ t))))) => t | _ => .skip
theorem lays_take {u q : Ins} {l : List Int} {k : Nat} {x : Int} (h : l[k]? = some x) : u.lays q (l.take (k + 1)) = (u.lays q (l.take k)).lay q x := by
  unfold Ins.lays
  rw [List.take_add_one, h, Option.toList_some, List.foldl_append]; rfl
theorem all_take {q : Ins} {n : Int} {l : List Int} {k : Nat} {x : Int} (h : l[k]? = some x) : (l.take (k + 1)).all (q.oks n) = ((l.take k).all (q.oks n) && q.oks n x) := by
  rw [List.take_add_one, h, Option.toList_some, List.all_append]; simp
theorem wpList_load_runG {P : Program} {w : World} {ops : Array Oper} {rest : List Oper} {o : Oper} {a : Act} {Q : Exit → Act → World → Prop} (hw : Region.wanted o (yielded ops a.tmps) = true) (ty : TypeId) (x : Operand) (ho : o.op = .load ty x) (ad : Addr) (hx : a.eval x = .pointer (some ad)) (v : Value)
    (hr : (loadVar ty ad).run P w = .ok v w) (h : wpList P ops Q rest (a.put o.dst v) w) : wpList P ops Q (o :: rest) a w :=
  BigFrame.wpList_want hw fun _ hK => by
    unfold Oper.wp execOp
    simp only [ho, hx, Instr.loadAt, Instr.sureAddr, Sem.run_bind, Sem.run_pure, Result.andThen_ok, hr]
    exact hK _ _ h
theorem wpList_eqlG {P : Program} {w : World} {ops : Array Oper} {rest : List Oper} {o : Oper} {a : Act} {Q : Exit → Act → World → Prop} (hw : Region.wanted o (yielded ops a.tmps) = true) (ty t2 : TypeId) (x y : Operand) (ho : o.op = .binOp .eql ty x y t2) (xs ys : Array Value) (hx : a.eval x = .agg xs) (hy : a.eval y = .agg ys) (b : Bool)
    (hm : P.eqGuardType P.depth ty = false) (hr : (Op.equalIn 10000 ty (.agg xs) (.agg ys)).run P w = .ok b w) (h : wpList P ops Q rest (a.put o.dst (.bool b)) w) : wpList P ops Q (o :: rest) a w :=
  BigFrame.wpList_want hw fun _ hK => by
    unfold Oper.wp execOp
    simp only [ho, hx, hy, Sem.run_bind, Sem.run_pure, Result.andThen_ok, run_eqGuard_agg _ _ _ _ _ _ _ hm, run_eql_struct, hr]
    exact hK _ _ h
set_option maxHeartbeats 500000 in
set_option maxRecDepth 100000 in
theorem canBe_tail {w00 w : World} {R : Ending → World → Prop} {g : Bool} {n : Int} {ib ub c : Nat} {u q : Ins} {x0 x3 x4 x7 x8 x9 x10 x11 x12 x13 x14 x15 x16 x17 x18 x19 x20 x21 x22 x23 x24 x25 x26 x27 x28 x29 x30 x31 x32 x33 x34 x35 x36 x37 x38 x39 x40 x41 x42 x43 x44 x45 x46 x47 x48 x49 x50 x51 x52 x53 : Value} (hc : q.code = (c : Int)) (h1 : 1 ≤ c ∧ c ≤ 10) (hT : LT w00) (k00 : Keeps (fun _ => False) w00 w) (hub : w00.heap.size ≤ ub) (hI : CL w ib q.cells) (hU : CL w ub u.cells) (hne : ¬ ib = ub)
    (hR : ∀ w', Keeps (fun k => k = ub) w w' → R (.returned (.bool ((g && (slo c).all (q.oks n)) && eqI (u.lays q (slo c)) q))) w') :
    (canTail Tryz.f28).wp Tryz.prog (bodyPost Tryz.prog Tryz.f28 R) { tmps := #[x0, .int .i64 n, .pointer (some ⟨ib, 0, none⟩), x3, x4, .pointer (some ⟨ub, 0, none⟩), .bool g, x7, x8, x9, x10, x11, x12, x13, x14, x15, x16, x17, x18, x19, x20, x21, x22, x23, x24, x25, x26, x27, x28, x29, x30, x31, x32, x33, x34, x35, x36, x37, x38, x39, x40, x41, x42, x43, x44, x45, x46, x47, x48, x49, x50, x51, x52, x53], defers := [] } w := by
  obtain ⟨v, hv, a, cap, rfl, hl⟩ := hT.sh c h1.1 h1.2
  have hu2 : ¬ (2 = ub) := fun e => by have := hT.lt; omega
  have hv0 := k00.cell hv (fun e => e)
  have c0 := hI.c 0 _ rfl
  rw [hc] at c0
  have sl := slo_le c
  obtain ⟨sl1, sl2⟩ := sl
  have hSE : Hid ((slo c).length ≤ 4) := sl1
  generalize hN : (slo c).length = N at *
  dsimp only [canTail, Tryz.f28]
  go_wp2_with fail
  go_loopw [6, 36] (fun gv iv Wr => ∃ k : Nat, gv = .bool (g && ((slo c).take k).all (q.oks n)) ∧ iv = .int .i64 (k : Int) ∧ k ≤ N ∧ CL Wr ub (u.lays q ((slo c).take k)).cells ∧ Keeps (fun j => j = ub) w Wr) (fun _ iv _ => N - (intOf iv).toNat)
  case atStart => exact ⟨0, by simp, rfl, Nat.zero_le _, hU, Keeps.refl _ w⟩
  case round =>
    obtain ⟨k, rfl, rfl, hk, hU', kr⟩ := hrel
    by_cases hlt : k < N
    · obtain ⟨x, hx⟩ : ∃ x, (slo c)[k]? = some x := ⟨_, List.getElem?_eq_getElem (by omega)⟩
      obtain ⟨b, off, rfl, hcell⟩ := hl k x hx
      have hx6 := sl2 x (List.mem_of_getElem? hx)
      have hltI : decide ((k : Int) < (N : Int)) = true := by simp; omega
      have hltN : (k : Int) < (N : Int) := by omega
      have K := k00.trans' kr (fun _ _ e => e) (fun i hi e => by have e : i = ub := e; omega)
      have hcell := K.cell hcell (fun e => e)
      have hI' := hI.keep (by show 0 < 11; decide) kr hne
      have hRun := run_ins hI'
      have hus := use_any (u := u.lays q ((slo c).take k)) q n x hx6 hU' (hT.keep K).rt hu2
      have HT : Hid (_ = _) := all_take (q := q) (n := n) hx
      have HL : Hid (_ = _) := lays_take (u := u) (q := q) hx
      clear hI' hI hU hl hv hv0 c0 hT K
      generalize hz : ((slo c).take k).all (q.oks n) = z at *
      generalize q.oks n x = y at *
      cases y with
      | true =>
        go_wp2_with (first | (refine wpList_load_run rfl 69 _ rfl ⟨ib, 0, none⟩ rfl _ hRun ?_; clear hRun) | (go_at_call 43; refine hus.mono ?_; clear hus; rintro e wn ⟨rfl, hUn, kn⟩))
        go_roundw
        case rel => exact ⟨k + 1, by rw [HT.out, Bool.and_true], by go_num, by omega, by rw [HL.out]; exact hUn, kr.trans kn⟩
        case measure => simp [intOf]; omega
      | false =>
        go_wp2_with (first | (refine wpList_load_run rfl 69 _ rfl ⟨ib, 0, none⟩ rfl _ hRun ?_; clear hRun) | (go_at_call 43; refine hus.mono ?_; clear hus; rintro e wn ⟨rfl, hUn, kn⟩))
        go_roundw
        case rel => exact ⟨k + 1, by rw [HT.out, Bool.and_false, Bool.and_false], by go_num, by omega, by rw [HL.out]; exact hUn, kr.trans kn⟩
        case measure => simp [intOf]; omega
    · obtain rfl : k = N := by omega
      have hltI : decide ((k : Int) < (k : Int)) = false := by simp
      have eT : (slo c).take k = slo c := by rw [← hN]; exact List.take_length
      rw [eT] at hU' ⊢
      have HR := hR _ kr
      have hI' := hI.keep (by show 0 < 11; decide) kr hne
      generalize (slo c).all (q.oks n) = z at *
      generalize u.lays q (slo c) = u' at *
      have HE := eql_ins wr u' q
      have hR1 := run_ins hI'
      have hR2 := run_ins hU'
      generalize eqI u' q = ee at *
      generalize (g && z) = gz at *
      clear hI' hU' hI hU hl hv hv0 c0 hT hR eT
      cases gz with
      | false =>
        go_wp2_with fail
        exact HR
      | true =>
        go_wp2_with (first | (refine wpList_load_runG (by rfl) 69 _ rfl ⟨ib, 0, none⟩ rfl _ hR1 ?_; clear hR1) | (refine wpList_load_runG (by rfl) 69 _ rfl ⟨ub, 0, none⟩ rfl _ hR2 ?_; clear hR2) | (refine wpList_eqlG (by rfl) 69 _ _ _ rfl _ _ rfl rfl _ (by kernel_rfl) HE ?_; clear HE))
        exact HR
set_option maxHeartbeats 500000 in
set_option maxRecDepth 100000 in
theorem canBe_any {w : World} (q : Ins) (n : Int) (hT : LT w) : Calls Tryz.prog 28 #[.agg q.cells.toArray, .int .i64 n] w fun e w' => e = .returned (.bool (q.can n)) ∧ Keeps (fun _ => False) w w' := by
  obtain ⟨cd, dst, oR, oN, xR, xN, yR, yN, op, rel, to⟩ := q
  show Calls Tryz.prog 28 #[.agg #[.int .i64 cd, .int .i64 dst, .bool oR, .int .i64 oN, .bool xR, .int .i64 xN, .bool yR, .int .i64 yN, .int .i64 op, .int .i64 rel, .int .i64 to], .int .i64 n] w _
  by_cases hr : 1 ≤ cd ∧ cd ≤ 10
  · obtain ⟨c, hc⟩ : ∃ c : Nat, cd = (c : Int) := ⟨cd.toNat, by omega⟩
    have hcan := cab_can (q := ⟨cd, dst, oR, oN, xR, xN, yR, yN, op, rel, to⟩) (n := n) hc (by omega)
    rw [← hcan]
    clear hcan
    have h10 : 1 ≤ c ∧ c ≤ 10 := by omega
    subst hc
    have lT := hT.lt
    obtain ⟨W4, hW4⟩ : ∃ W4, W4 = (w.alloc (.cells #[.int .i64 (c : Int), .int .i64 dst, .bool oR, .int .i64 oN, .bool xR, .int .i64 xN, .bool yR, .int .i64 yN, .int .i64 op, .int .i64 rel, .int .i64 to] 69)).alloc (.cells #[.int .i64 0, .int .i64 0, .bool false, .int .i64 0, .bool false, .int .i64 0, .bool false, .int .i64 0, .int .i64 0, .int .i64 0, .int .i64 0] 69) := ⟨_, rfl⟩
    have k4 : Keeps (fun _ => False) w W4 := by rw [hW4]; exact ((Keeps.refl _ w).alloc _).alloc _
    have hI4 : CL W4 w.heap.size [.int .i64 (c : Int), .int .i64 dst, .bool oR, .int .i64 oN, .bool xR, .int .i64 xN, .bool yR, .int .i64 yN, .int .i64 op, .int .i64 rel, .int .i64 to] := by rw [hW4]; exact (CL.made w [.int .i64 (c : Int), .int .i64 dst, .bool oR, .int .i64 oN, .bool xR, .int .i64 xN, .bool yR, .int .i64 yN, .int .i64 op, .int .i64 rel, .int .i64 to] _).alloc (by show 0 < 11; decide) _
    have hU4 : CL W4 (w.heap.size + 1) ins0.cells := by
      have := CL.made (w.alloc (.cells #[.int .i64 (c : Int), .int .i64 dst, .bool oR, .int .i64 oN, .bool xR, .int .i64 xN, .bool yR, .int .i64 yN, .int .i64 op, .int .i64 rel, .int .i64 to] 69)) ins0.cells 69
      rw [hW4]
      simpa [ins0, Ins.cells] using this
    have nu : ¬ w.heap.size = w.heap.size + 1 := by omega
    have b1 : decide ((c : Int) < 1) = false := by simp; omega
    have b2 : decide ((10 : Int) < (c : Int)) = false := by simp; omega
    by_cases h6 : c = 6
    · have b3 : ((c : Int) == 6) = true := by simp; omega
      have h6H : Hid (c = 6) := h6
      clear h6
      go_enter Tryz.func28, Tryz.ntmps28
      refine wp_seq_k (fun K hK => ?_)
      have hKH : Hid _ := hK
      clear hK
      go_wp2_with fail
      refine hKH.out _ _ ?_
      clear hKH K
      refine wp_seq_k (fun K hK => ?_)
      have hKH : Hid _ := hK
      clear hK
      go_wp2_with fail
      refine hKH.out _ _ ?_
      clear hKH K
      refine wp_seq_k (fun K hK => ?_)
      have hKH : Hid _ := hK
      clear hK
      go_wp2_with (rw [← hW4]; clear hW4; refine wpList_store_cl rfl 69 _ _ rfl (w.heap.size + 1) 0 11 _ rfl rfl rfl hU4 (by show 11 ≤ 11; decide) iIn (all_oneCell_toArray (by simp [Value.oneCell'])) ?_; intro w5 hc5 k5 hsz5; clear hsz5)
      refine hKH.out _ _ ?_
      clear hKH K
      have hI5 := hI4.keep (by show 0 < 11; decide) k5 nu
      have K5 : Keeps (fun _ => False) w w5 := k4.trans' k5 (fun _ _ e => e) (fun i hi e => by have e : i = w.heap.size + 1 := e; omega)
      have e0 := hI5.c 0 _ rfl
      have hU5 : CL w5 (w.heap.size + 1) ({ ins0 with code := (c : Int) } : Ins).cells := hc5
      clear hc5
      refine wp_seq_k (fun K hK => ?_)
      have hKH : Hid _ := hK
      clear hK
      go_wp2_with fail
      refine hKH.out _ _ ?_
      clear hKH K
      have hop := opName_ne op
      have z8 := hU5.z 8 (by show 8 < 11; decide)
      have u8 := hU5.c 8 _ rfl
      have e8 := hI5.c 8 _ rfl
      have hU6 := hU5.set (o := 8) (by show 8 < 11; decide) (.int .i64 op)
      have kS := (Keeps.refl (fun k => k = w.heap.size + 1) w5).setA 8 (.int .i64 op)
      have hI6 := hI5.keep (by show 0 < 11; decide) kS nu
      have e6 := hI6.c 8 _ rfl
      have K6 : Keeps (fun _ => False) w (w5.setCell ⟨w.heap.size + 1, 8, none⟩ (.int .i64 op)) := K5.trans' kS (fun _ _ e => e) (fun i hi e => by have e : i = w.heap.size + 1 := e; omega)
      have hop := opName_ne op _ (hT.keep K6).ot
      cases hio : isOp op with
      | true =>
        rw [hio] at hop
        refine wp_seq_k (fun K hK => ?_)
        have hKH : Hid _ := hK
        clear hK
        go_wp2_with (go_at_call 42; refine hop.mono ?_; rintro e wi ⟨ss, rfl, hss, rfl⟩)
        refine hKH.out _ _ ?_
        clear hKH K
        refine canBe_tail (w00 := w) (ib := w.heap.size) (ub := w.heap.size + 1) (c := c) (u := { ins0 with code := (c : Int), op := op }) (q := ⟨(c : Int), dst, oR, oN, xR, xN, yR, yN, op, rel, to⟩) rfl h10 hT K6 (by omega) hI6 hU6 nu ?_
        intro w' kw
        refine ⟨?_, K6.trans' kw (fun _ _ e => e) (fun i hi e => by have e : i = w.heap.size + 1 := e; omega)⟩
        unfold Ins.cab
        rw [if_pos h6H.out, if_pos h6H.out, hio]
      | false =>
        rw [hio] at hop
        refine wp_seq_k (fun K hK => ?_)
        have hKH : Hid _ := hK
        clear hK
        go_wp2_with (go_at_call 42; refine hop.mono ?_; rintro e wi ⟨ss, rfl, hss, rfl⟩)
        refine hKH.out _ _ ?_
        clear hKH K
        refine canBe_tail (w00 := w) (ib := w.heap.size) (ub := w.heap.size + 1) (c := c) (u := { ins0 with code := (c : Int), op := op }) (q := ⟨(c : Int), dst, oR, oN, xR, xN, yR, yN, op, rel, to⟩) rfl h10 hT K6 (by omega) hI6 hU6 nu ?_
        intro w' kw
        refine ⟨?_, K6.trans' kw (fun _ _ e => e) (fun i hi e => by have e : i = w.heap.size + 1 := e; omega)⟩
        unfold Ins.cab
        rw [if_pos h6H.out, if_pos h6H.out, hio]
    · have b3 : ((c : Int) == 6) = false := by simp; omega
      go_enter Tryz.func28, Tryz.ntmps28
      refine wp_seq_k (fun K hK => ?_)
      have hKH : Hid _ := hK
      clear hK
      go_wp2_with fail
      refine hKH.out _ _ ?_
      clear hKH K
      refine wp_seq_k (fun K hK => ?_)
      have hKH : Hid _ := hK
      clear hK
      go_wp2_with fail
      refine hKH.out _ _ ?_
      clear hKH K
      refine wp_seq_k (fun K hK => ?_)
      have hKH : Hid _ := hK
      clear hK
      go_wp2_with (rw [← hW4]; clear hW4; refine wpList_store_cl rfl 69 _ _ rfl (w.heap.size + 1) 0 11 _ rfl rfl rfl hU4 (by show 11 ≤ 11; decide) iIn (all_oneCell_toArray (by simp [Value.oneCell'])) ?_; intro w5 hc5 k5 hsz5; clear hsz5)
      refine hKH.out _ _ ?_
      clear hKH K
      have hI5 := hI4.keep (by show 0 < 11; decide) k5 nu
      have K5 : Keeps (fun _ => False) w w5 := k4.trans' k5 (fun _ _ e => e) (fun i hi e => by have e : i = w.heap.size + 1 := e; omega)
      have e0 := hI5.c 0 _ rfl
      have hU5 : CL w5 (w.heap.size + 1) ({ ins0 with code := (c : Int) } : Ins).cells := hc5
      clear hc5
      refine wp_seq_k (fun K hK => ?_)
      have hKH : Hid _ := hK
      clear hK
      go_wp2_with fail
      refine hKH.out _ _ ?_
      clear hKH K
      refine wp_seq_k (fun K hK => ?_)
      have hKH : Hid _ := hK
      clear hK
      go_wp2_with fail
      refine hKH.out _ _ ?_
      clear hKH K
      refine canBe_tail (w00 := w) (ib := w.heap.size) (ub := w.heap.size + 1) (c := c) (u := { ins0 with code := (c : Int) }) (q := ⟨(c : Int), dst, oR, oN, xR, xN, yR, yN, op, rel, to⟩) rfl h10 hT K5 (by omega) hI5 hU5 nu ?_
      intro w' kw
      refine ⟨?_, K5.trans' kw (fun _ _ e => e) (fun i hi e => by have e : i = w.heap.size + 1 := e; omega)⟩
      unfold Ins.cab
      simp [h6]; rfl
  · rw [can_out (q := ⟨cd, dst, oR, oN, xR, xN, yR, yN, op, rel, to⟩) (by show cd < 1 ∨ 10 < cd; omega)]
    have k0 : Keeps (fun _ => False) w (w.alloc (.cells #[.int .i64 cd, .int .i64 dst, .bool oR, .int .i64 oN, .bool xR, .int .i64 xN, .bool yR, .int .i64 yN, .int .i64 op, .int .i64 rel, .int .i64 to] 69)) := (Keeps.refl _ w).alloc _
    by_cases hr1 : cd < 1
    · have b1 : decide (cd < 1) = true := by simp; omega
      go_enter Tryz.func28, Tryz.ntmps28
      go_wp2
      go_ret
      exact ⟨rfl, k0⟩
    · have b1 : decide (cd < 1) = false := by simp; omega
      have b2 : decide (10 < cd) = true := by simp; omega
      go_enter Tryz.func28, Tryz.ntmps28
      go_wp2
      go_ret
      exact ⟨rfl, k0⟩
end Go.Proofs.YthchbcfecconbaaGreatDoor

namespace Go.Proofs.YthchbcfecconbaaGreatDoor
open Go.RowKit
attribute [local go_sem] Oper.semAt_some run_store_nf run_store_f
def ISL (w : World) (a : Option Addr) (l : List Ins) : Prop := ∀ i, i < l.length → ∃ b off, a = some ⟨b, off, none⟩ ∧ ∀ j v, (l.getD i ins0).cells[j]? = some v → w.cell? ⟨b, off + i * 11 + j, none⟩ = some v
theorem ISL.keep {w w' : World} {a : Option Addr} {l : List Ins} (h : ISL w a l) (k : Keeps (fun _ => False) w w') : ISL w' a l := fun i hi => by
  obtain ⟨b, off, e, hc⟩ := h i hi
  exact ⟨b, off, e, fun j v hv => k.cell (hc j v hv) (fun e => e)⟩
def firstBad (l : List Ins) (n : Int) : Nat → Option Nat
  | 0 => none
  | m + 1 => if (l.getD (l.length - (m + 1)) ins0).can n = false then some (l.length - (m + 1)) else firstBad l n m
def fbE : Option Nat → Int | some _ => 108 | none => 0
def fbI : Option Nat → Int | some i => (i : Int) | none => 0
def chk (l : List Ins) : Int × Int := if 64 < l.length then (106, 0) else (fbE (firstBad l l.length l.length), fbI (firstBad l l.length l.length))
theorem run_insAt {W : World} {t : TypeId} {b o : Nat} {q : Ins} (hc : ∀ j v, q.cells[j]? = some v → W.cell? ⟨b, o + j, none⟩ = some v) (hu : ∃ fs, Tryz.prog.underlying t = some (.struct fs)) (hi : (Tryz.prog.info? t).map (·.size) = some 11) : (loadVar t ⟨b, o, none⟩).run Tryz.prog W = .ok (.agg q.cells.toArray) W := by
  obtain ⟨fs, hu⟩ := hu
  exact run_loadVar_mid W b o t q.cells _ hc hu rfl (by rw [hi]; rfl)
theorem all_oneCell_ins (q : Ins) : q.cells.toArray.all (·.oneCell') = true := all_oneCell_toArray (by simp [Ins.cells, Value.oneCell'])
theorem fb_lt {l : List Ins} {n : Int} {k : Nat} (h : k < l.length) : firstBad l n (l.length - k) = if (l.getD k ins0).can n = false then some k else firstBad l n (l.length - (k + 1)) := by
  have e : l.length - k = (l.length - (k + 1)) + 1 := by omega
  rw [e]
  show (if (l.getD (l.length - (l.length - (k + 1) + 1)) ins0).can n = false then some (l.length - (l.length - (k + 1) + 1)) else _) = _
  rw [show l.length - (l.length - (k + 1) + 1) = k by omega]
set_option maxHeartbeats 500000 in
set_option maxRecDepth 100000 in
theorem check_any {w : World} {a : Option Addr} {cap : Nat} {l : List Ins} (hT : LT w) (hl : ISL w a l) (hlen : l.length ≤ 9223372036854775807) : Calls Tryz.prog 19 #[.slice a l.length cap] w fun e w' => e = .returned (.tuple #[.int .i64 (chk l).1, .int .i64 (chk l).2]) ∧ Keeps (fun _ => False) w w' := by
  unfold chk
  by_cases h64 : 64 < l.length
  · rw [if_pos h64]
    have b1 : decide ((64 : Int) < (l.length : Int)) = true := by simp; omega
    have b2 : decide (64 < l.length) = true := by simp; omega
    go_enter Tryz.func19, Tryz.ntmps19
    go_wp2
    go_ret2
    exact ⟨rfl, Keeps.refl _ w⟩
  · rw [if_neg h64]
    have b1 : decide ((64 : Int) < (l.length : Int)) = false := by simp; omega
    have b2 : decide (64 < l.length) = false := by simp; omega
    have hN64 : l.length ≤ 64 := by omega
    clear h64
    generalize hF : firstBad l l.length l.length = F at *
    generalize hN : l.length = N at *
    go_enter Tryz.func19, Tryz.ntmps19
    go_wp2_with fail
    go_loopw [11] (fun iv Wr => ∃ k : Nat, iv = .int .i64 (k : Int) ∧ k ≤ N ∧ firstBad l N (N - k) = F ∧ Keeps (fun _ => False) w Wr) (fun iv _ => N - (intOf iv).toNat)
    case atStart => exact ⟨0, rfl, Nat.zero_le _, hF, Keeps.refl _ w⟩
    case round =>
      obtain ⟨k, rfl, hk, hf, kr⟩ := hrel
      by_cases hlt : k < N
      · have hltI : decide ((k : Int) < (N : Int)) = true := by simp; omega
        have hltJ : (k : Int) < (N : Int) := by omega
        obtain ⟨b, off, rfl, hc⟩ := hl k (by omega)
        have hc' : ∀ j v, (l.getD k ins0).cells[j]? = some v → wr.cell? ⟨b, off + k * 11 + j, none⟩ = some v := fun j v e => kr.cell (hc j v e) (fun e => e)
        have hR1 := run_insAt (t := 69) hc' ⟨_, Tryz.underlying69⟩ iIn
        have hfb : Hid (_ = _) := fb_lt (l := l) (n := (N : Int)) (k := k) (by omega)
        rw [hN] at hfb
        have hff : Hid (_ = _) := hf
        generalize l.getD k ins0 = q at *
        obtain ⟨W4, hW4⟩ : ∃ W4, W4 = wr.alloc (.cells #[.int .i64 0, .int .i64 0, .bool false, .int .i64 0, .bool false, .int .i64 0, .bool false, .int .i64 0, .int .i64 0, .int .i64 0, .int .i64 0] 69) := ⟨_, rfl⟩
        have k4 : Keeps (fun _ => False) wr W4 := by rw [hW4]; exact (Keeps.refl _ wr).alloc _
        have hU4 : CL W4 wr.heap.size ins0.cells := by rw [hW4]; exact CL.made wr ins0.cells _
        have hcan := fun W hW => canBe_any (w := W) q (N : Int) hW
        have hA := all_oneCell_ins q
        have hnx : Hid (_ = _) := hfb.out.symm.trans hff.out
        clear hfb hff hf hc hc' hF
        cases hb : q.can N with
        | true =>
          have HN : Hid (firstBad l N (N - (k + 1)) = F) := by
            show _ = _
            rw [← hnx.out, hb]; rfl
          rw [hb] at hcan
          go_wp2_with (first | (refine wpList_load_run rfl 69 _ rfl ⟨b, off + k * 11, none⟩ rfl _ hR1 ?_; clear hR1) | (rw [← hW4]; clear hW4; refine wpList_store_cl rfl 69 _ _ rfl wr.heap.size 0 11 _ rfl rfl rfl hU4 (by show 11 ≤ 11; decide) iIn hA ?_; intro w5 hc5 k5 hsz5; clear hsz5; have hI5 : CL w5 wr.heap.size q.cells := hc5; have hR2 := run_ins hI5; have K5 : Keeps (fun _ => False) w w5 := kr.trans' (k4.trans' k5 (fun _ _ e => e.elim) (fun _ _ e => e)) (fun _ _ e => e) (fun i hi e => by have := kr.size; have e : i = wr.heap.size := e; omega)) | (refine wpList_load_run rfl 69 _ rfl ⟨wr.heap.size, 0, none⟩ rfl _ hR2 ?_; clear hR2) | (go_at_call 28; refine (hcan _ (hT.keep K5)).mono ?_; rintro e w6 ⟨rfl, k6⟩))
          go_roundw
          case rel => exact ⟨k + 1, by go_num, by omega, HN.out, K5.trans k6⟩
          case measure => simp [intOf]; omega
        | false =>
          have HN : Hid (F = some k) := by
            show _ = _
            rw [← hnx.out, hb]; rfl
          rw [hb] at hcan
          go_wp2_with (first | (refine wpList_load_run rfl 69 _ rfl ⟨b, off + k * 11, none⟩ rfl _ hR1 ?_; clear hR1) | (rw [← hW4]; clear hW4; refine wpList_store_cl rfl 69 _ _ rfl wr.heap.size 0 11 _ rfl rfl rfl hU4 (by show 11 ≤ 11; decide) iIn hA ?_; intro w5 hc5 k5 hsz5; clear hsz5; have hI5 : CL w5 wr.heap.size q.cells := hc5; have hR2 := run_ins hI5; have K5 : Keeps (fun _ => False) w w5 := kr.trans' (k4.trans' k5 (fun _ _ e => e.elim) (fun _ _ e => e)) (fun _ _ e => e) (fun i hi e => by have := kr.size; have e : i = wr.heap.size := e; omega)) | (refine wpList_load_run rfl 69 _ rfl ⟨wr.heap.size, 0, none⟩ rfl _ hR2 ?_; clear hR2) | (go_at_call 28; refine (hcan _ (hT.keep K5)).mono ?_; rintro e w6 ⟨rfl, k6⟩))
          go_ret2
          exact ⟨by rw [HN.out]; rfl, K5.trans k6⟩
      · obtain rfl : k = N := by omega
        have hltI : decide ((k : Int) < (k : Int)) = false := by simp
        rw [Nat.sub_self] at hf
        subst hf
        go_wp2_with fail
        go_ret2
        exact ⟨rfl, kr⟩
end Go.Proofs.YthchbcfecconbaaGreatDoor

