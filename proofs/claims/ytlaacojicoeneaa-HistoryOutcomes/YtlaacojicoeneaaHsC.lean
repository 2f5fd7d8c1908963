import Derived.Test.YtlaacojicoeneaaHsB
import Derived.Laws.StructEq
import Derived.Deep.RegionHeld3
namespace Go.Proofs.Ytlaacojicoeneaa
open Go.RowKit
theorem wpList_load_runG {P : Program} {w : World} {ops : Array Oper} {rest : List Oper} {o : Oper} {a : Act} {Q : Exit → Act → World → Prop} (hw : Region.wanted o (yielded ops a.tmps) = true) (ty : TypeId) (x : Operand) (ho : o.op = .load ty x) (ad : Addr) (hx : a.eval x = .pointer (some ad)) (v : Value)
    (hr : (loadVar ty ad).run P w = .ok v w) (h : wpList P ops Q rest (a.put o.dst v) w) : wpList P ops Q (o :: rest) a w :=
  BigFrame.wpList_want hw fun _ hK => by
    unfold Oper.wp execOp
    simp only [ho, hx, Instr.loadAt, Instr.sureAddr, Sem.run_bind, Sem.run_pure, Result.andThen_ok, hr]
    exact hK _ _ h
theorem wpList_eqlG {P : Program} {w : World} {ops : Array Oper} {rest : List Oper} {o : Oper} {a : Act} {Q : Exit → Act → World → Prop} (hw : Region.wanted o (yielded ops a.tmps) = true) (ty t2 : TypeId) (x y : Operand) (ho : o.op = .binOp .eql ty x y t2) (xs ys : Array Value) (hx : a.eval x = .agg xs) (hy : a.eval y = .agg ys) (b : Bool)
    (hm : P.eqGuardType P.depth ty = false) (hr : (Op.equalIn 10000 ty (.agg xs) (.agg ys)).run P w = .ok b w) (h : wpList P ops Q rest (a.put o.dst (.bool b)) w) : wpList P ops Q (o :: rest) a w :=
  BigFrame.wpList_want hw fun _ hK => by
    unfold Oper.wp execOp
    simp only [ho, hx, hy, Sem.run_bind, Sem.run_pure, Result.andThen_ok, run_eqGuard_agg _ _ _ _ _ _ _ hm, run_eql_struct, hr]
    exact hK _ _ h
theorem wpQuiet_load {P : Program} {ops : Array Oper} {C : World → Prop} {Q : Act → Prop} {rest : List Oper} {o : Oper} {a : Act} (hw : Region.wanted o (yielded ops a.tmps) = true) (ty : TypeId) (x : Operand) (ho : o.op = .load ty x) (ad : Addr) (hx : a.eval x = .pointer (some ad)) (v : Value)
    (hr : ∀ w, C w → (loadVar ty ad).run P w = .ok v w) (h : wpQuiet P ops C Q rest (a.put o.dst v)) : wpQuiet P ops C Q (o :: rest) a :=
  BigFrame.wpQuiet_want hw fun K hK => ⟨v, fun w hC => by
    unfold Oper.quietAt execOp
    simp only [ho, hx, Instr.loadAt, Instr.sureAddr, Sem.run_bind, Sem.run_pure, Result.andThen_ok, hr w hC]
    exact ⟨rfl, rfl⟩, hK _ h⟩
theorem wpQuiet_eql {P : Program} {ops : Array Oper} {C : World → Prop} {Q : Act → Prop} {rest : List Oper} {o : Oper} {a : Act} (hw : Region.wanted o (yielded ops a.tmps) = true) (ty t2 : TypeId) (x y : Operand) (ho : o.op = .binOp .eql ty x y t2) (xs ys : Array Value) (hx : a.eval x = .agg xs) (hy : a.eval y = .agg ys) (b : Bool)
    (hm : P.eqGuardType P.depth ty = false) (hr : ∀ w, (Op.equalIn 10000 ty (.agg xs) (.agg ys)).run P w = .ok b w) (h : wpQuiet P ops C Q rest (a.put o.dst (.bool b))) : wpQuiet P ops C Q (o :: rest) a :=
  BigFrame.wpQuiet_want hw fun K hK => ⟨.bool b, fun w hC => by
    unfold Oper.quietAt execOp
    simp only [ho, hx, hy, Sem.run_bind, Sem.run_pure, Result.andThen_ok, run_eqGuard_agg _ _ _ _ _ _ _ hm, run_eql_struct, hr]
    exact ⟨rfl, rfl⟩, hK _ h⟩
theorem iRw : (Try.prog.info? 39).map (·.size) = some 26 := by kernel_rfl
theorem run_rw {W : World} {b : Nat} {r : Rw} (h : CL W b r.cells) : (loadVar 39 ⟨b, 0, none⟩).run Try.prog W = .ok (.agg r.cells.toArray) W :=
  run_loadVar_mid W b 0 39 r.cells _ (fun j v e => by have := h.c j v e; rwa [Nat.zero_add]) Try.underlying39 rfl (by rw [iRw]; rfl)
/-- Three numbers. -/
def eq3 (a b c x y z : Int) : Bool := a == x && b == y && c == z
theorem eql_who (w : World) (a b c x y z : Int) : (Op.equalIn 10000 105 (.agg #[.int .i64 a, .int .i64 b, .int .i64 c]) (.agg #[.int .i64 x, .int .i64 y, .int .i64 z])).run Try.prog w = .ok (eq3 a b c x y z) w := by
  rw [run_equalIn_agg w 9999 _ _ _ (by kernel_rfl) (by kernel_rfl)]
  unfold Program.fieldsOf
  rw [Try.underlying105]
  simp only [eq3]
  go_simp
  (repeat' split) <;> simp_all
def fitP (f : Nat → Int) (r : Rw) (th : Nat) : Bool :=
  if r.kind = 0 then r.thread == -1 && r.try_ == 0 && r.job == -1 && r.no == -1 && sil r
  else if r.thread < 0 ∨ 6 ≤ r.thread then false
  else if r.kind = 1 then f (th * 5) == 0 && eq3 r.job r.try_ r.no (f (th * 5 + 1) + 1) 1 (f 31 + 1) && r.seen == f 30 && sil r
  else if r.kind = 2 then f (th * 5) == 2 && eq3 r.job r.try_ r.no (f (th * 5 + 1)) (f (th * 5 + 2) + 1) (f 31 + 1) && sil r
  else if r.kind = 17 then f (th * 5) == 3 && eq3 r.job r.try_ r.no (f (th * 5 + 1)) (f (th * 5 + 2)) (f (th * 5 + 3)) && sil r
  else ofA r.kind && f (th * 5) == 1 && eq3 r.job r.try_ r.no (f (th * 5 + 1)) (f (th * 5 + 2)) (f (th * 5 + 3)) && endP r && readP r (f (th * 5 + 4))
set_option maxHeartbeats 1000000 in
set_option maxRecDepth 100000 in
theorem fits_stutter (w : World) {kb : Nat} {f : Nat → Int} (hK : IB w kb 32 f) (r : Rw) (th : Nat) (hk : r.kind = 0) : Calls Try.prog 32 #[.pointer (some ⟨kb, 0, none⟩), .agg r.cells.toArray] w fun e w' => e = .returned (.bool (fitP f r th)) ∧ Keeps (fun _ => False) w w' := by
  obtain ⟨w0, e0, k0, hb, hz0⟩ := rw_box w r
  have hK0 := hK.keep (by decide) k0 (fun e => e)
  have hne : ¬ kb = w.heap.size := fun e => by have := hK.lt (by decide); omega
  obtain ⟨hcl, c0, c1, c2, c3, c4, c5, c6, c7, c8, c11, c13, c17, c21, c25⟩ := hb
  unfold fitP
  rw [if_pos hk]
  have hs := silent_any w0 r
  have hR := run_rw hcl
  rw [hk] at c5
  clear hK hK0 hcl c0 c6 c7 c8 c11 c13 c17 c21 c25 hk
  go_enter Try.func32, Try.ntmps32
  refine wp_seq_k (fun KK hKK => ?_)
  have hKH : Hid _ := hKK
  clear hKK
  go_wp2_with fail
  refine hKH.out _ _ ?_
  clear hKH KK
  rw [← e0]
  clear e0
  generalize r.thread = tr at *
  generalize r.try_ = ty at *
  generalize r.job = jb at *
  generalize r.no = nn at *
  generalize sil r = sl at *
  have HR : Hid (_ = _) := hR
  clear hR
  cases h1 : (tr == -1)
  · go_wp2; go_ret; exact ⟨rfl, k0⟩
  cases h2 : (ty == 0)
  · go_wp2; go_ret; exact ⟨rfl, k0⟩
  cases h3 : (jb == -1)
  · go_wp2; go_ret; exact ⟨rfl, k0⟩
  cases h4 : (nn == -1)
  · go_wp2; go_ret; exact ⟨rfl, k0⟩
  go_wp2_with (first | (refine wpList_load_runG (by rfl) 39 _ rfl ⟨w.heap.size, 0, none⟩ rfl _ HR.out ?_; clear HR) | (go_at_call 51; refine hs.mono ?_; clear hs; rintro e w9 ⟨rfl, k9⟩))
  go_ret
  exact ⟨rfl, k0.trans k9⟩
set_option maxHeartbeats 1000000 in
set_option maxRecDepth 100000 in
theorem fits_away (w : World) {kb : Nat} {f : Nat → Int} (hK : IB w kb 32 f) (r : Rw) (th : Nat) (hk : r.kind ≠ 0) (ht : r.thread < 0 ∨ 6 ≤ r.thread) : Calls Try.prog 32 #[.pointer (some ⟨kb, 0, none⟩), .agg r.cells.toArray] w fun e w' => e = .returned (.bool (fitP f r th)) ∧ Keeps (fun _ => False) w w' := by
  obtain ⟨w0, e0, k0, hb, hz0⟩ := rw_box w r
  have hK0 := hK.keep (by decide) k0 (fun e => e)
  have hne : ¬ kb = w.heap.size := fun e => by have := hK.lt (by decide); omega
  obtain ⟨hcl, c0, c1, c2, c3, c4, c5, c6, c7, c8, c11, c13, c17, c21, c25⟩ := hb
  unfold fitP
  rw [if_neg hk, if_pos ht]
  have b0 : (r.kind == 0) = false := beq_eq_false_iff_ne.2 hk
  clear hK hK0 hcl c0 c2 c3 c4 c6 c7 c8 c11 c13 c17 c21 c25 hk
  go_enter Try.func32, Try.ntmps32
  refine wp_seq_k (fun KK hKK => ?_)
  have hKH : Hid _ := hKK
  clear hKK
  go_wp2_with fail
  refine hKH.out _ _ ?_
  clear hKH KK
  rw [← e0]
  clear e0
  generalize r.thread = tr at *
  generalize r.kind = kd at *
  by_cases h1 : tr < 0
  · have b1 : decide (tr < 0) = true := decide_eq_true h1
    go_wp2; go_ret; exact ⟨rfl, k0⟩
  · have b1 : decide (tr < 0) = false := decide_eq_false h1
    have b2 : decide (6 ≤ tr) = true := decide_eq_true (by omega)
    go_wp2; go_ret; exact ⟨rfl, k0⟩
end Go.Proofs.Ytlaacojicoeneaa
