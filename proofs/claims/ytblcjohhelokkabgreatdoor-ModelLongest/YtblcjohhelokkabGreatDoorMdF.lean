import Derived.Test.YtblcjohhelokkabGreatDoorMdEa
import Derived.Test.YtblcjohhelokkabGreatDoorMdEb
import Derived.Test.YtblcjohhelokkabGreatDoorMdEc
import Derived.Test.YtblcjohhelokkabGreatDoorMdEd
import Derived.Test.YtblcjohhelokkabGreatDoorMdEe
import Derived.Test.YtblcjohhelokkabGreatDoorMdEf
import Derived.Test.YtblcjohhelokkabGreatDoorMdEg
import Derived.Test.YtblcjohhelokkabGreatDoorMdEh
import Derived.Test.YtblcjohhelokkabGreatDoorMdEi
namespace Go.Proofs.YtblcjohhelokkabGreatDoor
open Go.RowKit
attribute [local go_sem] Oper.semAt_some run_store_nf run_store_f
/-- What an instruction of an object does, where the object is there. -/
def mstpO (os : List Int) (gs : List (Bool × Int)) (q : Ins) (s : Rs) (x : Nat) : Rs :=
  if q.code = 1 then (s.inc.rdo os gs x).setReg q.dst.toNat ((s.inc.rdo os gs x).nm x)
  else if q.code = 2 then (s.inc.wro os x).setReg q.dst.toNat ((s.inc.wro os x).nm x)
  else if q.code = 3 then { s.inc.wro os x with nm := fun k => if k = x then (s.inc.wro os x).sv q.xR q.xN else (s.inc.wro os x).nm k }
  else if s.st x = 1 then { s.inc with st := fun k => if k = x then 0 else s.st k, nm := fun k => if k = x then 0 else s.nm k } else s.inc
/-- What an instruction does. -/
def mstp (os : List Int) (gs : List (Bool × Int)) (q : Ins) (s : Rs) : Rs :=
  if q.code ≤ 4 then (if 0 ≤ s.sv q.oR q.oN ∧ s.sv q.oR q.oN < os.length then mstpO os gs q s (s.sv q.oR q.oN).toNat else s.inc.bad)
  else if q.code = 5 then s.inc.setReg q.dst.toNat (s.inc.sv q.xR q.xN)
  else if q.code = 6 then s.inc.setReg q.dst.toNat (ap q.op (s.inc.sv q.xR q.xN) (s.inc.sv q.yR q.yN))
  else if q.code = 7 then (if hl q.rel (s.inc.sv q.xR q.xN) (s.inc.sv q.yR q.yN) = true then { s.inc with pl := q.to } else s.inc)
  else if q.code = 8 then { s.inc with pl := q.to }
  else if q.code = 9 then { s.inc with oc := 2 }
  else { s.inc with oc := 1, rs := s.inc.sv q.xR q.xN }
theorem can_code {q : Ins} {n : Int} (h : q.can n = true) : 1 ≤ q.code ∧ q.code ≤ 10 := by
  unfold Ins.can at h
  simp only [Bool.and_eq_true, decide_eq_true_eq] at h
  exact h.1.1
theorem rdo_rd (s : Rs) (os : List Int) (gs : List (Bool × Int)) (x : Nat) : (s.rdo os gs x).rd ≤ s.rd + 1 ∧ (s.rdo os gs x).pl = s.pl ∧ (s.rdo os gs x).oc = s.oc := by
  unfold Rs.rdo
  split
  · exact ⟨Nat.le_refl _, rfl, rfl⟩
  · exact ⟨Nat.le_succ _, rfl, rfl⟩
theorem wro_rd (s : Rs) (os : List Int) (x : Nat) : (s.wro os x).rd = s.rd ∧ (s.wro os x).pl = s.pl ∧ (s.wro os x).oc = s.oc := by
  unfold Rs.wro
  split
  · exact ⟨rfl, rfl, rfl⟩
  · exact ⟨rfl, rfl, rfl⟩
theorem mstpO_ok (os : List Int) (gs : List (Bool × Int)) (q : Ins) (s : Rs) (x : Nat) : (mstpO os gs q s x).rd ≤ s.rd + 1 ∧ (mstpO os gs q s x).pl = s.pl + 1 := by
  have h1 := rdo_rd s.inc os gs x
  have h2 := wro_rd s.inc os x
  unfold mstpO
  split
  · exact ⟨h1.1, h1.2.1⟩
  · split
    · exact ⟨by show (s.inc.wro os x).rd ≤ _; rw [h2.1]; exact Nat.le_succ _, h2.2.1⟩
    · split
      · exact ⟨by show (s.inc.wro os x).rd ≤ _; rw [h2.1]; exact Nat.le_succ _, h2.2.1⟩
      · split
        · exact ⟨Nat.le_succ _, rfl⟩
        · exact ⟨Nat.le_succ _, rfl⟩
theorem mstp_rd (os : List Int) (gs : List (Bool × Int)) (q : Ins) (s : Rs) : (mstp os gs q s).rd ≤ s.rd + 1 := by
  unfold mstp
  split
  · split
    · exact (mstpO_ok os gs q s _).1
    · exact Nat.le_succ _
  · split
    · exact Nat.le_succ _
    · split
      · exact Nat.le_succ _
      · split
        · split <;> exact Nat.le_succ _
        · split
          · exact Nat.le_succ _
          · split <;> exact Nat.le_succ _
theorem mstp_pl (os : List Int) (gs : List (Bool × Int)) (q : Ins) (s : Rs) {n : Nat} (hc : q.can n = true) (hp : 0 ≤ s.pl ∧ s.pl < n) : 0 ≤ (mstp os gs q s).pl ∧ (mstp os gs q s).pl ≤ n := by
  have i : s.inc.pl = s.pl + 1 := rfl
  unfold mstp
  split
  · split
    · have := (mstpO_ok os gs q s (s.sv q.oR q.oN).toNat).2
      omega
    · show 0 ≤ s.pl + 1 ∧ s.pl + 1 ≤ (n : Int); omega
  · split
    · show 0 ≤ s.pl + 1 ∧ s.pl + 1 ≤ (n : Int); omega
    · split
      · show 0 ≤ s.pl + 1 ∧ s.pl + 1 ≤ (n : Int); omega
      · split
        · rename_i e
          split
          · exact can_to hc (.inl e)
          · show 0 ≤ s.pl + 1 ∧ s.pl + 1 ≤ (n : Int); omega
        · split
          · rename_i e
            exact can_to hc (.inr e)
          · split
            · show 0 ≤ s.pl + 1 ∧ s.pl + 1 ≤ (n : Int); omega
            · show 0 ≤ s.pl + 1 ∧ s.pl + 1 ≤ (n : Int); omega
theorem do_any {w : World} {B : Nat} {a ag : Option Addr} {cap cg : Nat} {os : List Int} {gs : List (Bool × Int)} {s : Rs} (hS : DoS w B a ag cap cg os gs s) (q : Ins) {N : Int} (hcan : q.can N = true) : Calls Tryz.prog 23 #[.pointer (some ⟨B, 0, none⟩), .agg q.cells.toArray] w fun e w' => e = .returned (.tuple #[]) ∧ RM w' B (.slice a os.length cap) (.slice ag gs.length cg) (mstp os gs q s) ∧ Keeps (fun k => k = B) w w' := by
  have hc := can_code hcan
  by_cases h4 : q.code ≤ 4
  · have e0 : mstp os gs q s = if 0 ≤ s.sv q.oR q.oN ∧ s.sv q.oR q.oN < os.length then mstpO os gs q s (s.sv q.oR q.oN).toNat else s.inc.bad := if_pos h4
    rw [e0]
    by_cases ho : 0 ≤ s.sv q.oR q.oN ∧ s.sv q.oR q.oN < os.length
    · rw [if_pos ho]
      have hx : s.sv q.oR q.oN = ((s.sv q.oR q.oN).toNat : Int) := by omega
      have hxl : (s.sv q.oR q.oN).toNat < os.length := by omega
      generalize (s.sv q.oR q.oN).toNat = x at *
      by_cases h1 : q.code = 1
      · rw [show mstpO os gs q s x = _ from if_pos h1]
        exact do_get hS q hcan h1 hx hxl
      · by_cases h2 : q.code = 2
        · rw [show mstpO os gs q s x = _ from (if_neg h1).trans (if_pos h2)]
          exact do_take hS q hcan h2 hx hxl
        · by_cases h3 : q.code = 3
          · rw [show mstpO os gs q s x = _ from (if_neg h1).trans ((if_neg h2).trans (if_pos h3))]
            exact do_put hS q hcan h3 hx hxl
          · rw [show mstpO os gs q s x = _ from (if_neg h1).trans ((if_neg h2).trans (if_neg h3))]
            exact do_drop hS q hcan (by omega) hx hxl
    · rw [if_neg ho]
      have hx : s.sv q.oR q.oN < 0 ∨ os.length ≤ s.sv q.oR q.oN := by omega
      by_cases h1 : q.code = 1
      · exact do_get_no hS q hcan h1 hx
      · by_cases h2 : q.code = 2
        · exact do_take_no hS q hcan h2 hx
        · by_cases h3 : q.code = 3
          · exact do_put_no hS q hcan h3 hx
          · exact do_drop_no hS q hcan (by omega) hx
  · by_cases h5 : q.code = 5
    · rw [show mstp os gs q s = _ from (if_neg h4).trans (if_pos h5)]
      exact do_let hS q hcan h5
    · by_cases h6 : q.code = 6
      · rw [show mstp os gs q s = _ from (if_neg h4).trans ((if_neg h5).trans (if_pos h6))]
        exact do_calc hS q hcan h6
      · by_cases h7 : q.code = 7
        · rw [show mstp os gs q s = _ from (if_neg h4).trans ((if_neg h5).trans ((if_neg h6).trans (if_pos h7)))]
          exact do_if hS q hcan h7
        · by_cases h8 : q.code = 8
          · rw [show mstp os gs q s = _ from (if_neg h4).trans ((if_neg h5).trans ((if_neg h6).trans ((if_neg h7).trans (if_pos h8))))]
            exact do_goto hS q hcan h8
          · by_cases h9 : q.code = 9
            · rw [show mstp os gs q s = _ from (if_neg h4).trans ((if_neg h5).trans ((if_neg h6).trans ((if_neg h7).trans ((if_neg h8).trans (if_pos h9)))))]
              exact do_quit hS q hcan h9
            · rw [show mstp os gs q s = _ from (if_neg h4).trans ((if_neg h5).trans ((if_neg h6).trans ((if_neg h7).trans ((if_neg h8).trans (if_neg h9)))))]
              exact do_done hS q hcan (by omega)
theorem results_cellm {fn : Func} {p : Tmp} {ty : TypeId} (h : fn.results = #[.cell p ty]) (tmps : Array Value) (P : Program) (w : World) :
    (results fn tmps).run P w = ((asAddr (tmps.getD p undef)).run P w).andThen fun a w₁ => (loadVar ty a).run P w₁ := by
  simp only [results, h]
  simp [Sem.run_bind, Result.andThen]
/-- The instruction behind the last. -/
def doneI : Ins := { ins0 with code := 10 }
def atI (l : List Ins) (p : Nat) : Ins := if p = l.length then doneI else l.getD p ins0
set_option maxHeartbeats 800000 in
set_option maxRecDepth 1000000 in
theorem at_any {w : World} {a : Option Addr} {cap : Nat} {l : List Ins} (hl : ISL w a l) (p : Nat) (hp : p ≤ l.length) : Calls Tryz.prog 24 #[.slice a l.length cap, .int .i64 (p : Int)] w fun e w' => e = .returned (.agg (atI l p).cells.toArray) ∧ Keeps (fun _ => False) w w' := by
  unfold atI
  obtain ⟨W4, hW4⟩ : ∃ W4, W4 = w.alloc (.cells #[.int .i64 0, .int .i64 0, .bool false, .int .i64 0, .bool false, .int .i64 0, .bool false, .int .i64 0, .int .i64 0, .int .i64 0, .int .i64 0] 52) := ⟨_, rfl⟩
  have k4 : Keeps (fun _ => False) w W4 := by rw [hW4]; exact (Keeps.refl _ w).alloc _
  have hU4 : CL W4 w.heap.size ins0.cells := by rw [hW4]; exact CL.made w ins0.cells _
  have HW : Hid (_ = _) := hW4
  clear hW4
  by_cases h : p = l.length
  · rw [if_pos h]
    have b1 : ((p : Int) == (l.length : Int)) = true := by simp; omega
    subst h
    generalize l.length = N at *
    clear hl
    have hA := all_oneCell_ins doneI
    go_enter Tryz.func24, Tryz.ntmps24
    go_wp2
    refine bodyPost_ret (v := .agg doneI.cells.toArray) (by rw [results_cellm rfl]; go_simp; rfl) rfl ⟨rfl, ?_⟩
    exact (Keeps.refl _ w).alloc _
  · rw [if_neg h]
    have b1 : ((p : Int) == (l.length : Int)) = false := by simp; omega
    have b2 : (0 : Int) ≤ (p : Int) := by omega
    have b3 : (p : Int) < (l.length : Int) := by omega
    obtain ⟨b, off, rfl, hc⟩ := hl p (by omega)
    have hR1 := run_insAt (W := W4) (t := 52) (fun j v e => k4.cell (hc j v e) (fun e => e)) ⟨_, Tryz.underlying52⟩ iIn
    generalize l.getD p ins0 = q at *
    generalize l.length = N at *
    clear hl hc
    have hA := all_oneCell_ins q
    go_enter Tryz.func24, Tryz.ntmps24
    go_wp2_with (first | (rw [← HW.out]; refine wpList_load_run rfl 52 _ rfl ⟨b, off + p * 11, none⟩ rfl _ hR1 ?_; clear hR1) | (refine wpList_store_cl rfl 52 _ _ rfl w.heap.size 0 11 _ rfl rfl rfl hU4 (by show 11 ≤ 11; decide) iIn hA ?_; intro w5 hc5 k5 hsz5; have hI5 : CL w5 w.heap.size q.cells := hc5; have hR2 := run_ins hI5; have K5 : Keeps (fun _ => False) w w5 := k4.trans' k5 (fun _ _ e => e) (fun i hi e => by have e : i = w.heap.size := e; omega)))
    exact bodyPost_ret (v := .agg q.cells.toArray) ((results_cellm (p := 4) (ty := 52) rfl _ _ _).trans hR2) rfl ⟨rfl, K5⟩
end Go.Proofs.YtblcjohhelokkabGreatDoor
