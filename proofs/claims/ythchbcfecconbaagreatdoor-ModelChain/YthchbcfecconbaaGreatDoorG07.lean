import Derived.Test.YthchbcfecconbaaGreatDoorG05
import Derived.Test.YthchbcfecconbaaGreatDoorG06
import Derived.Laws.CopyRow
import Derived.Laws.IdiomCopy
import Derived.Deep.OwnRows
namespace Go.Proofs.YthchbcfecconbaaGreatDoor
open Go.RowKit
attribute [local go_sem] Oper.semAt_some run_store_nf run_store_f
set_option maxHeartbeats 1000000 in
set_option maxRecDepth 1000000 in
theorem do_done {w : World} {B : Nat} {a ag : Option Addr} {cap cg : Nat} {os : List Int} {gs : List (Bool × Int)} {s : Rs} (hS : DoS w B a ag cap cg os gs s) (q : Ins) {N : Int} (hcan : q.can N = true) (hc : q.code = 10) : Calls Tryz.prog 33 #[.pointer (some ⟨B, 0, none⟩), .agg q.cells.toArray] w fun e w' => e = .returned (.tuple #[]) ∧ RM w' B (.slice a os.length cap) (.slice ag gs.length cg) ({ s.inc with oc := 1, rs := s.inc.sv q.xR q.xN }) ∧ Keeps (fun k => k = B) w w' := by
  obtain ⟨cd, dst, oR, oN, xR, xN, yR, yN, op, rel, to⟩ := q
  simp only at hc
  subst hc
  obtain ⟨h, hO, hG, h16, hrd, hp⟩ := hS
  obtain ⟨W1, hW1⟩ : ∃ W1, W1 = (w.setCell ⟨B, 51, none⟩ (.int .i64 (s.pl + 1))).alloc (.cells #[.int .i64 10, .int .i64 dst, .bool oR, .int .i64 oN, .bool xR, .int .i64 xN, .bool yR, .int .i64 yN, .int .i64 op, .int .i64 rel, .int .i64 to] 69) := ⟨_, rfl⟩
  have K1 : Keeps (fun k => k = B) w W1 := by rw [hW1]; exact ((Keeps.refl _ w).setA 51 _).alloc _
  have H1 : RM W1 B (.slice a os.length cap) (.slice ag gs.length cg) s.inc := by
    rw [hW1]; exact (h.setP (s.pl + 1)).keep (S := fun _ => False) ((Keeps.refl _ _).alloc _) (fun e => e)
  have m1 : CL W1 w.heap.size (⟨10, dst, oR, oN, xR, xN, yR, yN, op, rel, to⟩ : Ins).cells := by
    rw [hW1]
    have := CL.made (w.setCell ⟨B, 51, none⟩ (.int .i64 (s.pl + 1))) (⟨10, dst, oR, oN, xR, xN, yR, yN, op, rel, to⟩ : Ins).cells 69
    rw [show (w.setCell ⟨B, 51, none⟩ (.int .i64 (s.pl + 1))).heap.size = w.heap.size by simp] at this
    exact this
  have HW : Hid (_ = _) := hW1
  clear hW1
  have hlt := h.lt
  have nb1 : ¬ w.heap.size = B := by omega
  have nb2 : ¬ B = w.heap.size := by omega
  have c51 := h.p
  have z51 := h.z 51 (by decide)
  have hwp : IntKind.i64.wrap (s.pl + 1) = s.pl + 1 := by rw [IntKind.wrap_i64]; omega
  have hp0 := hp.1
  have hp1 := hp.2
  have hO1 := hO.keep K1
  have hG1 := hG.keep K1
  clear hp hO hG
  show Calls Tryz.prog 33 #[.pointer (some ⟨B, 0, none⟩), .agg #[.int .i64 10, .int .i64 dst, .bool oR, .int .i64 oN, .bool xR, .int .i64 xN, .bool yR, .int .i64 yN, .int .i64 op, .int .i64 rel, .int .i64 to]] w _
  have x4 := m1.c 4 _ rfl
  have x5 := m1.c 5 _ rfl
  have hsx := msource H1 xR xN (can_x hcan rfl)
  clear hcan
  go_enter Tryz.func33, Tryz.ntmps33
  go_wp2_with (go_at_call 53; rw [← HW.out]; refine hsx.mono ?_; clear hsx; rintro e w2 ⟨rfl, k2⟩; have H2 := H1.keep k2 (fun e => e); have c2 := H2.c; have z2 := H2.z 52 (by decide); have H3 := H2.setC 1; have c3 := H3.u; have u2 := H2.u; have z3 := H2.z 53 (by decide))
  go_end0
  exact ⟨rfl, H3.setU _, ((K1.trans (k2.mono (fun _ _ e => e.elim))).setA 52 _).setA 53 _⟩
end Go.Proofs.YthchbcfecconbaaGreatDoor

namespace Go.Proofs.YthchbcfecconbaaGreatDoor
open Go.RowKit
attribute [local go_sem] Oper.semAt_some run_store_nf run_store_f
def mstpO (os : List Int) (gs : List (Bool × Int)) (q : Ins) (s : Rs) (x : Nat) : Rs :=
  if q.code = 1 then (s.inc.rdo os gs x).setReg q.dst.toNat ((s.inc.rdo os gs x).nm x)
  else if q.code = 2 then (s.inc.wro os x).setReg q.dst.toNat ((s.inc.wro os x).nm x)
  else if q.code = 3 then { s.inc.wro os x with nm := fun k => if k = x then (s.inc.wro os x).sv q.xR q.xN else (s.inc.wro os x).nm k }
  else if s.st x = 1 then { s.inc with st := fun k => if k = x then 0 else s.st k, nm := fun k => if k = x then 0 else s.nm k } else s.inc
def mstp (os : List Int) (gs : List (Bool × Int)) (q : Ins) (s : Rs) : Rs :=
  if q.code ≤ 4 then (if 0 ≤ s.sv q.oR q.oN ∧ s.sv q.oR q.oN < os.length then mstpO os gs q s (s.sv q.oR q.oN).toNat else s.inc.bad)
  else if q.code = 5 then s.inc.setReg q.dst.toNat (s.inc.sv q.xR q.xN)
  else if q.code = 6 then s.inc.setReg q.dst.toNat (ap q.op (s.inc.sv q.xR q.xN) (s.inc.sv q.yR q.yN))
  else if q.code = 7 then (if hl q.rel (s.inc.sv q.xR q.xN) (s.inc.sv q.yR q.yN) = true then { s.inc with pl := q.to } else s.inc)
  else if q.code = 8 then { s.inc with pl := q.to }
  else if q.code = 9 then { s.inc with oc := 2 }
  else { s.inc with oc := 1, rs := s.inc.sv q.xR q.xN }
theorem can_code {q : Ins} {n : Int} (h : q.can n = true) : 1 ≤ q.code ∧ q.code ≤ 10 := by
  unfold Ins.can at h
  simp only [Bool.and_eq_true, decide_eq_true_eq] at h
  exact h.1.1
theorem rdo_rd (s : Rs) (os : List Int) (gs : List (Bool × Int)) (x : Nat) : (s.rdo os gs x).rd ≤ s.rd + 1 ∧ (s.rdo os gs x).pl = s.pl ∧ (s.rdo os gs x).oc = s.oc := by
  unfold Rs.rdo
  split
  · exact ⟨Nat.le_refl _, rfl, rfl⟩
  · exact ⟨Nat.le_succ _, rfl, rfl⟩
theorem wro_rd (s : Rs) (os : List Int) (x : Nat) : (s.wro os x).rd = s.rd ∧ (s.wro os x).pl = s.pl ∧ (s.wro os x).oc = s.oc := by
  unfold Rs.wro
  split
  · exact ⟨rfl, rfl, rfl⟩
  · exact ⟨rfl, rfl, rfl⟩
theorem mstpO_ok (os : List Int) (gs : List (Bool × Int)) (q : Ins) (s : Rs) (x : Nat) : (mstpO os gs q s x).rd ≤ s.rd + 1 ∧ (mstpO os gs q s x).pl = s.pl + 1 := by
  have h1 := rdo_rd s.inc os gs x
  have h2 := wro_rd s.inc os x
  unfold mstpO
  split
  · exact ⟨h1.1, h1.2.1⟩
  · split
    · exact ⟨by show (s.inc.wro os x).rd ≤ _; rw [h2.1]; exact Nat.le_succ _, h2.2.1⟩
    · split
      · exact ⟨by show (s.inc.wro os x).rd ≤ _; rw [h2.1]; exact Nat.le_succ _, h2.2.1⟩
      · split
        · exact ⟨Nat.le_succ _, rfl⟩
        · exact ⟨Nat.le_succ _, rfl⟩
theorem mstp_rd (os : List Int) (gs : List (Bool × Int)) (q : Ins) (s : Rs) : (mstp os gs q s).rd ≤ s.rd + 1 := by
  unfold mstp
  split
  · split
    · exact (mstpO_ok os gs q s _).1
    · exact Nat.le_succ _
  · split
    · exact Nat.le_succ _
    · split
      · exact Nat.le_succ _
      · split
        · split <;> exact Nat.le_succ _
        · split
          · exact Nat.le_succ _
          · split <;> exact Nat.le_succ _
theorem mstp_pl (os : List Int) (gs : List (Bool × Int)) (q : Ins) (s : Rs) {n : Nat} (hc : q.can n = true) (hp : 0 ≤ s.pl ∧ s.pl < n) : 0 ≤ (mstp os gs q s).pl ∧ (mstp os gs q s).pl ≤ n := by
  have i : s.inc.pl = s.pl + 1 := rfl
  unfold mstp
  split
  · split
    · have := (mstpO_ok os gs q s (s.sv q.oR q.oN).toNat).2
      omega
    · show 0 ≤ s.pl + 1 ∧ s.pl + 1 ≤ (n : Int); omega
  · split
    · show 0 ≤ s.pl + 1 ∧ s.pl + 1 ≤ (n : Int); omega
    · split
      · show 0 ≤ s.pl + 1 ∧ s.pl + 1 ≤ (n : Int); omega
      · split
        · rename_i e
          split
          · exact can_to hc (.inl e)
          · show 0 ≤ s.pl + 1 ∧ s.pl + 1 ≤ (n : Int); omega
        · split
          · rename_i e
            exact can_to hc (.inr e)
          · split
            · show 0 ≤ s.pl + 1 ∧ s.pl + 1 ≤ (n : Int); omega
            · show 0 ≤ s.pl + 1 ∧ s.pl + 1 ≤ (n : Int); omega
theorem do_any {w : World} {B : Nat} {a ag : Option Addr} {cap cg : Nat} {os : List Int} {gs : List (Bool × Int)} {s : Rs} (hS : DoS w B a ag cap cg os gs s) (q : Ins) {N : Int} (hcan : q.can N = true) : Calls Tryz.prog 33 #[.pointer (some ⟨B, 0, none⟩), .agg q.cells.toArray] w fun e w' => e = .returned (.tuple #[]) ∧ RM w' B (.slice a os.length cap) (.slice ag gs.length cg) (mstp os gs q s) ∧ Keeps (fun k => k = B) w w' := by
  have hc := can_code hcan
  by_cases h4 : q.code ≤ 4
  · have e0 : mstp os gs q s = if 0 ≤ s.sv q.oR q.oN ∧ s.sv q.oR q.oN < os.length then mstpO os gs q s (s.sv q.oR q.oN).toNat else s.inc.bad := if_pos h4
    rw [e0]
    by_cases ho : 0 ≤ s.sv q.oR q.oN ∧ s.sv q.oR q.oN < os.length
    · rw [if_pos ho]
      have hx : s.sv q.oR q.oN = ((s.sv q.oR q.oN).toNat : Int) := by omega
      have hxl : (s.sv q.oR q.oN).toNat < os.length := by omega
      generalize (s.sv q.oR q.oN).toNat = x at *
      by_cases h1 : q.code = 1
      · rw [show mstpO os gs q s x = _ from if_pos h1]
        exact do_get hS q hcan h1 hx hxl
      · by_cases h2 : q.code = 2
        · rw [show mstpO os gs q s x = _ from (if_neg h1).trans (if_pos h2)]
          exact do_take hS q hcan h2 hx hxl
        · by_cases h3 : q.code = 3
          · rw [show mstpO os gs q s x = _ from (if_neg h1).trans ((if_neg h2).trans (if_pos h3))]
            exact do_put hS q hcan h3 hx hxl
          · rw [show mstpO os gs q s x = _ from (if_neg h1).trans ((if_neg h2).trans (if_neg h3))]
            exact do_drop hS q hcan (by omega) hx hxl
    · rw [if_neg ho]
      have hx : s.sv q.oR q.oN < 0 ∨ os.length ≤ s.sv q.oR q.oN := by omega
      by_cases h1 : q.code = 1
      · exact do_get_no hS q hcan h1 hx
      · by_cases h2 : q.code = 2
        · exact do_take_no hS q hcan h2 hx
        · by_cases h3 : q.code = 3
          · exact do_put_no hS q hcan h3 hx
          · exact do_drop_no hS q hcan (by omega) hx
  · by_cases h5 : q.code = 5
    · rw [show mstp os gs q s = _ from (if_neg h4).trans (if_pos h5)]
      exact do_let hS q hcan h5
    · by_cases h6 : q.code = 6
      · rw [show mstp os gs q s = _ from (if_neg h4).trans ((if_neg h5).trans (if_pos h6))]
        exact do_calc hS q hcan h6
      · by_cases h7 : q.code = 7
        · rw [show mstp os gs q s = _ from (if_neg h4).trans ((if_neg h5).trans ((if_neg h6).trans (if_pos h7)))]
          exact do_if hS q hcan h7
        · by_cases h8 : q.code = 8
          · rw [show mstp os gs q s = _ from (if_neg h4).trans ((if_neg h5).trans ((if_neg h6).trans ((if_neg h7).trans (if_pos h8))))]
            exact do_goto hS q hcan h8
          · by_cases h9 : q.code = 9
            · rw [show mstp os gs q s = _ from (if_neg h4).trans ((if_neg h5).trans ((if_neg h6).trans ((if_neg h7).trans ((if_neg h8).trans (if_pos h9)))))]
              exact do_quit hS q hcan h9
            · rw [show mstp os gs q s = _ from (if_neg h4).trans ((if_neg h5).trans ((if_neg h6).trans ((if_neg h7).trans ((if_neg h8).trans (if_neg h9)))))]
              exact do_done hS q hcan (by omega)
theorem results_cellm {fn : Func} {p : Tmp} {ty : TypeId} (h : fn.results = #[.cell p ty]) (tmps : Array Value) (P : Program) (w : World) :
    (results fn tmps).run P w = ((asAddr (tmps.getD p undef)).run P w).andThen fun a w₁ => (loadVar ty a).run P w₁ := by
  simp only [results, h]
  simp [Sem.run_bind, Result.andThen]
def doneI : Ins := { ins0 with code := 10 }
def atI (l : List Ins) (p : Nat) : Ins := if p = l.length then doneI else l.getD p ins0
set_option maxHeartbeats 800000 in
set_option maxRecDepth 1000000 in
theorem at_any {w : World} {a : Option Addr} {cap : Nat} {l : List Ins} (hl : ISL w a l) (p : Nat) (hp : p ≤ l.length) : Calls Tryz.prog 34 #[.slice a l.length cap, .int .i64 (p : Int)] w fun e w' => e = .returned (.agg (atI l p).cells.toArray) ∧ Keeps (fun _ => False) w w' := by
  unfold atI
  obtain ⟨W4, hW4⟩ : ∃ W4, W4 = w.alloc (.cells #[.int .i64 0, .int .i64 0, .bool false, .int .i64 0, .bool false, .int .i64 0, .bool false, .int .i64 0, .int .i64 0, .int .i64 0, .int .i64 0] 69) := ⟨_, rfl⟩
  have k4 : Keeps (fun _ => False) w W4 := by rw [hW4]; exact (Keeps.refl _ w).alloc _
  have hU4 : CL W4 w.heap.size ins0.cells := by rw [hW4]; exact CL.made w ins0.cells _
  have HW : Hid (_ = _) := hW4
  clear hW4
  by_cases h : p = l.length
  · rw [if_pos h]
    have b1 : ((p : Int) == (l.length : Int)) = true := by simp; omega
    subst h
    generalize l.length = N at *
    clear hl
    have hA := all_oneCell_ins doneI
    go_enter Tryz.func34, Tryz.ntmps34
    go_wp2
    refine bodyPost_ret (v := .agg doneI.cells.toArray) (by rw [results_cellm rfl]; go_simp; rfl) rfl ⟨rfl, ?_⟩
    exact (Keeps.refl _ w).alloc _
  · rw [if_neg h]
    have b1 : ((p : Int) == (l.length : Int)) = false := by simp; omega
    have b2 : (0 : Int) ≤ (p : Int) := by omega
    have b3 : (p : Int) < (l.length : Int) := by omega
    obtain ⟨b, off, rfl, hc⟩ := hl p (by omega)
    have hR1 := run_insAt (W := W4) (t := 69) (fun j v e => k4.cell (hc j v e) (fun e => e)) ⟨_, Tryz.underlying69⟩ iIn
    generalize l.getD p ins0 = q at *
    generalize l.length = N at *
    clear hl hc
    have hA := all_oneCell_ins q
    go_enter Tryz.func34, Tryz.ntmps34
    go_wp2_with (first | (rw [← HW.out]; refine wpList_load_run rfl 69 _ rfl ⟨b, off + p * 11, none⟩ rfl _ hR1 ?_; clear hR1) | (refine wpList_store_cl rfl 69 _ _ rfl w.heap.size 0 11 _ rfl rfl rfl hU4 (by show 11 ≤ 11; decide) iIn hA ?_; intro w5 hc5 k5 hsz5; have hI5 : CL w5 w.heap.size q.cells := hc5; have hR2 := run_ins hI5; have K5 : Keeps (fun _ => False) w w5 := k4.trans' k5 (fun _ _ e => e) (fun i hi e => by have e : i = w.heap.size := e; omega)))
    exact bodyPost_ret (v := .agg q.cells.toArray) ((results_cellm (p := 4) (ty := 69) rfl _ _ _).trans hR2) rfl ⟨rfl, K5⟩
end Go.Proofs.YthchbcfecconbaaGreatDoor

namespace Go.Proofs.YthchbcfecconbaaGreatDoor
open Go.RowKit
attribute [local go_sem] Oper.semAt_some run_store_nf run_store_f
theorem i64sizeM : (Tryz.prog.info? 2).map (·.size) = some 1 := by kernel_rfl
theorem i64infoM : (Tryz.prog.info? 2).map (fun i => (i.zero, i.size, i.bytes)) = some (some (.int .i64 0), 1, 8) := by kernel_rfl
def nvs (l : List Int) : List Value := l.map fun x => .int .i64 x
theorem CL.ofRow {W : World} {b : Nat} {l : List Value} {t : TypeId} (h : W.heap[b]? = some (.cells l.toArray t (0, 0))) : CL W b l :=
  ⟨fun o v e => by simp [World.cell?, h, e], fun o _ => by simp [World.frozen?, h]⟩
theorem copied {w : World} {B : Nat} {a : Option Addr} {os : List Int} (cap : Nat) (hO : OBJ w B a os) : ∃ W2, (Builtin.copy_ #[23, 23] 3 #[.slice (some ⟨w.heap.size, 0, none⟩) os.length os.length, .slice a os.length cap]).run Tryz.prog (w.alloc (.cells (madeCells #[.int .i64 0] os.length) 2)) = .ok (.int .i64 (os.length : Int)) W2 ∧ CL W2 w.heap.size (nvs os) ∧ Keeps (fun _ => False) w W2 ∧ W2.heap.size = w.heap.size + 1 := by
  cases os with
  | nil =>
    refine ⟨_, run_copy_none (P := Tryz.prog) _ _ _ _ 2 _ _ _ _ _ _ Tryz.underlying23 i64sizeM rfl, ⟨fun o v e => by simp [nvs] at e, fun o h => absurd h (Nat.not_lt_zero _)⟩, (Keeps.refl _ w).alloc _, by simp⟩
  | cons y ys =>
    generalize hos : y :: ys = os at *
    have hlen : 0 < os.length := by rw [← hos]; simp
    obtain ⟨b, off, rfl, hb, hc⟩ := hO 0 _ (List.getElem?_eq_getElem hlen)
    have hsrc : ∀ j v, (nvs os)[j]? = some v → w.cell? ⟨b, off + j, none⟩ = some v := fun j v e => by
      unfold nvs at e
      rw [List.getElem?_map] at e
      cases hx : os[j]? with
      | none => rw [hx] at e; cases e
      | some x =>
        rw [hx] at e
        cases e
        obtain ⟨b', off', e', _, hc'⟩ := hO j x hx
        cases e'
        exact hc'
    have hnl : (nvs os).length = os.length := by unfold nvs; simp
    have K0 : Keeps (fun _ => False) w (w.alloc (.cells (madeCells #[.int .i64 0] os.length) 2)) := (Keeps.refl _ w).alloc _
    have hrow : (w.alloc (.cells (madeCells #[.int .i64 0] os.length) 2)).heap[w.heap.size]? = some (.cells (madeCells #[.int .i64 0] os.length) 2 (0, 0)) := heap_alloc_new w _
    have hms : (madeCells #[Value.int .i64 0] os.length).size = os.length := by simp [size_madeCells]
    have := run_copy_row (P := Tryz.prog) (w.alloc (.cells (madeCells #[.int .i64 0] os.length) 2)) 23 23 3 2 w.heap.size 0 os.length os.length ⟨b, off, none⟩ os.length cap (madeCells #[.int .i64 0] os.length) 2 (nvs os) Tryz.underlying23 i64sizeM hrow (by rw [hnl]; exact (Nat.min_self _).symm) (fun j v e => by have := K0.cell (hsrc j v e) (fun e => e); by_cases e0 : j = 0 <;> simpa [Addr.add, e0] using this) (by rw [hnl, hms]; omega) (fun u hu => by
      unfold nvs at hu
      obtain ⟨x, _, rfl⟩ := List.mem_map.1 hu
      rfl)
    rw [hnl] at this
    refine ⟨_, this, ?_, ?_, by simp⟩
    · apply CL.ofRow (t := 2)
      rw [setRow_heap _ _ _ _ _ _ hrow]
      have e0 : (madeCells #[Value.int .i64 0] os.length).toList.take 0 ++ nvs os ++ (madeCells #[Value.int .i64 0] os.length).toList.drop (0 + os.length) = nvs os := by
        rw [List.drop_eq_nil_of_le (by simp [hms])]
        simp
      rw [e0]
    · exact ⟨K0.os, K0.tape, K0.output, by simp, fun k hk hS => by
        rw [setRow_other _ _ _ _ (by omega)]
        exact K0.block k hk hS⟩
def lft (os : List Int) (s : Rs) (k : Nat) : List Int := (List.range os.length).map fun i => if i < k ∧ s.oc = 1 ∧ s.st i = 2 then s.nm i else os.getD i 0
theorem lft_len (os : List Int) (s : Rs) (k : Nat) : (lft os s k).length = os.length := by unfold lft; simp
theorem lft_0 (os : List Int) (s : Rs) : lft os s 0 = os := by
  unfold lft
  apply List.ext_getElem (by simp)
  intro i h1 h2
  simp [h2]
theorem lft_no (os : List Int) (s : Rs) (k : Nat) (h : ¬ s.oc = 1) : lft os s k = os := by
  unfold lft
  apply List.ext_getElem (by simp)
  intro i h1 h2
  simp [h2, h]
theorem lft_same (os : List Int) (s : Rs) {k : Nat} (h : ¬ s.st k = 2) : lft os s (k + 1) = lft os s k := by
  unfold lft
  refine List.map_congr_left fun i _ => ?_
  by_cases e : i = k
  · subst e
    rw [if_neg (fun e => h e.2.2), if_neg (fun e => h e.2.2)]
  · have : (i < k + 1 ∧ s.oc = 1 ∧ s.st i = 2) ↔ (i < k ∧ s.oc = 1 ∧ s.st i = 2) := ⟨fun h => ⟨by omega, h.2⟩, fun h => ⟨by omega, h.2⟩⟩
    simp only [this]
theorem lft_set (os : List Int) (s : Rs) {k : Nat} (h1 : s.oc = 1) (h : s.st k = 2) : nvs (lft os s (k + 1)) = (nvs (lft os s k)).set k (.int .i64 (s.nm k)) := by
  unfold nvs
  rw [← List.map_set (f := fun x : Int => Value.int .i64 x)]
  congr 1
  apply List.ext_getElem (by simp [lft])
  intro i h2 h3
  by_cases e : k = i
  · subst e
    rw [List.getElem_set_self]
    simp [lft, h1, h]
  · rw [List.getElem_set_ne e]
    simp only [lft, List.getElem_map, List.getElem_range]
    have : (i < k + 1 ∧ s.oc = 1 ∧ s.st i = 2) ↔ (i < k ∧ s.oc = 1 ∧ s.st i = 2) := ⟨fun h => ⟨by omega, h.2⟩, fun h => ⟨by omega, h.2⟩⟩
    simp only [this]
end Go.Proofs.YthchbcfecconbaaGreatDoor

namespace Go.Proofs.YthchbcfecconbaaGreatDoor
open Go.RowKit
attribute [local go_sem] Oper.semAt_some run_store_nf run_store_f
set_option maxHeartbeats 1000000 in
set_option maxRecDepth 1000000 in
theorem left_any {w : World} {B : Nat} {a : Option Addr} {cap : Nat} {gv : Value} {os : List Int} {s : Rs} (h : RM w B (.slice a os.length cap) gv s) (hO : OBJ w B a os) (h16 : os.length ≤ 16) : Calls Tryz.prog 35 #[.pointer (some ⟨B, 0, none⟩)] w fun e w' => e = .returned (.slice (some ⟨w.heap.size, 0, none⟩) os.length os.length) ∧ CL w' w.heap.size (nvs (lft os s os.length)) ∧ Keeps (fun _ => False) w w' ∧ w'.heap.size = w.heap.size + 1 := by
  obtain ⟨W2, hr, C2, K2, hs2⟩ := copied cap hO
  have hmk : ∀ W : World, (Instr.makeSlice 23 (.int .i64 (os.length : Int)) (.int .i64 (os.length : Int))).run Tryz.prog W = .ok (.slice (some ⟨W.heap.size, 0, none⟩) os.length os.length) (W.alloc (.cells (madeCells #[.int .i64 0] os.length) 2)) := fun W => run_make_row' (P := Tryz.prog) 23 2 (.int .i64 0) 8 Tryz.underlying23 i64infoM rfl .i64 .i64 os.length (by omega) (by omega) W
  have H2 := h.keep K2 (fun e => e)
  have c0 := h.o
  have c0' : (w.alloc (.cells (madeCells #[.int .i64 0] os.length) 2)).cell? ⟨B, 0, none⟩ = some (.slice a os.length cap) := ((Keeps.refl (fun _ => False) w).alloc _).cell c0 (fun e => e)
  have hlt := h.lt
  have c2 := H2.c
  clear hO h
  by_cases hoc : s.oc = 1
  · have hf : ¬ (s.oc ≠ 1) := fun e => e hoc
    have hb : (s.oc != 1) = false := by simp [hoc]
    have hL0 := lft_0 os s
    have hLs : ∀ k, ¬ s.st k = 2 → nvs (lft os s (k + 1)) = nvs (lft os s k) := fun k e => by rw [lft_same os s e]
    have hLt : ∀ k, s.st k = 2 → nvs (lft os s (k + 1)) = (nvs (lft os s k)).set k (.int .i64 (s.nm k)) := fun k e => lft_set os s hoc e
    have hLl : ∀ k, (nvs (lft os s k)).length = os.length := fun k => by unfold nvs; rw [List.length_map, lft_len]
    generalize hN : os.length = N at *
    go_enter Tryz.func35, Tryz.ntmps35
    go_wp2
    go_loopw [25] (fun iv Wr => ∃ k : Nat, iv = .int .i64 (k : Int) ∧ k ≤ N ∧ CL Wr w.heap.size (nvs (lft os s k)) ∧ RM Wr B (.slice a N cap) gv s ∧ Keeps (fun _ => False) w Wr ∧ Wr.heap.size = w.heap.size + 1) (fun iv _ => N - (intOf iv).toNat)
    case atStart => exact ⟨0, rfl, Nat.zero_le _, by rw [hL0]; exact C2, H2, K2, hs2⟩
    case round =>
      obtain ⟨k, rfl, hk, hC, hM, kr, hsz⟩ := hrel
      by_cases hlt2 : k < N
      · have hltI : decide ((k : Int) < (N : Int)) = true := by simp; omega
        have hltJ : (k : Int) < (N : Int) := by omega
        have hk0 : (0 : Int) ≤ (k : Int) := by omega
        have hk16 : (k : Int) < 16 := by omega
        have ct := hM.t k (by omega)
        have cn := hM.n k (by omega)
        by_cases h2 : s.st k = 2
        · rw [h2] at ct
          have hz := hC.z k (by rw [hLl]; exact hlt2)
          have hcc := hC.c k _ (List.getElem?_eq_getElem (by rw [hLl]; exact hlt2))
          have hC2 := hC.set (o := k) (by rw [hLl]; exact hlt2) (.int .i64 (s.nm k))
          rw [← hLt k h2] at hC2
          have kS : Keeps (fun i => i = w.heap.size) wr (wr.setCell ⟨w.heap.size, k, none⟩ (.int .i64 (s.nm k))) := (Keeps.refl _ wr).setA k _
          have hM2 := hM.keep kS (by show ¬ B = w.heap.size; omega)
          have kr2 : Keeps (fun _ => False) w (wr.setCell ⟨w.heap.size, k, none⟩ (.int .i64 (s.nm k))) := kr.trans' kS (fun _ _ e => e) (fun i hi e => by have e : i = w.heap.size := e; omega)
          generalize (nvs (lft os s k))[k]'(by rw [hLl]; exact hlt2) = old at *
          clear hC hLs hLt hr hmk
          go_wp2
          go_roundw
          case rel => exact ⟨k + 1, by go_num, by omega, hC2, hM2, kr2, by simpa using hsz⟩
          case measure => simp [intOf]; omega
        · have h2b : (s.st k == 2) = false := by simpa using h2
          have e2 := hLs k h2
          clear hLs hLt hr hmk
          go_wp2
          go_roundw
          case rel => exact ⟨k + 1, by go_num, by omega, by rw [e2]; exact hC, hM, kr, hsz⟩
          case measure => simp [intOf]; omega
      · have hltI : decide ((k : Int) < (N : Int)) = false := by simp; omega
        have e : k = N := by omega
        subst e
        clear hLs hLt hr hmk
        go_wp2
        go_ret
        exact ⟨rfl, hC, kr, hsz⟩
  · have hb : (s.oc != 1) = true := by simpa using hoc
    rw [lft_no os s _ hoc]
    generalize os.length = N at *
    go_enter Tryz.func35, Tryz.ntmps35
    go_wp2
    go_ret
    exact ⟨rfl, C2, K2, hs2⟩
end Go.Proofs.YthchbcfecconbaaGreatDoor

namespace Go.Proofs.YthchbcfecconbaaGreatDoor
open Go.RowKit
attribute [local go_sem] Oper.semAt_some run_store_nf run_store_f
def rs0 : Rs := ⟨fun _ => 0, fun _ => 0, fun _ => 0, 0, 0, 0, 0⟩
def gor (l : List Ins) (os : List Int) (gs : List (Bool × Int)) : Nat → Nat → Rs → Rs × Nat
  | 0, c, s => (s, c)
  | f + 1, c, s => if s.oc = 0 then gor l os gs f (c + 1) (mstp os gs (atI l s.pl.toNat) s) else (s, c)
theorem zero_rn : ∃ Z0 : Array Value, (∀ W : World, Sem.run Tryz.prog (zeroValue 95) W = .ok (.agg Z0) W) ∧ ¬ Z0 = #[] ∧ Z0.size = 54 ∧ (Z0.toList = .slice none 0 0 :: .slice none 0 0 :: List.replicate 52 (.int .i64 0)) := ⟨#[.slice none 0 0, .slice none 0 0, .int .i64 0, .int .i64 0, .int .i64 0, .int .i64 0, .int .i64 0, .int .i64 0, .int .i64 0, .int .i64 0, .int .i64 0, .int .i64 0, .int .i64 0, .int .i64 0, .int .i64 0, .int .i64 0, .int .i64 0, .int .i64 0, .int .i64 0, .int .i64 0, .int .i64 0, .int .i64 0, .int .i64 0, .int .i64 0, .int .i64 0, .int .i64 0, .int .i64 0, .int .i64 0, .int .i64 0, .int .i64 0, .int .i64 0, .int .i64 0, .int .i64 0, .int .i64 0, .int .i64 0, .int .i64 0, .int .i64 0, .int .i64 0, .int .i64 0, .int .i64 0, .int .i64 0, .int .i64 0, .int .i64 0, .int .i64 0, .int .i64 0, .int .i64 0, .int .i64 0, .int .i64 0, .int .i64 0, .int .i64 0, .int .i64 0, .int .i64 0, .int .i64 0, .int .i64 0], fun W => by kernel_rfl, by simp, rfl, rfl⟩
theorem two_rn {Z0 : Array Value} {v u : Value} (h : Z0.toList = .slice none 0 0 :: .slice none 0 0 :: List.replicate 52 (.int .i64 0)) : ((Z0.setIfInBounds 0 v).setIfInBounds 1 u).toList = v :: u :: List.replicate 52 (.int .i64 0) := by
  rw [Array.toList_setIfInBounds, Array.toList_setIfInBounds, h]; rfl
theorem rn_one {x : Value} {a b : Option Addr} {n c m d : Nat} (hx : x ∈ Value.slice a n c :: .slice b m d :: List.replicate 52 (.int .i64 0)) : x.oneCell' = true := by
  rcases List.mem_cons.1 hx with rfl | hx
  · rfl
  · rcases List.mem_cons.1 hx with rfl | hx
    · rfl
    · rw [(List.mem_replicate.1 hx).2]; rfl
theorem iRnM : (Tryz.prog.info? 95).map (·.size) = some 54 := by kernel_rfl
theorem RM.of {w : World} {B : Nat} {v u : Value} (h : CL w B (v :: u :: List.replicate 52 (.int .i64 0))) : RM w B v u rs0 := by
  have r : ∀ i, i < 52 → w.cell? ⟨B, 2 + i, none⟩ = some (.int .i64 0) := fun i hi => h.c (2 + i) _ (by rw [show 2 + i = i + 1 + 1 by omega, List.getElem?_cons_succ, List.getElem?_cons_succ, List.getElem?_replicate, if_pos hi])
  exact ⟨h.c 0 _ rfl, h.c 1 _ rfl, fun i hi => r i (by omega), fun i hi => by have := r (16 + i * 2) (by omega); rw [show 2 + (16 + i * 2) = 18 + i * 2 by omega] at this; exact this, fun i hi => by have := r (16 + i * 2 + 1) (by omega); rw [show 2 + (16 + i * 2 + 1) = 18 + i * 2 + 1 by omega] at this; exact this, r 48 (by omega), r 49 (by omega), r 50 (by omega), r 51 (by omega), fun j hj => h.z j (by simp; omega)⟩
theorem doneI_can (n : Nat) : doneI.can n = true := by
  unfold doneI ins0 Ins.can kdD kdR kdL kdO kdX kdY btw fts opk
  simp
theorem atI_can {l : List Ins} (hcan : ∀ p, p < l.length → (l.getD p ins0).can l.length = true) {p : Nat} (hp : p ≤ l.length) : (atI l p).can l.length = true := by
  unfold atI
  split
  · exact doneI_can _
  · exact hcan p (by omega)
theorem mstp_in {l : List Ins} (os : List Int) (gs : List (Bool × Int)) {s : Rs} (hcan : ∀ p, p < l.length → (l.getD p ins0).can l.length = true) (hp : 0 ≤ s.pl ∧ s.pl ≤ l.length) : (mstp os gs (atI l s.pl.toNat) s).oc = 0 → 0 ≤ (mstp os gs (atI l s.pl.toNat) s).pl ∧ (mstp os gs (atI l s.pl.toNat) s).pl ≤ l.length := by
  intro h0
  by_cases e : s.pl = l.length
  · have : atI l s.pl.toNat = doneI := if_pos (by omega)
    rw [this] at h0
    cases h0
  · exact mstp_pl os gs _ s (atI_can hcan (by omega)) ⟨hp.1, by omega⟩
theorem DoS.to {w : World} {B : Nat} {a ag : Option Addr} {cap cg : Nat} {os : List Int} {gs : List (Bool × Int)} {s : Rs} (m : RM w B (.slice a os.length cap) (.slice ag gs.length cg) s) (o : OBJ w B a os) (g : GIV w B ag gs) (n : os.length ≤ 16) (r : s.rd < 1000000) (p : 0 ≤ s.pl ∧ s.pl ≤ 64) : DoS w B a ag cap cg os gs s := ⟨m, o, g, n, r, p⟩
def NUM (w : World) (a : Option Addr) (os : List Int) : Prop := ∀ i x, os[i]? = some x → ∃ b off, a = some ⟨b, off, none⟩ ∧ w.cell? ⟨b, off + i, none⟩ = some (.int .i64 x)
def GVN (w : World) (a : Option Addr) (gs : List (Bool × Int)) : Prop := ∀ i x, gs[i]? = some x → ∃ b off, a = some ⟨b, off, none⟩ ∧ w.cell? ⟨b, off + i * 2, none⟩ = some (.bool x.1) ∧ w.cell? ⟨b, off + i * 2 + 1, none⟩ = some (.int .i64 x.2)
theorem NUM.obj {w w' : World} {a : Option Addr} {os : List Int} (h : NUM w a os) {S : Nat → Prop} (k : Keeps S w w') (hS : ∀ i, i < w.heap.size → ¬ S i) {B : Nat} (hB : w.heap.size ≤ B) : OBJ w' B a os := fun i x hx => by
  obtain ⟨b, off, e, hc⟩ := h i x hx
  have hl := World.block_lt_of_cell? _ _ hc
  have hl : b < w.heap.size := hl
  exact ⟨b, off, e, by omega, k.cell hc (hS b hl)⟩
theorem GVN.giv {w w' : World} {a : Option Addr} {gs : List (Bool × Int)} (h : GVN w a gs) {S : Nat → Prop} (k : Keeps S w w') (hS : ∀ i, i < w.heap.size → ¬ S i) {B : Nat} (hB : w.heap.size ≤ B) : GIV w' B a gs := fun i x hx => by
  obtain ⟨b, off, e, hc, hd⟩ := h i x hx
  have hl : b < w.heap.size := World.block_lt_of_cell? _ _ hc
  exact ⟨b, off, e, by omega, k.cell hc (hS b hl), k.cell hd (hS b hl)⟩
theorem ISL.keepS {w w' : World} {a : Option Addr} {l : List Ins} (h : ISL w a l) {S : Nat → Prop} (k : Keeps S w w') (hS : ∀ i, i < w.heap.size → ¬ S i) : ISL w' a l := fun i hi => by
  obtain ⟨b, off, e, hc⟩ := h i hi
  have hl : b < w.heap.size := World.block_lt_of_cell? _ _ (hc 0 _ rfl)
  exact ⟨b, off, e, fun j v hv => k.cell (hc j v hv) (hS b hl)⟩
def AN (w w' : World) (os : List Int) (F : Rs × Nat) (v : Value) : Prop := ∃ b, w.heap.size ≤ b ∧ v = .agg #[.int .i64 F.1.oc, .int .i64 F.1.rs, .slice (some ⟨b, 0, none⟩) os.length os.length, .int .i64 (F.2 : Int)] ∧ CL w' b (nvs (lft os F.1 os.length)) ∧ b < w'.heap.size
set_option maxHeartbeats 1600000 in
set_option maxRecDepth 1000000 in
theorem alone_any {w : World} {a ao ag : Option Addr} {cap co cg : Nat} {l : List Ins} {os : List Int} {gs : List (Bool × Int)} (hl : ISL w a l) (h64 : l.length ≤ 64) (hcan : ∀ p, p < l.length → (l.getD p ins0).can l.length = true) (hO : NUM w ao os) (hG : GVN w ag gs) (h16 : os.length ≤ 16) (fuel : Nat) (hf : fuel ≤ 10000) : Calls Tryz.prog 23 #[.slice a l.length cap, .slice ao os.length co, .slice ag gs.length cg, .int .i64 (fuel : Int)] w fun e w' => ∃ v, e = .returned v ∧ AN w w' os (gor l os gs fuel 0 rs0) v ∧ Keeps (fun _ => False) w w' := by
  obtain ⟨Z0, hz0, zn, zs, zl⟩ := zero_rn
  have ZL : Hid (_ = _) := zl
  have ZS : Hid (_ = _) := zs
  have z2 : ¬ Z0.size < 2 := by omega
  clear zl zs
  obtain ⟨W1, hW1⟩ : ∃ W1, W1 = w.alloc (.cells #[.int .i64 0, .int .i64 0, .slice none 0 0, .int .i64 0] 31) := ⟨_, rfl⟩
  have K1 : Keeps (fun _ => False) w W1 := by rw [hW1]; exact (Keeps.refl _ w).alloc _
  have C1 : CL W1 w.heap.size [.int .i64 0, .int .i64 0, .slice none 0 0, .int .i64 0] := by rw [hW1]; exact CL.made w _ _
  have s1 : W1.heap.size = w.heap.size + 1 := by rw [hW1]; simp
  obtain ⟨W4, hW4⟩ : ∃ W4, W4 = W1.alloc (.cells Z0 95) := ⟨_, rfl⟩
  have HW1 : Hid (_ = _) := hW1
  have HW4 : Hid (_ = _) := hW4
  have k4 : Keeps (fun _ => False) W1 W4 := (by rw [HW4.out]; exact (Keeps.refl _ W1).alloc _)
  have hU4 : CL W4 (w.heap.size + 1) (.slice none 0 0 :: .slice none 0 0 :: List.replicate 52 (.int .i64 0)) := (by rw [HW4.out, ← ZL.out, ← s1]; have := CL.made W1 Z0.toList 95; rw [Array.toArray_toList] at this; exact this)
  clear hW1 hW4
  generalize hFe : gor l os gs fuel 0 rs0 = F
  have HF : Hid (_ = _) := hFe
  clear hFe
  go_enter Tryz.func23, Tryz.ntmps23
  go_wp2_with (rw [← HW1.out, ← HW4.out]; clear HW1 HW4; refine wpList_store_cl rfl 95 _ _ rfl (w.heap.size + 1) 0 54 _ rfl rfl (by rw [Array.size_setIfInBounds, Array.size_setIfInBounds]; exact ZS.out) hU4 (by show 54 ≤ 54; decide) iRnM (by simp only [Array.all_eq_true']; intro x hx; rw [← Array.mem_toList_iff, two_rn ZL.out] at hx; exact rn_one hx) ?_; intro w5 hc5 k5 hsz5; clear hsz5)
  have hb5 := RM.of (v := .slice ao os.length co) (u := .slice ag gs.length cg) (w := w5) (B := w.heap.size + 1) (by have := hc5; rw [two_rn ZL.out] at this; exact this)
  have K5 : Keeps (fun k => k = w.heap.size + 1) w w5 := ((K1.trans k4).mono (fun _ _ e => e.elim)).trans k5
  have CR5 : CL w5 w.heap.size [.int .i64 0, .int .i64 0, .slice none 0 0, .int .i64 0] := (C1.keep (by show 0 < 4; decide) k4 (fun e => e)).keep (by show 0 < 4; decide) k5 (by show ¬ w.heap.size = w.heap.size + 1; omega)
  clear hc5 k5 hU4 k4 C1 K1 s1 hz0 zn z2 ZL ZS
  go_loopg [10] fuel (fun g iv Wr => ∃ (c : Nat) (s : Rs), c + g = fuel ∧ iv = .int .i64 (c : Int) ∧ Hid (gor l os gs g c s = F) ∧ RM Wr (w.heap.size + 1) (.slice ao os.length co) (.slice ag gs.length cg) s ∧ s.rd ≤ c ∧ (s.oc = 0 → 0 ≤ s.pl ∧ s.pl ≤ l.length) ∧ CL Wr w.heap.size [.int .i64 0, .int .i64 0, .slice none 0 0, .int .i64 0] ∧ Keeps (fun k => k = w.heap.size + 1) w Wr)
  case atStart => exact ⟨0, rs0, by omega, rfl, HF, hb5, Nat.le_refl _, fun _ => ⟨by decide, by show (0 : Int) ≤ _; omega⟩, CR5, K5⟩
  case round =>
    obtain ⟨c, s, hcg, rfl, HG, hM, hrd, hpl, CR, KW⟩ := hrel
    clear hb5 K5 CR5 HF
    have hOw := hO.obj KW (by intro i hi e; have e : i = w.heap.size + 1 := e; omega) (B := w.heap.size + 1) (by omega)
    have hGw := hG.giv KW (by intro i hi e; have e : i = w.heap.size + 1 := e; omega) (B := w.heap.size + 1) (by omega)
    have hl2 := hl.keepS KW (by intro i hi e; have e : i = w.heap.size + 1 := e; omega)
    have hO2 := hO
    clear hO hG hl
    have c52 := hM.c
    cases gk with
    | zero =>
      have hcI : decide ((c : Int) < (fuel : Int)) = false := by simp; omega
      have hF : (s, c) = F := HG.out
      subst hF
      clear HG hpl c52 hGw
      clear hcan hO2 hl2
      have hD := hM.keep (S := fun _ => False) (Keeps.refl _ wr).drew (fun e => e)
      have hle := left_any hD (hOw.keep (Keeps.refl _ wr).drew) h16
      have e52 := hD.c
      have e53 := hD.u
      have e52' := hM.c
      have e53' := hM.u
      have szr := KW.size
      have ltr := hM.lt
      go_wp2_with fail
      go_region_held3 (fun w' => w'.cell? ⟨w.heap.size + 1, 52, none⟩ = some (.int .i64 s.oc) ∧ w'.cell? ⟨w.heap.size + 1, 53, none⟩ = some (.int .i64 s.rs)) (go_keep) (first | (go_at_call 35; refine hle.mono ?_; clear hle; rintro e w6 ⟨rfl, C6, k6, s6⟩; have K6 := (Keeps.refl (fun _ => False) wr).drew.trans k6; have g52 := K6.cell e52' (fun e => e); have g53 := K6.cell e53' (fun e => e); have C8 := CR.keep (by show 0 < 4; decide) K6 (fun e => e); have y0 := C8.c 0 _ rfl; have y1 := C8.c 1 _ rfl; have y2 := C8.c 2 _ rfl; have y3 := C8.c 3 _ rfl; have x0 := C8.z 0 (by show 0 < 4; decide); have x1 := C8.z 1 (by show 1 < 4; decide); have x2 := C8.z 2 (by show 2 < 4; decide); have x3 := C8.z 3 (by show 3 < 4; decide)))
      all_goals
        go_wp2_with fail
        refine bodyPost_ret (v := .agg #[.int .i64 s.oc, .int .i64 s.rs, .slice (some ⟨wr.heap.size, 0, none⟩) os.length os.length, .int .i64 (c : Int)]) (by rw [results_cellm rfl]; go_simp) rfl ⟨_, rfl, ⟨wr.heap.size, by omega, rfl, ?_, ?_⟩, ?_⟩
        · have C6 : CL w6 wr.heap.size (nvs (lft os s os.length)) := C6
          exact (((C6.other (by show w.heap.size ≠ wr.heap.size; omega) _).other (by show w.heap.size ≠ wr.heap.size; omega) _).other (by show w.heap.size ≠ wr.heap.size; omega) _).other (by show w.heap.size ≠ wr.heap.size; omega) _
        · have s6' : w6.heap.size = wr.heap.size + 1 := s6
          simp; omega
        · have KX : Keeps (fun _ => False) w w6 := (KW.trans' K6 (fun i hi e => by have e : i = w.heap.size + 1 := e; omega) (fun _ _ e => e))
          exact (((KX.setCell (fun h => absurd h (Nat.lt_irrefl _)) _).setCell (fun h => absurd h (Nat.lt_irrefl _)) _).setCell (fun h => absurd h (Nat.lt_irrefl _)) _).setCell (fun h => absurd h (Nat.lt_irrefl _)) _
    | succ g =>
      have hcI : decide ((c : Int) < (fuel : Int)) = true := by simp; omega
      by_cases hoc : s.oc = 0
      · rw [hoc] at c52
        have hG2 : Hid (gor l os gs g (c + 1) (mstp os gs (atI l s.pl.toNat) s) = F) := by
          have : (if s.oc = 0 then gor l os gs g (c + 1) (mstp os gs (atI l s.pl.toNat) s) else (s, c)) = F := HG.out
          rw [if_pos hoc] at this
          exact this
        have hq := hpl hoc
        have hin := mstp_in os gs hcan hq
        have hrd2 := mstp_rd os gs (atI l s.pl.toNat) s
        obtain ⟨p, hp⟩ : ∃ p : Nat, s.pl = (p : Int) := ⟨s.pl.toNat, by omega⟩
        have hpn : s.pl.toNat = p := by omega
        rw [hpn] at hin hrd2 hG2
        have hqc := atI_can hcan (p := p) (by omega)
        have hat := at_any (cap := cap) hl2 p (by omega)
        have c51 := hM.p
        rw [hp] at c51
        have hw1 : IntKind.i64.wrap ((c : Int) + 1) = (c : Int) + 1 := by rw [IntKind.wrap_i64]; omega
        generalize atI l p = q at *
        clear hpl HG hpn hcan
        go_wp2_with (first | (go_at_call 34; refine hat.mono ?_; clear hat; rintro e w2 ⟨rfl, k2⟩; have hdo := do_any (.to (hM.keep k2 (fun e => e)) (hOw.keep (k2.mono (fun _ _ e => e.elim))) (hGw.keep (k2.mono (fun _ _ e => e.elim))) h16 (by omega) (by omega)) q hqc) | (go_at_call 33; refine hdo.mono ?_; clear hdo; rintro e w3 ⟨rfl, H3, k3⟩))
        go_roundg g
        case measure => omega
        case rel => exact ⟨c + 1, mstp os gs q s, by omega, by go_num, hG2, H3, by omega, hin, (CR.keep (by show 0 < 4; decide) k2 (fun e => e)).keep (by show 0 < 4; decide) k3 (by show ¬ w.heap.size = w.heap.size + 1; omega), (KW.trans (k2.mono (fun _ _ e => e.elim))).trans k3⟩
      · have hb : (s.oc == 0) = false := by simpa using hoc
        have hF : (s, c) = F := by
          have : (if s.oc = 0 then gor l os gs g (c + 1) (mstp os gs (atI l s.pl.toNat) s) else (s, c)) = F := HG.out
          rw [if_neg hoc] at this
          exact this
        subst hF
        clear HG hpl hGw
        clear hcan hO2 hl2
        have hD := hM.keep (S := fun _ => False) (Keeps.refl _ wr).drew (fun e => e)
        have hle := left_any hD (hOw.keep (Keeps.refl _ wr).drew) h16
        have e52 := hD.c
        have e53 := hD.u
        have e52' := hM.c
        have e53' := hM.u
        have szr := KW.size
        have ltr := hM.lt
        go_wp2_with fail
        go_region_held3 (fun w' => w'.cell? ⟨w.heap.size + 1, 52, none⟩ = some (.int .i64 s.oc) ∧ w'.cell? ⟨w.heap.size + 1, 53, none⟩ = some (.int .i64 s.rs)) (go_keep) (first | (go_at_call 35; refine hle.mono ?_; clear hle; rintro e w6 ⟨rfl, C6, k6, s6⟩; have K6 := (Keeps.refl (fun _ => False) wr).drew.trans k6; have g52 := K6.cell e52' (fun e => e); have g53 := K6.cell e53' (fun e => e); have C8 := CR.keep (by show 0 < 4; decide) K6 (fun e => e); have y0 := C8.c 0 _ rfl; have y1 := C8.c 1 _ rfl; have y2 := C8.c 2 _ rfl; have y3 := C8.c 3 _ rfl; have x0 := C8.z 0 (by show 0 < 4; decide); have x1 := C8.z 1 (by show 1 < 4; decide); have x2 := C8.z 2 (by show 2 < 4; decide); have x3 := C8.z 3 (by show 3 < 4; decide)))
        all_goals
          go_wp2_with fail
          refine bodyPost_ret (v := .agg #[.int .i64 s.oc, .int .i64 s.rs, .slice (some ⟨wr.heap.size, 0, none⟩) os.length os.length, .int .i64 (c : Int)]) (by rw [results_cellm rfl]; go_simp) rfl ⟨_, rfl, ⟨wr.heap.size, by omega, rfl, ?_, ?_⟩, ?_⟩
          · have C6 : CL w6 wr.heap.size (nvs (lft os s os.length)) := C6
            exact (((C6.other (by show w.heap.size ≠ wr.heap.size; omega) _).other (by show w.heap.size ≠ wr.heap.size; omega) _).other (by show w.heap.size ≠ wr.heap.size; omega) _).other (by show w.heap.size ≠ wr.heap.size; omega) _
          · have s6' : w6.heap.size = wr.heap.size + 1 := s6
            simp; omega
          · have KX : Keeps (fun _ => False) w w6 := (KW.trans' K6 (fun i hi e => by have e : i = w.heap.size + 1 := e; omega) (fun _ _ e => e))
            exact (((KX.setCell (fun h => absurd h (Nat.lt_irrefl _)) _).setCell (fun h => absurd h (Nat.lt_irrefl _)) _).setCell (fun h => absurd h (Nat.lt_irrefl _)) _).setCell (fun h => absurd h (Nat.lt_irrefl _)) _
end Go.Proofs.YthchbcfecconbaaGreatDoor

