import Derived.Test.YtaikngpgmcpecaaGreatLocN
import Derived.Test.YtaikngpgmcpecaaGreatLocM
namespace Go.Proofs.YtaikngpgmcpecaaGreat
open Go.RowKit

theorem nw_lo (vs : List Vl) (c : Nat) {k i : Nat} (hi : i < k) : (nw vs c k).lo i = ⟨0, i, i, true⟩ := by simp [Ws.lo, nw, List.getD_eq_getElem?_getD, hi]
theorem nw_ob (vs : List Vl) (c : Nat) {k i : Nat} (hi : i < k) : (nw vs c k).ob i = c + 2 + i := by simp [Ws.ob, nw, List.getD_eq_getElem?_getD, hi]
theorem nw_att (vs : List Vl) (c k : Nat) : (nw vs c k).att 0 = ⟨-1, -1, -1, c, c + 1⟩ := by simp [Ws.att, nw]
theorem nm_val0 (m : Mm) (k : Nat) : (nm m k).val m.cells.length = 2 := by
  show (ca (m.cells ++ [(2, 2), (0, 0)] ++ _) m.cells.length).2 = 2
  simp [ca, List.getD_eq_getElem?_getD]
theorem nm_val (m : Mm) {k i : Nat} (hi : i < k) : (nm m k).val (m.cells.length + 2 + i) = (i : Int) := by
  show (ca (m.cells ++ [(2, 2), (0, 0)] ++ (List.range k).map fun (i : Nat) => ((i : Int), (i : Int))) (m.cells.length + 2 + i)).2 = (i : Int)
  have e : (m.cells ++ [((2 : Int), (2 : Int)), (0, 0)] ++ (List.range k).map fun (i : Nat) => ((i : Int), (i : Int)))[m.cells.length + 2 + i]? = some ((i : Int), (i : Int)) := by
    rw [List.getElem?_append_right (by simp)]
    simp [hi]
  simp only [ca, List.getD_eq_getElem?_getD, e, Option.getD_some]
theorem inv_nw (vs : List Vl) (m : Mm) (h80 : vs.length ≤ 80) (h1 : 1 ≤ vs.length) : Inv (nw vs m.cells.length vs.length) (nm m vs.length) := by
  have el : (nw vs m.cells.length vs.length).locs.length = vs.length := by simp [nw]
  have eo : (nw vs m.cells.length vs.length).objs.length = vs.length := by simp [nw]
  have ea : (nw vs m.cells.length vs.length).atts.length = 1 := by simp [nw]
  have ev : (nw vs m.cells.length vs.length).vals.length = vs.length := by simp [nw]
  have en := nm_len m vs.length
  have a0 : ∀ i, i < 1 → (nw vs m.cells.length vs.length).att i = ⟨-1, -1, -1, m.cells.length, m.cells.length + 1⟩ := fun i hi => by
    have : i = 0 := by omega
    rw [this]; exact nw_att _ _ _
  refine ⟨by rw [el, ev], fun i hi => ?_, fun i hi => ?_, fun i hi => ?_, fun i hi => ?_, by omega, by omega, by omega, by omega, ⟨fun k => if k = m.cells.length then 0 else if k = m.cells.length + 1 then 1 else 3 * (k - (m.cells.length + 2)) + 2, fun i hi => ?_, fun i hi => ?_⟩, ?_, fun i hi => ?_⟩
  · rw [el] at hi; rw [nw_lo _ _ hi, el, ea]; exact ⟨rfl, hi, Nat.zero_lt_one⟩
  · rw [ea] at hi; rw [a0 i hi, en]; exact ⟨by show m.cells.length < _; omega, by show m.cells.length + 1 < _; omega⟩
  · rw [eo] at hi; rw [nw_ob _ _ hi, en]; omega
  · rw [eo] at hi; rw [nw_ob _ _ hi, el]; exact ⟨i, nm_val m hi, hi, by rw [nw_lo _ _ hi]⟩
  · rw [ea] at hi; rw [a0 i hi]
    have : i = 0 := by omega
    subst this
    have q : ¬ m.cells.length + 1 = m.cells.length := by omega
    simp
  · rw [eo] at hi; rw [nw_ob _ _ hi]
    have q1 : ¬ m.cells.length + 2 + i = m.cells.length := by omega
    have q2 : ¬ m.cells.length + 2 + i = m.cells.length + 1 := by omega
    simp only [if_neg q1, if_neg q2]; omega
  · rw [nw_att]; exact nm_val0 m _
  · rw [el] at hi; rw [nw_lo _ _ hi, nw_lo _ _ hi, nw_att]; exact nm_val0 m _

def hv : List Vl := [⟨7, 0, false⟩, ⟨8, 0, false⟩]
def s1 : Ws := nw hv 0 2
def m1 : Mm := nm Mm.new 2
def s2 : Ws := s1.beg 3 10 (-1) 4
def m2 : Mm := (m1.make 1).make 0
def s3 : Ws := s2.lay 1 0 ⟨7, 0, false⟩
def s4 : Ws := s3.put 2 ⟨9, 0, false⟩
def m5 : Mm := m2.begin 0 3
def s6 : Ws := s4.use 2 true
def m6 : Mm := m5.swap 2 0 2
def m7 : Mm := m6.begin 1 3
def m8 : Mm := m7.swap 4 1 2
theorem I1 : Inv s1 m1 := inv_nw hv Mm.new (by decide) (by decide)
theorem I2 : Inv s2 m2 := I1.beg (by decide) 3 10 (-1) 1
theorem I3 : Inv s3 m2 := I2.lay (att := 1) (old := 0) (by decide) (by decide) (by decide) (by decide) _
theorem I5 : Inv s4 m5 := (I3.put 2 _).mem 0 3
theorem I7 : Inv s6 m7 := (I5.acq (o := 0) (x := 0) (y := 2) (by decide) (by decide) (by decide)).mem 1 3
theorem I8 : Inv s6 m8 := I7.stat (i := 1) (by decide) 2
theorem com8 : s6.com m8 = [⟨9, 0, false⟩, ⟨8, 0, false⟩] := by decide
theorem num_of (W : World) (a : Int) : Calls Tryz.prog 15 #[.int .i64 a] W fun e w' => e = .returned (.int .i64 a) ∧ W = w' := by
  go_enter Tryz.func15, Tryz.ntmps15
  go_wp2
  go_ret
  exact ⟨rfl, rfl⟩
section
variable {w : World} {ρ : Nat → Nat} {wb mb : Nat}
theorem hd2 (h : St w ρ 1 2 wb mb s1 m1) : Calls Tryz.prog 16 #[.pointer (some ⟨wb, 0, none⟩), .agg #[.int .i64 3, .int .i64 10, .int .i64 (-1)]] w fun e w' =>
      e = .returned (.tuple #[.int .i64 1, .int .i64 0]) ∧ ∃ ρ', St w' ρ' 1 2 wb mb s2 m2 ∧ Ext (Sr 1 2) w w' ρ ρ' := Attempt_ok h (by decide) 3 10 (-1)
theorem hd3 (h : St w ρ 1 2 wb mb s2 m2) : Calls Tryz.prog 17 #[.pointer (some ⟨wb, 0, none⟩), .int .i64 1, .int .i64 0] w fun e w' =>
      e = .returned (.tuple #[.int .i64 2, .int .i64 0]) ∧ ∃ ρ', St w' ρ' 1 2 wb mb s3 m2 ∧ Ext (Sr 1 2) w w' ρ ρ' := Make_ok h I2.wf (att := 1) (old := 0) (by decide) (by decide) (by decide) (by decide) (by decide)
theorem hd4 (h : St w ρ 1 2 wb mb s3 m2) : Calls Tryz.prog 18 #[.pointer (some ⟨wb, 0, none⟩), .int .i64 2, .agg #[.int .i64 9, .int .i64 0, .bool false]] w fun e w' =>
      e = .returned (.int .i64 0) ∧ ∃ ρ', St w' ρ' 1 2 wb mb s4 m2 ∧ Ext (Sr 1 2) w w' ρ ρ' := Put_ok h I3.wf (i := 2) (by decide) (by decide) (by decide) ⟨9, 0, false⟩
theorem hd5 (h : St w ρ 1 2 wb mb s4 m2) : Calls Tryz.prog 19 #[.pointer (some ⟨mb, 0, none⟩), .int .i64 0, .int .i64 3] w fun e w' =>
      e = .returned (.int .i64 0) ∧ ∃ ρ', St w' ρ' 1 2 wb mb s4 m5 ∧ Ext (Sr 1 2) w w' ρ ρ' := sbegin h 0 3 (by decide)
theorem hd6 (h : St w ρ 1 2 wb mb s4 m5) : Calls Tryz.prog 20 #[.pointer (some ⟨wb, 0, none⟩), .int .i64 0, .int .i64 0, .int .i64 2] w fun e w' =>
      e = .returned (.tuple #[.bool true, .int .i64 0]) ∧ ∃ ρ', St w' ρ' 1 2 wb mb s6 m6 ∧ Ext (Sr 1 2) w w' ρ ρ' := Acq_ok h I5.wf (o := 0) (x := 0) (y := 2) (by decide) (by decide) (by decide) (by decide) (by decide) (by decide) (by decide)
theorem hd7 (h : St w ρ 1 2 wb mb s6 m6) : Calls Tryz.prog 19 #[.pointer (some ⟨mb, 0, none⟩), .int .i64 1, .int .i64 3] w fun e w' =>
      e = .returned (.int .i64 0) ∧ ∃ ρ', St w' ρ' 1 2 wb mb s6 m7 ∧ Ext (Sr 1 2) w w' ρ ρ' := sbegin h 1 3 (by decide)
theorem hd8 (h : St w ρ 1 2 wb mb s6 m7) : Calls Tryz.prog 21 #[.pointer (some ⟨wb, 0, none⟩), .int .i64 1] w fun e w' =>
      e = .returned (.tuple #[.bool true, .int .i64 0]) ∧ ∃ ρ', St w' ρ' 1 2 wb mb s6 m8 ∧ Ext (Sr 1 2) w w' ρ ρ' := Commit_ok h I7.wf (i := 1) (by decide) (by decide) (by decide) (by decide)
theorem hd9 (h : St w ρ 1 2 wb mb s6 m8) : Calls Tryz.prog 22 #[.pointer (some ⟨wb, 0, none⟩)] w fun e w' => e = .returned (.slice (some ⟨w.heap.size, 0, none⟩) 2 2) ∧
      (w'.cell? ⟨w.heap.size, 0, none⟩ = some (.int .i64 9) ∧ w'.cell? ⟨w.heap.size, 3, none⟩ = some (.int .i64 8)) ∧ Keeps (fun _ => False) w w' := by
  refine (com_any h I8.wf).mono ?_
  rintro e w' ⟨rfl, ho, k⟩
  rw [com8] at ho
  exact ⟨rfl, ⟨owns_cell ho rfl (j := 0) rfl, owns_cell ho rfl (j := 3) rfl⟩, k⟩
end
set_option maxHeartbeats 3200000 in
set_option maxRecDepth 1000000 in
theorem head_any (w : World) : Calls Tryz.prog 4 #[] w fun e w' => e = .returned (.bool true) ∧ Keeps (fun _ => False) w w' := by
  have hp := peq w.heap.size
  go_enter Tryz.func4, Tryz.ntmps4
  go_wp2_with fail
  refine (new_any w).mono ?_
  rintro e w1 ⟨rfl, M1, k1⟩
  have hM : MJ w1 (fun k => if k = w.heap.size then 1 else 0) 1 w.heap.size Mm.new := ⟨_, M1, fun k hk => by simp at hk; exact if_pos hk⟩
  have hB : Bnd w1 (fun k => if k = w.heap.size then 1 else 0) := fun k hk => by
    have := M1.lt _ M1.mem
    exact if_neg (by omega)
  have hr0 : ∀ k, k < w.heap.size → (fun k => if k = w.heap.size then 1 else 0) k = 0 := fun k hk => if_neg (by omega)
  generalize (fun k => if k = w.heap.size then 1 else 0) = ρ1 at hM hB hr0
  obtain ⟨w2, hw2⟩ : ∃ w2, w2 = w1.alloc (.cells #[.int .i64 7, .int .i64 0, .bool false, .int .i64 8, .int .i64 0, .bool false] 37) := ⟨_, rfl⟩
  have K2 : Keeps (fun _ => False) w1 w2 := by rw [hw2]; exact (Keeps.refl _ w1).alloc _
  obtain ⟨x2, B2⟩ := Ext.alloc (S := fun _ => False) hB K2
  have hM2 := hM.ext x2 (fun e => e)
  have hV : VL w2 ρ1 (some ⟨w1.heap.size, 0, none⟩) hv := .inr ⟨w1.heap.size, 0, rfl, hB _ (Nat.le_refl _), fun i v hi => by
    have h2 : i < 2 := by
      rcases Nat.lt_or_ge i 2 with l | l
      · exact l
      · rw [List.getElem?_eq_none (by simp [hv]; omega)] at hi; cases hi
    have h3 : i = 0 ∨ i = 1 := by omega
    rcases h3 with rfl | rfl <;> (simp [hv] at hi; subst hi; rw [hw2]; simp)⟩
  have hN := New_ok (j := 2) hM2 (by decide) (by decide) (by decide) hV 2 (by decide) (by decide) (by decide)
  have hN' : Calls Tryz.prog 14 #[.pointer (some ⟨w.heap.size, 0, none⟩), .slice (some ⟨w1.heap.size, 0, none⟩) 2 2] w2 fun e w' => e = .returned (.tuple #[.pointer (some ⟨w2.heap.size, 0, none⟩), .int .i64 0]) ∧ ∃ ρ', St w' ρ' 1 2 w2.heap.size w.heap.size s1 m1 ∧ Ext (Sr 1 2) w2 w' ρ1 ρ' := hN
  have hq := weq w2.heap.size
  generalize hwb : w2.heap.size = wb at *
  have x02 : Ext (Sr 1 2) w1 w2 ρ1 ρ1 := x2.mono (fun _ e => e.elim)
  clear hN hM hM2 hB x2 hwb hV M1
  go_wp2_with fail
  rw [← hw2]
  refine hN'.mono ?_
  clear hN' hw2
  rintro e w3 ⟨rfl, ρ3, S3, x3⟩
  have X3 := x02.trans x3
  clear x02 x3
  go_wp2_with (first | (go_at_call 15; refine (num_of _ _).mono ?_; rintro e w' ⟨rfl, rfl⟩) | (go_at_call 16; refine (hd2 S3).mono ?_; clear S3; rintro e w4 ⟨rfl, ρ4, S4, x4⟩; have X4 := X3.trans x4; clear X3 x4) | (go_at_call 17; refine (hd3 S4).mono ?_; clear S4; rintro e w5 ⟨rfl, ρ5, S5, x5⟩; have X5 := X4.trans x5; clear X4 x5) | (go_at_call 18; refine (hd4 S5).mono ?_; clear S5; rintro e w6 ⟨rfl, ρ6, S6, x6⟩; have X6 := X5.trans x6; clear X5 x6) | (go_at_call 19; refine (hd5 S6).mono ?_; clear S6; rintro e w7 ⟨rfl, ρ7, S7, x7⟩; have X7 := X6.trans x7; clear X6 x7) | (go_at_call 20; refine (hd6 S7).mono ?_; clear S7; rintro e w8 ⟨rfl, ρ8, S8, x8⟩; have X8 := X7.trans x8; clear X7 x8) | (go_at_call 19; refine (hd7 S8).mono ?_; clear S8; rintro e w9 ⟨rfl, ρ9, S9, x9⟩; have X9 := X8.trans x9; clear X8 x9) | (go_at_call 21; refine (hd8 S9).mono ?_; clear S9; rintro e wa ⟨rfl, ρa, Sa, xa⟩; have Xa := X9.trans xa; clear X9 xa) | (go_at_call 22; refine (hd9 Sa).mono ?_; clear Sa; rintro e wc ⟨rfl, ⟨c0, c3⟩, kc⟩))
  go_ret
  refine ⟨rfl, ?_⟩
  refine k1.trans' (Xa.keeps.trans' kc (U := fun k => Sr 1 2 (ρ1 k)) (fun _ _ e => e) (fun _ _ e => e.elim)) (fun _ _ e => e) (fun i hi e => ?_)
  rw [hr0 i hi] at e
  rcases e with e | e
  · cases e
  · omega
end Go.Proofs.YtaikngpgmcpecaaGreat
