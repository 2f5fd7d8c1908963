import Derived.Test.YtchbhmolnoggfaaGreatDoorG04
import Derived.Test.YtchbhmolnoggfaaGreatDoorG03
import Derived.Laws.IdiomStrings
import Derived.Maps.OwnSet
namespace Go.Proofs.YtchbhmolnoggfaaGreatDoor
open Go.RowKit Go.Deep Go.ChangeShapes Go.WideShapes Go.ChangeAt
attribute [local go_sem] Oper.semAt_some run_store_nf run_store_f
def txt1 : ByteArray := ⟨#[116, 97, 107, 101, 32, 114, 50, 32, 64, 114, 49, 10, 120, 111, 114, 32, 114, 50, 32, 114, 50, 32, 55]⟩
theorem rd1 : rd (lns txt1) 0 [] = some [(⟨2, 2, true, 1, false, 0, false, 0, 0, 0, 0⟩ : Ins), (⟨6, 2, false, 0, true, 2, false, 7, 8, 0, 0⟩ : Ins)] := by kernel_rfl
theorem ln1 : ∀ x ∈ lns txt1, x.size ≤ 4096 := by
  have h : lns txt1 = [⟨#[116, 97, 107, 101, 32, 114, 50, 32, 64, 114, 49]⟩, ⟨#[120, 111, 114, 32, 114, 50, 32, 114, 50, 32, 55]⟩] := by kernel_rfl
  rw [h]
  intro x hx
  rcases (by simpa using hx : x = _ ∨ x = _) with rfl | rfl <;> decide
theorem wpAnyH_storeL {P : Program} {ops : Array Oper} {Q : Exit → Act → World → Prop} {md : Region.Mode} {S : World → Prop} {fuel : Nat} {listed : Array Bool} {a : Act} {w : World} {o : Oper} (i : Nat) (hr : Region.ready md ops listed = [i]) (hoi : ops[i]? = some o) (hgd : o.guard = none)
    (ty : TypeId) (x y : Operand) (ho : o.op = .store ty x y) (b n : Nat) (cells : Array Value) (hx : a.eval x = .pointer (some ⟨b, 0, none⟩)) (hy : a.eval y = .agg cells) (hn : cells.size = n) {l : List Value} (hC : CL w b l) (hl : l.length = n) (hi : (P.info? ty).map (·.size) = some n) (h1 : cells.all (·.oneCell') = true)
    (hS : ∀ w1, Keeps (fun k => k = b) w w1 → S w1) (h : ∀ w1, CL w1 b cells.toList → Keeps (fun k => k = b) w w1 → S w1 → wpAnyH P md ops Q S fuel (listed.setIfInBounds i true) (a.put o.dst undef) w1) : wpAnyH P md ops Q S (fuel + 1) listed a w := by
  have kk : Keeps (fun k => k = b) w (w.setCells b 0 cells.toList) := (Keeps.refl _ w).setsA _ _
  have cc : CL (w.setCells b 0 cells.toList) b cells.toList := by
    have h2 := hC.sets (o := 0) (vs := cells.toList) (by simp; omega)
    have e : sets l 0 cells.toList = cells.toList := by
      unfold sets
      rw [List.take_zero, List.nil_append, List.drop_eq_nil_of_le (by simp; omega), List.append_nil]
    rw [e] at h2
    exact h2
  exact wpAnyH_store i hr hoi hgd ty x y ho b 0 n cells hx hy hn (hC.there (by omega)) hi h1 (hS _ kk) (fun hs => h _ cc kk hs)
set_option maxHeartbeats 800000 in
set_option maxRecDepth 1000000 in
theorem fixed_ok {w : World} (hT : PT w) (hNT : NT w) : Calls Tryz.prog 8 #[] w fun e w' => e = .returned (.bool true) ∧ Keeps (fun _ => False) w w' := by
  have hP := parse_ok txt1 (by decide) hT hNT rd1 ln1
  clear hT hNT
  go_enter Tryz.func8, Tryz.ntmps8
  go_wp2_with fail
  refine (show Calls Tryz.prog 4 #[.string txt1] w _ from hP).mono ?_
  clear hP
  rintro e w1 ⟨v, rfl, hown, k1⟩
  obtain ⟨a, cap, rfl, hI⟩ := isl_of_owns hown rfl
  obtain ⟨b, off, rfl, hc0⟩ := hI 0 (by decide)
  obtain ⟨b', off', e', hc1⟩ := hI 1 (by decide)
  obtain ⟨rfl, rfl⟩ : b = b' ∧ off = off' := by
    injection e' with e'; injection e' with e1 e2 _; exact ⟨e1, e2⟩
  clear e' hI hown
  have hl2 : ([(⟨2, 2, true, 1, false, 0, false, 0, 0, 0, 0⟩ : Ins), (⟨6, 2, false, 0, true, 2, false, 7, 8, 0, 0⟩ : Ins)] : List Ins).length = 2 := rfl
  rw [hl2]
  clear hl2
  have hc0' : ∀ j v, (⟨2, 2, true, 1, false, 0, false, 0, 0, 0, 0⟩ : Ins).cells[j]? = some v → w1.cell? ⟨b, off + j, none⟩ = some v := fun j v e => by have := hc0 j v e; rw [Nat.zero_mul, Nat.add_zero] at this; exact this
  have hc1' : ∀ j v, (⟨6, 2, false, 0, true, 2, false, 7, 8, 0, 0⟩ : Ins).cells[j]? = some v → w1.cell? ⟨b, off + 11 + j, none⟩ = some v := fun j v e => by have := hc1 j v e; rw [Nat.one_mul] at this; exact this
  clear hc0 hc1
  obtain ⟨wr, hwr⟩ : ∃ wr, wr = w1.alloc (.cells #[.int .i64 0, .int .i64 0, .int .i64 0] 25) := ⟨_, rfl⟩
  have K1 : Keeps (fun _ => False) w1 wr := by rw [hwr]; exact (Keeps.refl _ w1).alloc _
  have HWR : Hid (_ = _) := hwr
  clear hwr
  have KR := k1.trans K1
  have Q1c : Hid (∀ j v, (⟨2, 2, true, 1, false, 0, false, 0, 0, 0, 0⟩ : Ins).cells[j]? = some v → wr.cell? ⟨b, off + j, none⟩ = some v) := fun j v e => K1.cell (hc0' j v e) (fun e => e)
  have Q2c : Hid (∀ j v, (⟨6, 2, false, 0, true, 2, false, 7, 8, 0, 0⟩ : Ins).cells[j]? = some v → wr.cell? ⟨b, off + 11 + j, none⟩ = some v) := fun j v e => K1.cell (hc1' j v e) (fun e => e)
  clear hc0' hc1' k1 K1
  go_wp2_with fail
  rw [← HWR.out]
  clear HWR
  refine wp_region_held_drew (S := fun w' => Keeps (fun _ => False) wr w') (by kernel_rfl) (Keeps.refl _ wr).drew (fun hHeld => ?_)
  refine wpAnyH_take (i := 0) (v := ?_) rfl (by kernel_rfl) (by kernel_rfl) (by kernel_rfl) (fun _ _ _ h => h) (Or.inl ⟨by rfl, ?_⟩) (by assumption) ?_
  rotate_left
  · intro wx hSw;  go_simp <;> with_reducible rfl
  (try simp only [List.getElem_toArray]); (try simp only [List.getElem_cons_succ]); (try simp only [List.getElem_cons_zero]); (try simp only [Act.put]); (try simp only [List.setIfInBounds_toArray]); (repeat first | simp only [List.set_cons_succ] | simp only [List.set_cons_zero])
  refine wpAnyH_take (i := 1) (v := ?_) rfl (by kernel_rfl) (by kernel_rfl) (by kernel_rfl) (fun _ _ _ h => h) (Or.inl ⟨by rfl, ?_⟩) (by assumption) ?_
  rotate_left
  · intro wx hSw;  go_simp <;> with_reducible rfl
  (try simp only [List.getElem_toArray]); (try simp only [List.getElem_cons_succ]); (try simp only [List.getElem_cons_zero]); (try simp only [Act.put]); (try simp only [List.setIfInBounds_toArray]); (repeat first | simp only [List.set_cons_succ] | simp only [List.set_cons_zero])
  refine wpAnyH_take (i := 2) (v := .agg #[.int .i64 2, .int .i64 2, .bool true, .int .i64 1, .bool false, .int .i64 0, .bool false, .int .i64 0, .int .i64 0, .int .i64 0, .int .i64 0]) rfl (by kernel_rfl) (by kernel_rfl) (by kernel_rfl) (fun _ _ _ h => h) (Or.inl ⟨by rfl, ?_⟩) (by assumption) ?_
  · intro wx hSw
    have hSw : Keeps (fun _ => False) wr wx := hSw
    exact takes_load' 65 _ rfl ⟨b, off, none⟩ rfl (run_insAt (q := (⟨2, 2, true, 1, false, 0, false, 0, 0, 0, 0⟩ : Ins)) (fun j v e => hSw.cell (Q1c.out j v e) (fun e => e)) ⟨_, Tryz.underlying65⟩ iIn)
  (try simp only [List.getElem_toArray]); (try simp only [List.getElem_cons_succ]); (try simp only [List.getElem_cons_zero]); (try simp only [Act.put]); (try simp only [List.setIfInBounds_toArray]); (repeat first | simp only [List.set_cons_succ] | simp only [List.set_cons_zero])
  refine wpAnyH_take (i := 3) (v := ?_) rfl (by kernel_rfl) (by kernel_rfl) (by kernel_rfl) (fun _ _ _ h => h) (Or.inl ⟨by rfl, ?_⟩) (by assumption) ?_
  rotate_left
  · intro wx hSw;  go_simp <;> with_reducible rfl
  (try simp only [List.getElem_toArray]); (try simp only [List.getElem_cons_succ]); (try simp only [List.getElem_cons_zero]); (try simp only [Act.put]); (try simp only [List.setIfInBounds_toArray]); (repeat first | simp only [List.set_cons_succ] | simp only [List.set_cons_zero])
  refine wpAnyH_take (i := 4) (v := ?_) rfl (by kernel_rfl) (by kernel_rfl) (by kernel_rfl) (fun _ _ _ h => h) (Or.inl ⟨by rfl, ?_⟩) (by assumption) ?_
  rotate_left
  · intro wx hSw;  go_simp <;> with_reducible rfl
  (try simp only [List.getElem_toArray]); (try simp only [List.getElem_cons_succ]); (try simp only [List.getElem_cons_zero]); (try simp only [Act.put]); (try simp only [List.setIfInBounds_toArray]); (repeat first | simp only [List.set_cons_succ] | simp only [List.set_cons_zero])
  refine wpAnyH_take (i := 5) (v := .agg #[.int .i64 6, .int .i64 2, .bool false, .int .i64 0, .bool true, .int .i64 2, .bool false, .int .i64 7, .int .i64 8, .int .i64 0, .int .i64 0]) rfl (by kernel_rfl) (by kernel_rfl) (by kernel_rfl) (fun _ _ _ h => h) (Or.inl ⟨by rfl, ?_⟩) (by assumption) ?_
  · intro wx hSw
    have hSw : Keeps (fun _ => False) wr wx := hSw
    exact takes_load' 65 _ rfl ⟨b, off + 11, none⟩ rfl (run_insAt (q := (⟨6, 2, false, 0, true, 2, false, 7, 8, 0, 0⟩ : Ins)) (fun j v e => hSw.cell (Q2c.out j v e) (fun e => e)) ⟨_, Tryz.underlying65⟩ iIn)
  (try simp only [List.getElem_toArray]); (try simp only [List.getElem_cons_succ]); (try simp only [List.getElem_cons_zero]); (try simp only [Act.put]); (try simp only [List.setIfInBounds_toArray]); (repeat first | simp only [List.set_cons_succ] | simp only [List.set_cons_zero])
  have hA1 := all_oneCell_ins (⟨2, 2, true, 1, false, 0, false, 0, 0, 0, 0⟩ : Ins)
  have hA2 := all_oneCell_ins (⟨6, 2, false, 0, true, 2, false, 7, 8, 0, 0⟩ : Ins)
  have m0 := (CL.made wr ins0.cells 65).drew
  have m1 := (CL.made (wr.alloc (.cells ins0.cells.toArray 65)).drew ins0.cells 65)
  have s1 : (wr.alloc (.cells ins0.cells.toArray 65)).drew.heap.size = wr.heap.size + 1 := by simp [World.drew]
  rw [s1] at m1
  have m01 := m0.alloc (by show 0 < 11; decide) (.cells ins0.cells.toArray 65)
  refine wpAnyH_two' 6 7 (by kernel_rfl) rfl rfl (by rfl) (by rfl) ?_ ?_
  · go_simp
    refine ⟨hHeld.alloc _, fun hS1 => ?_⟩
    (try simp only [List.getElem_toArray]); (try simp only [List.getElem_cons_succ]); (try simp only [List.getElem_cons_zero]); (try simp only [Act.put]); (try simp only [List.setIfInBounds_toArray]); (repeat first | simp only [List.set_cons_succ] | simp only [List.set_cons_zero])
    refine wpAnyH_one 7 (by kernel_rfl) rfl rfl ?_
    go_simp
    refine ⟨hS1.alloc _, fun hS2 => ?_⟩
    (try simp only [List.getElem_toArray]); (try simp only [List.getElem_cons_succ]); (try simp only [List.getElem_cons_zero]); (try simp only [Act.put]); (try simp only [List.setIfInBounds_toArray]); (repeat first | simp only [List.set_cons_succ] | simp only [List.set_cons_zero])
    refine wpAnyH_storeL 8 (by kernel_rfl) rfl rfl 65 _ _ rfl (wr.heap.size) 11 _ rfl rfl rfl m01 rfl iIn hA1 (fun w1 k => hS2.trans' k (fun _ _ e => e) (fun i hi e => by have e : i = wr.heap.size := e; omega)) (fun W8 c8 k8 hS3 => ?_)
    (try simp only [List.getElem_toArray]); (try simp only [List.getElem_cons_succ]); (try simp only [List.getElem_cons_zero]); (try simp only [Act.put]); (try simp only [List.setIfInBounds_toArray]); (repeat first | simp only [List.set_cons_succ] | simp only [List.set_cons_zero])
    have m17 := m1.keep (by show 0 < 11; decide) k8 (fun e => by have e : wr.heap.size + 1 = wr.heap.size := e; omega)
    refine wpAnyH_storeL 9 (by kernel_rfl) rfl rfl 65 _ _ rfl (wr.heap.size + 1) 11 _ rfl rfl rfl m17 rfl iIn hA2 (fun w1 k => hS3.trans' k (fun _ _ e => e) (fun i hi e => by have e : i = wr.heap.size + 1 := e; omega)) (fun W9 c9 k9 hS4 => ?_)
    (try simp only [List.getElem_toArray]); (try simp only [List.getElem_cons_succ]); (try simp only [List.getElem_cons_zero]); (try simp only [Act.put]); (try simp only [List.setIfInBounds_toArray]); (repeat first | simp only [List.set_cons_succ] | simp only [List.set_cons_zero])
    refine wpAnyH_done (by kernel_rfl) ?_ _
    have C3 : CL W9 (wr.heap.size) (⟨2, 2, true, 1, false, 0, false, 0, 0, 0, 0⟩ : Ins).cells := c8.keep (by show 0 < 11; decide) k9 (fun e => by have e : wr.heap.size = wr.heap.size + 1 := e; omega)
    have C4 : CL W9 (wr.heap.size + 1) (⟨6, 2, false, 0, true, 2, false, 7, 8, 0, 0⟩ : Ins).cells := c9
    clear c8 c9 k8 k9 m17 m0 m1 m01 hS1 hS2 hS3 hHeld s1 hA1 hA2 Q1c Q2c
    have g0 := C3.c 0 _ rfl
    have g1 := C3.c 1 _ rfl
    have g2 := C3.c 2 _ rfl
    have g3 := C3.c 3 _ rfl
    have h0 := C4.c 0 _ rfl
    have h4 := C4.c 4 _ rfl
    have h5 := C4.c 5 _ rfl
    have h6 := C4.c 6 _ rfl
    have h7 := C4.c 7 _ rfl
    have h8 := C4.c 8 _ rfl
    clear C3 C4
    go_wp2_with fail
    go_ret
    exact ⟨rfl, KR.trans hS4⟩
  · go_simp
    refine ⟨hHeld.alloc _, fun hS1 => ?_⟩
    (try simp only [List.getElem_toArray]); (try simp only [List.getElem_cons_succ]); (try simp only [List.getElem_cons_zero]); (try simp only [Act.put]); (try simp only [List.setIfInBounds_toArray]); (repeat first | simp only [List.set_cons_succ] | simp only [List.set_cons_zero])
    refine wpAnyH_one 6 (by kernel_rfl) rfl rfl ?_
    go_simp
    refine ⟨hS1.alloc _, fun hS2 => ?_⟩
    (try simp only [List.getElem_toArray]); (try simp only [List.getElem_cons_succ]); (try simp only [List.getElem_cons_zero]); (try simp only [Act.put]); (try simp only [List.setIfInBounds_toArray]); (repeat first | simp only [List.set_cons_succ] | simp only [List.set_cons_zero])
    refine wpAnyH_storeL 8 (by kernel_rfl) rfl rfl 65 _ _ rfl (wr.heap.size + 1) 11 _ rfl rfl rfl m1 rfl iIn hA1 (fun w1 k => hS2.trans' k (fun _ _ e => e) (fun i hi e => by have e : i = wr.heap.size + 1 := e; omega)) (fun W8 c8 k8 hS3 => ?_)
    (try simp only [List.getElem_toArray]); (try simp only [List.getElem_cons_succ]); (try simp only [List.getElem_cons_zero]); (try simp only [Act.put]); (try simp only [List.setIfInBounds_toArray]); (repeat first | simp only [List.set_cons_succ] | simp only [List.set_cons_zero])
    have m17 := m01.keep (by show 0 < 11; decide) k8 (fun e => by have e : wr.heap.size = wr.heap.size + 1 := e; omega)
    refine wpAnyH_storeL 9 (by kernel_rfl) rfl rfl 65 _ _ rfl (wr.heap.size) 11 _ rfl rfl rfl m17 rfl iIn hA2 (fun w1 k => hS3.trans' k (fun _ _ e => e) (fun i hi e => by have e : i = wr.heap.size := e; omega)) (fun W9 c9 k9 hS4 => ?_)
    (try simp only [List.getElem_toArray]); (try simp only [List.getElem_cons_succ]); (try simp only [List.getElem_cons_zero]); (try simp only [Act.put]); (try simp only [List.setIfInBounds_toArray]); (repeat first | simp only [List.set_cons_succ] | simp only [List.set_cons_zero])
    refine wpAnyH_done (by kernel_rfl) ?_ _
    have C3 : CL W9 (wr.heap.size + 1) (⟨2, 2, true, 1, false, 0, false, 0, 0, 0, 0⟩ : Ins).cells := c8.keep (by show 0 < 11; decide) k9 (fun e => by have e : wr.heap.size + 1 = wr.heap.size := e; omega)
    have C4 : CL W9 (wr.heap.size) (⟨6, 2, false, 0, true, 2, false, 7, 8, 0, 0⟩ : Ins).cells := c9
    clear c8 c9 k8 k9 m17 m0 m1 m01 hS1 hS2 hS3 hHeld s1 hA1 hA2 Q1c Q2c
    have g0 := C3.c 0 _ rfl
    have g1 := C3.c 1 _ rfl
    have g2 := C3.c 2 _ rfl
    have g3 := C3.c 3 _ rfl
    have h0 := C4.c 0 _ rfl
    have h4 := C4.c 4 _ rfl
    have h5 := C4.c 5 _ rfl
    have h6 := C4.c 6 _ rfl
    have h7 := C4.c 7 _ rfl
    have h8 := C4.c 8 _ rfl
    clear C3 C4
    go_wp2_with fail
    go_ret
    exact ⟨rfl, KR.trans hS4⟩
end Go.Proofs.YtchbhmolnoggfaaGreatDoor

namespace Go.Proofs.YtchbhmolnoggfaaGreatDoor
open Go.RowKit
attribute [local go_sem] Oper.semAt_some run_store_nf run_store_f
abbrev Flt := Int × Int × Int
abbrev pan (f : Flt) : Ending := .panicked [{ v := .iface 25 (.agg #[.int .i64 f.1, .int .i64 f.2.1, .int .i64 f.2.2]), recovered := false }]
theorem leave_any (w : World) (t : ByteArray) (ln col x : Int) : Calls Tryz.prog 23 #[.agg #[.string t, .int .i64 ln, .int .i64 col], .int .i64 x] w fun e w' => e = pan (x, ln, col) ∧ Keeps (fun _ => False) w w' := by
  have hpn : ∀ (t : TypeId) (v : Value) (w : World), (Instr.panic (.iface t v)).run Tryz.prog w = .halt (.panic (.iface t v)) w := fun _ _ _ => rfl
  have c := CL.made w [.string t, .int .i64 ln, .int .i64 col] 73
  have y1 := c.c 1 _ rfl
  have y2 := c.c 2 _ rfl
  have K : Keeps (fun _ => False) w (w.alloc (.cells #[.string t, .int .i64 ln, .int .i64 col] 73)) := (Keeps.refl _ w).alloc _
  clear c
  go_enter Tryz.func23, Tryz.ntmps23
  go_wp2_with fail
  exact ⟨rfl, rfl, K⟩
theorem need_no (w : World) (t : ByteArray) (ln col : Int) : Calls Tryz.prog 50 #[.agg #[.string t, .int .i64 ln, .int .i64 col], .bool false] w fun e w' => e = pan (103, ln, col) ∧ Keeps (fun _ => False) w w' := by
  have c := CL.made w [.string t, .int .i64 ln, .int .i64 col] 73
  have y0 := c.c 0 _ rfl
  have y1 := c.c 1 _ rfl
  have y2 := c.c 2 _ rfl
  have K : Keeps (fun _ => False) w (w.alloc (.cells #[.string t, .int .i64 ln, .int .i64 col] 73)) := (Keeps.refl _ w).alloc _
  clear c
  go_enter Tryz.func50, Tryz.ntmps50
  go_wp2_with (go_at_call 23; refine (leave_any _ t ln col 103).mono ?_; rintro e w1 ⟨rfl, k1⟩; have K1 := K.trans k1)
  exact ⟨rfl, rfl, K1⟩
set_option maxHeartbeats 500000 in
set_option maxRecDepth 100000 in
theorem regm_no {w : World} (t : ByteArray) (ln col : Int) (hs : t.size ≤ 4096) (hv : ErrIs w) (hb : regB t = false) : Calls Tryz.prog 46 #[.agg #[.string t, .int .i64 ln, .int .i64 col]] w fun e w' => e = pan (103, ln, col) ∧ Keeps (fun _ => False) w w' := by
  have hR := fun W (k : Keeps (fun _ => False) w W) => register_any (w := W) t hs (errIs_keep hv k)
  rw [hb] at hR
  have hN := fun W => need_no W t ln col
  have m1 := CL.made w [.string t, .int .i64 ln, .int .i64 col] 73
  have k2 : Keeps (fun _ => False) w (w.alloc (.cells #[.string t, .int .i64 ln, .int .i64 col] 73)) := (Keeps.refl _ w).alloc _
  generalize regN t = n at *
  go_enter Tryz.func46, Tryz.ntmps46
  go_wp2_with (first | (go_at_call 59; refine (hR _ k2).mono ?_; rintro e w1 ⟨rfl, k1⟩; have K1 := k2.trans k1; have C1 := m1.keep (by show 0 < 3; decide) k1 (fun e => e); have y0 := C1.c 0 _ rfl; have y1 := C1.c 1 _ rfl; have y2 := C1.c 2 _ rfl; clear hR k1 m1 k2) | (go_at_call 50; refine (hN _).mono ?_; rintro e w4 ⟨rfl, k4⟩; have K4 := K1.trans k4; clear hN k4))
  exact ⟨rfl, rfl, K4⟩
set_option maxHeartbeats 500000 in
set_option maxRecDepth 100000 in
theorem source_no {w : World} (pt : ByteArray) (ln col : Int) (t : ByteArray) (hs : t.size ≤ 4096) (hv : ErrIs w) (h : src t = none) : Calls Tryz.prog 48 #[.agg #[.string pt, .int .i64 ln, .int .i64 col], .string t] w fun e w' => e = pan (103, ln, col) ∧ Keeps (fun _ => False) w w' := by
  have hR := fun W (k : Keeps (fun _ => False) w W) => register_any (w := W) t hs (errIs_keep hv k)
  have hP := fun W (k : Keeps (fun _ => False) w W) => parse_any t W (by omega) (errIs_keep hv k)
  have hN := fun W => need_no W pt ln col
  have m1 := made1 w [.string pt, .int .i64 ln, .int .i64 col] 73 (.cells #[.bool false, .int .i64 0] 61) (by show 0 < 3; decide)
  have k2 := ks2 w (.cells #[.string pt, .int .i64 ln, .int .i64 col] 73) (.cells #[.bool false, .int .i64 0] 61)
  unfold src at h
  have hb : regB t = false := by
    cases hb : regB t with
    | false => rfl
    | true => rw [if_pos hb] at h; cases h
  rw [hb, if_neg (by decide)] at h
  rw [hb] at hR
  have he : ¬ prsE t.toList = 0 := fun e => by rw [if_pos e] at h; cases h
  have he2 : (prsE t.toList == 0) = false := beq_eq_false_iff_ne.2 he
  clear h
  generalize regN t = n' at *
  generalize prsV t.toList = n at *
  generalize prsE t.toList = pe at *
  go_enter Tryz.func48, Tryz.ntmps48
  go_wp2_with (first | (go_at_call 59; refine (hR _ k2).mono ?_; rintro e w1 ⟨rfl, k1⟩; have K1 := k2.trans k1; have C1 := m1.keep (by show 0 < 3; decide) k1 (fun e => e); clear hR k1 m1 k2) | (go_at_call 61; refine (hP _ K1).mono ?_; rintro e w3 ⟨rfl, b3⟩; have k3 := Keeps.ofBelow b3; clear b3; have K3 := K1.trans k3; have D1 := C1.keep (by show 0 < 3; decide) k3 (fun e => e); have y0 := D1.c 0 _ rfl; have y1 := D1.c 1 _ rfl; have y2 := D1.c 2 _ rfl; clear C1 hP k3) | (go_at_call 50; refine (hN _).mono ?_; rintro e w4 ⟨rfl, k4⟩; have K4 := K3.trans k4; clear hN k4))
  exact ⟨rfl, rfl, K4⟩
set_option maxHeartbeats 500000 in
set_option maxRecDepth 100000 in
theorem object_no {w : World} (t : ByteArray) (ln col : Int) (hs : t.size ≤ 4096) (hv : ErrIs w) (h : objO t = none) : Calls Tryz.prog 47 #[.agg #[.string t, .int .i64 ln, .int .i64 col]] w fun e w' => e = pan (103, ln, col) ∧ Keeps (fun _ => False) w w' := by
  have hC : ∀ W, Calls Tryz.prog 60 #[.string t, .string ⟨#[64]⟩] W fun e w' => e = .returned (.tuple #[.string (tp t 64), .bool (hp t 64)]) ∧ w' = W := fun W => Tryz.strings_CutPrefix t ⟨#[64]⟩ W
  have m1 := made1 w [.string t, .int .i64 ln, .int .i64 col] 73 (.cells #[.bool false, .int .i64 0] 61) (by show 0 < 3; decide)
  have k2 := ks2 w (.cells #[.string t, .int .i64 ln, .int .i64 col] 73) (.cells #[.bool false, .int .i64 0] 61)
  have y0 := m1.c 0 _ rfl
  have y1 := m1.c 1 _ rfl
  have y2 := m1.c 2 _ rfl
  unfold objO at h
  by_cases hb : hp t 64 = true
  · rw [if_pos hb] at h
    rw [hb] at hC
    have hS := fun W (k : Keeps (fun _ => False) w W) => source_no (w := W) t ln col (tp t 64) (by have := tp_size t 64; omega) (errIs_keep hv k) h
    have hN := fun W => need_ok W t ln col
    clear h
    generalize tp t 64 = t1 at *
    go_enter Tryz.func47, Tryz.ntmps47
    go_wp2_with (first | (go_at_call 60; refine (hC _).mono ?_; rintro e w' ⟨rfl, rfl⟩; clear hC) | (go_at_call 50; refine (hN _).mono ?_; rintro e w4 ⟨rfl, k4⟩; have K4 := k2.trans k4; have D1 := m1.keep (by show 0 < 3; decide) k4 (fun e => e); have z0 := D1.c 0 _ rfl; have z1 := D1.c 1 _ rfl; have z2 := D1.c 2 _ rfl; clear D1 hN k4) | (go_at_call 48; refine (hS _ K4).mono ?_; rintro e w5 ⟨rfl, k5⟩; have K5 := K4.trans k5))
    exact ⟨rfl, rfl, K5⟩
  · have hb : hp t 64 = false := by simpa using hb
    rw [hb] at hC
    have hN := fun W => need_no W t ln col
    clear h
    generalize tp t 64 = t1 at *
    go_enter Tryz.func47, Tryz.ntmps47
    go_wp2_with (first | (go_at_call 60; refine (hC _).mono ?_; rintro e w' ⟨rfl, rfl⟩; clear hC) | (go_at_call 50; refine (hN _).mono ?_; rintro e w4 ⟨rfl, k4⟩; have K4 := k2.trans k4))
    exact ⟨rfl, rfl, K4⟩
set_option maxHeartbeats 500000 in
set_option maxRecDepth 100000 in
theorem relation_no {w : World} (t : ByteArray) (ln col : Int) (hL : LT w) (hb : look relT t 1 6 = 0) : Calls Tryz.prog 49 #[.agg #[.string t, .int .i64 ln, .int .i64 col]] w fun e w' => e = pan (103, ln, col) ∧ Keeps (fun _ => False) w w' := by
  have m1 := CL.made w [.string t, .int .i64 ln, .int .i64 col] 73
  have k2 : Keeps (fun _ => False) w (w.alloc (.cells #[.string t, .int .i64 ln, .int .i64 col] 73)) := (Keeps.refl _ w).alloc _
  have hR := relNamed_any t (w.alloc (.cells #[.string t, .int .i64 ln, .int .i64 col] 73)) (hL.keep k2).rt
  have hN := fun W => need_no W t ln col
  have y0 := m1.c 0 _ rfl
  have y1 := m1.c 1 _ rfl
  have y2 := m1.c 2 _ rfl
  rw [hb] at hR
  have he : ∀ x : Int, lookE x 0 = x := fun x => rfl
  rw [he] at hR
  clear he
  go_enter Tryz.func49, Tryz.ntmps49
  go_wp2_with (first | (go_at_call 62; refine hR.mono ?_; rintro e w1 ⟨rfl, e1⟩; subst w1) | (go_at_call 50; refine (hN _).mono ?_; rintro e w4 ⟨rfl, k4⟩; have K4 := k2.trans k4; clear hN k4))
  exact ⟨rfl, rfl, K4⟩
set_option maxHeartbeats 500000 in
set_option maxRecDepth 100000 in
theorem named_no {w : World} (t : ByteArray) (ln col : Int) (hL : LT w) (hNT : NT w) (h : nmd t = none) : Calls Tryz.prog 31 #[.agg #[.string t, .int .i64 ln, .int .i64 col]] w fun e w' => e = pan (101, ln, col) ∧ Keeps (fun _ => False) w w' := by
  obtain ⟨W2, hW2⟩ : ∃ W2, W2 = (w.alloc (.cells #[.string t, .int .i64 ln, .int .i64 col] 73)).alloc (.cells #[.int .i64 0, .int .i64 0, .bool false, .int .i64 0, .bool false, .int .i64 0, .bool false, .int .i64 0, .int .i64 0, .int .i64 0, .int .i64 0] 65) := ⟨_, rfl⟩
  have m1 : CL W2 w.heap.size [.string t, .int .i64 ln, .int .i64 col] := by rw [hW2]; exact made1 w [.string t, .int .i64 ln, .int .i64 col] 73 _ (by show 0 < 3; decide)
  have k2 : Keeps (fun _ => False) w W2 := by rw [hW2]; exact ks2 w _ _
  have hO := opNamed_any t W2 (hL.keep k2).ot
  have HW : Hid (_ = _) := hW2
  clear hW2
  have y0 := m1.c 0 _ rfl
  have hTW := hNT.keep k2
  unfold nmd at h
  have hb0 : look opT t 1 12 = 0 := by
    by_cases e : look opT t 1 12 = 0
    · exact e
    · rw [if_pos e] at h; cases h
  rw [hb0, if_neg (by simp)] at h
  rw [hb0] at hO
  have he : lookE 10 0 = 10 := rfl
  rw [he] at hO
  have hs : look shT t 1 10 = 0 := by
    by_cases e : look shT t 1 10 = 0
    · exact e
    · rw [if_pos e] at h; cases h
  clear h hb0 he
  go_enter Tryz.func31, Tryz.ntmps31
  go_wp2_with (first | (go_at_call 45; rw [← HW.out]; refine hO.mono ?_; rintro e w1 ⟨rfl, e1⟩; subst w1))
  go_loopw [5] (fun iv Wr => ∃ k : Nat, iv = .int .i64 (k : Int) ∧ 1 ≤ k ∧ k ≤ 11 ∧ look shT t k (11 - k) = 0 ∧ Keeps (fun _ => False) W2 Wr) (fun iv _ => 12 - (intOf iv).toNat)
  case atStart => exact ⟨1, rfl, by omega, by omega, hs, Keeps.refl _ _⟩
  case round =>
    obtain ⟨k, rfl, hk1, hk2, hl, kr⟩ := hrel
    by_cases hk : k ≤ 10
    · have hlt : decide ((k : Int) ≤ 10) = true := by simp; omega
      have hk0 : (0 : Int) ≤ (k : Int) := by omega
      have hk11 : (k : Int) < 11 := by omega
      have hcn := hTW k hk1 hk
      have e1 : 11 - k = (10 - k) + 1 := by omega
      rw [e1] at hl
      have hc1 := kr.cell y0 (fun e => e)
      have hc2 := kr.cell hcn (fun e => e)
      cases hm : ((shT k).toList == t.toList)
      · have HN : Hid (look shT t (k + 1) (11 - (k + 1)) = 0) := by
          show _ = _
          rw [look_miss _ _ _ _ hm] at hl
          rw [show 11 - (k + 1) = 10 - k by omega]; exact hl
        clear hl
        go_wp2_with fail
        go_quiet (fail)
        go_wp2_with fail
        go_roundw
        case rel => exact ⟨k + 1, by go_num, by omega, by omega, HN.out, kr.drewN nq⟩
        case measure => simp [intOf]; omega
      · exfalso
        rw [look_hit _ _ _ _ hm] at hl
        omega
    · obtain rfl : k = 11 := by omega
      have hV := fun W => leave_any W t ln col 101
      have hc0 := kr.cell y0 (fun e => e)
      have hc1 := kr.cell (m1.c 1 _ rfl) (fun e => e)
      have hc2 := kr.cell (m1.c 2 _ rfl) (fun e => e)
      have KR := k2.trans kr
      have kq := fun j => KR.drewN j
      have q0 := fun j => (m1.keep (by show 0 < 3; decide) (kr.drewN j) (fun e => e)).c 0 _ rfl
      go_wp2_with fail
      go_quiet (fail)
      go_wp2_with (go_at_call 23; refine (hV _).mono ?_; rintro e w4 ⟨rfl, k4⟩)
      exact ⟨rfl, rfl, (kq nq).trans k4⟩
end Go.Proofs.YtchbhmolnoggfaaGreatDoor

namespace Go.Proofs.YtchbhmolnoggfaaGreatDoor
open Go.RowKit
attribute [local go_sem] Oper.semAt_some run_store_nf run_store_f
def chOk (t : ByteArray) (i : Nat) : Bool := (decide (97 ≤ (t.data.getD i 0).toNat) && decide ((t.data.getD i 0).toNat ≤ 122)) || (!(i == 0) && (decide (48 ≤ (t.data.getD i 0).toNat) && decide ((t.data.getD i 0).toNat ≤ 57)))
def nmB (t : ByteArray) : Bool := !(t.size == 0) && decide (t.size ≤ 16) && (List.range t.size).all (chOk t)
theorem bytes_of (w : World) (s : ByteArray) : ∃ cap W', (convert 9 114 (.string s)).run Tryz.prog w = .ok (.slice (some ⟨w.heap.size, 0, none⟩) s.size cap) W' ∧ Keeps (fun _ => False) w W' ∧ ∀ j, j < s.size → W'.cell? ⟨w.heap.size, j, none⟩ = some (.int .u8 ((s.data.getD j 0).toNat : Int)) := by
  refine ⟨_, _, run_bytes_of_string (P := Tryz.prog) w 9 114 5 s Tryz.underlying9 Tryz.underlying114 Tryz.underlying5, ?_, fun j hj => ?_⟩
  · exact (Keeps.refl _ w).drew.alloc _
  · have h := World.cell?_alloc_mark w.drew (bytesRow s (grownCap w s.size 0 5)) 5 ((bytesRow s (grownCap w s.size 0 5)).size, (bytesRow s (grownCap w s.size 0 5)).size + 1) j
    have hj' : j < s.data.size := hj
    have e : s.data.getD j 0 = s.data[j] := by simp [Array.getD, hj]
    rw [e]
    refine (show _ = _ from h).trans ?_
    exact bytesRow_at s _ j hj'
theorem all_no {n k : Nat} {f : Nat → Bool} (h : k < n) (hf : f k = false) : (List.range n).all f = false := by
  cases e : (List.range n).all f with
  | false => rfl
  | true =>
    rw [List.all_eq_true] at e
    have := e k (List.mem_range.2 h)
    rw [hf] at this; cases this
set_option maxHeartbeats 500000 in
set_option maxRecDepth 100000 in
theorem isName_any (w : World) (t : ByteArray) (hs : t.size ≤ 4096) : Calls Tryz.prog 34 #[.string t] w fun e w' => e = .returned (.bool (nmB t)) ∧ Keeps (fun _ => False) w w' := by
  unfold nmB
  by_cases h0 : t.size = 0
  · have a1 : t.toList.isEmpty = true := by
      obtain ⟨d⟩ := t
      have hd : d = #[] := Array.eq_empty_of_size_eq_zero h0
      subst hd
      first | rfl | (simp [ByteArray.toList, ByteArray.toList.loop]) | decide +kernel
    have e1 : (t.size == 0) = true := by simp [h0]
    rw [e1]
    go_enter Tryz.func34, Tryz.ntmps34
    go_wp2_with fail
    go_ret
    exact ⟨rfl, Keeps.refl _ w⟩
  have a1 : t.toList.isEmpty = false := by rw [list_cons t (by omega)]; rfl
  have e1 : (t.size == 0) = false := by simp [h0]
  rw [e1]
  by_cases h16 : t.size ≤ 16
  · have b1 : decide ((16 : Int) < (t.size : Int)) = false := decide_eq_false (by omega)
    rw [decide_eq_true h16]
    obtain ⟨cap, W', hcv, kc, hce⟩ := bytes_of w t
    simp only [Bool.not_false, Bool.true_and]
    go_enter Tryz.func34, Tryz.ntmps34
    go_wp2_with fail
    go_loopw [17] (fun iv Wr => ∃ k : Nat, iv = .int .i64 (k : Int) ∧ k ≤ t.size ∧ (∀ i, i < k → chOk t i = true) ∧ Wr = W') (fun iv _ => t.size - (intOf iv).toNat)
    case atStart => exact ⟨0, rfl, Nat.zero_le _, fun i hi => absurd hi (Nat.not_lt_zero _), rfl⟩
    case round =>
      obtain ⟨k, rfl, hk, hall, ew⟩ := hrel
      subst wr
      by_cases hlt : k < t.size
      · have hltI : decide ((k : Int) < (t.size : Int)) = true := decide_eq_true (by omega)
        have hltJ : (k : Int) < (t.size : Int) := by omega
        have hk0 : (0 : Int) ≤ (k : Int) := by omega
        have hwk : IntKind.i64.wrap ((k : Int) + 1) = (k : Int) + 1 := by rw [IntKind.wrap_i64]; omega
        have hc := hce k hlt
        have hdef : chOk t k = ((decide (97 ≤ (t.data.getD k 0).toNat) && decide ((t.data.getD k 0).toNat ≤ 122)) || (!(k == 0) && (decide (48 ≤ (t.data.getD k 0).toNat) && decide ((t.data.getD k 0).toNat ≤ 57)))) := rfl
        clear hce hcv
        generalize (t.data.getD k 0).toNat = c at *
        have HA : Hid (∀ i, i < k → chOk t i = true) := hall
        clear hall
        cases hch : chOk t k with
        | true =>
          have HN : Hid (∀ i, i < k + 1 → chOk t i = true) := fun i hi => by
            by_cases e : i = k
            · rw [e]; exact hch
            · exact HA.out i (by omega)
          rw [hch] at hdef
          by_cases l1 : 97 ≤ c ∧ c ≤ 122
          · have x1 : decide ((97 : Int) ≤ (c : Int)) = true := decide_eq_true (by omega)
            have x2 : decide ((c : Int) ≤ 122) = true := decide_eq_true (by omega)
            by_cases d1 : 48 ≤ c
            · have x3 : decide ((48 : Int) ≤ (c : Int)) = true := decide_eq_true (by omega)
              have x4 : decide ((c : Int) ≤ 57) = false := decide_eq_false (by omega)
              clear hdef
              go_wp2_with fail
              go_roundw
              case rel => exact ⟨k + 1, by go_num, by omega, HN.out, trivial⟩
              case measure => simp [intOf]; omega
            · omega
          · have d1 : 48 ≤ c ∧ c ≤ 57 ∧ k ≠ 0 := by
              have h2 : ((decide (97 ≤ c) && decide (c ≤ 122)) || (!(k == 0) && (decide (48 ≤ c) && decide (c ≤ 57)))) = true := hdef.symm
              simp only [Bool.or_eq_true, Bool.and_eq_true, decide_eq_true_eq, Bool.not_eq_true', beq_eq_false_iff_ne] at h2
              omega
            have x1 : decide ((97 : Int) ≤ (c : Int)) = false := decide_eq_false (by omega)
            have x3 : decide ((48 : Int) ≤ (c : Int)) = true := decide_eq_true (by omega)
            have x4 : decide ((c : Int) ≤ 57) = true := decide_eq_true (by omega)
            have x5 : ((k : Int) == 0) = false := beq_eq_false_iff_ne.2 (by omega)
            clear hdef
            go_wp2_with fail
            go_roundw
            case rel => exact ⟨k + 1, by go_num, by omega, HN.out, trivial⟩
            case measure => simp [intOf]; omega
        | false =>
          have HF : Hid ((List.range t.size).all (chOk t) = false) := all_no hlt hch
          rw [hch] at hdef
          have h2 : ((decide (97 ≤ c) && decide (c ≤ 122)) || (!(k == 0) && (decide (48 ≤ c) && decide (c ≤ 57)))) = false := hdef.symm
          have h3 : ¬ (97 ≤ c ∧ c ≤ 122) ∧ (k = 0 ∨ ¬ (48 ≤ c ∧ c ≤ 57)) := by
            simp only [Bool.or_eq_false_iff, Bool.and_eq_false_iff, decide_eq_false_iff_not, Bool.not_eq_false', beq_iff_eq] at h2
            omega
          clear h2 hdef hch
          obtain ⟨l1, l2⟩ := h3
          by_cases z : 97 ≤ c
          · have x1 : decide ((97 : Int) ≤ (c : Int)) = true := decide_eq_true (by omega)
            have x2 : decide ((c : Int) ≤ 122) = false := decide_eq_false (by omega)
            have x3 : decide ((48 : Int) ≤ (c : Int)) = true := decide_eq_true (by omega)
            have x4 : decide ((c : Int) ≤ 57) = false := decide_eq_false (by omega)
            by_cases hz : k = 0
            · subst hz
              go_wp2_with fail
              go_ret
              exact ⟨by rw [HF.out]; rfl, kc⟩
            · have x5 : ((k : Int) == 0) = false := beq_eq_false_iff_ne.2 (by omega)
              go_wp2_with fail
              go_ret
              exact ⟨by rw [HF.out]; rfl, kc⟩
          · have x1 : decide ((97 : Int) ≤ (c : Int)) = false := decide_eq_false (by omega)
            by_cases y : 48 ≤ c
            · have x3 : decide ((48 : Int) ≤ (c : Int)) = true := decide_eq_true (by omega)
              by_cases y2 : c ≤ 57
              · have x4 : decide ((c : Int) ≤ 57) = true := decide_eq_true (by omega)
                obtain rfl : k = 0 := by omega
                go_wp2_with fail
                go_ret
                exact ⟨by rw [HF.out]; rfl, kc⟩
              · have x4 : decide ((c : Int) ≤ 57) = false := decide_eq_false (by omega)
                by_cases hz : k = 0
                · subst hz
                  go_wp2_with fail
                  go_ret
                  exact ⟨by rw [HF.out]; rfl, kc⟩
                · have x5 : ((k : Int) == 0) = false := beq_eq_false_iff_ne.2 (by omega)
                  go_wp2_with fail
                  go_ret
                  exact ⟨by rw [HF.out]; rfl, kc⟩
            · have x3 : decide ((48 : Int) ≤ (c : Int)) = false := decide_eq_false (by omega)
              by_cases hz : k = 0
              · subst hz
                go_wp2_with fail
                go_ret
                exact ⟨by rw [HF.out]; rfl, kc⟩
              · have x5 : ((k : Int) == 0) = false := beq_eq_false_iff_ne.2 (by omega)
                go_wp2_with fail
                go_ret
                exact ⟨by rw [HF.out]; rfl, kc⟩
      · have hltI : decide ((k : Int) < (t.size : Int)) = false := decide_eq_false (by omega)
        have HF : Hid ((List.range t.size).all (chOk t) = true) := by
          show _ = _
          rw [List.all_eq_true]
          exact fun i hi => hall i (by have := List.mem_range.1 hi; omega)
        clear hall hce hcv
        go_wp2_with fail
        go_ret
        exact ⟨by rw [HF.out]; rfl, kc⟩
  · have b1 : decide ((16 : Int) < (t.size : Int)) = true := decide_eq_true (by omega)
    rw [decide_eq_false h16]
    go_enter Tryz.func34, Tryz.ntmps34
    go_wp2_with fail
    go_ret
    exact ⟨rfl, Keeps.refl _ w⟩
end Go.Proofs.YtchbhmolnoggfaaGreatDoor

namespace Go.Proofs.YtchbhmolnoggfaaGreatDoor
open Go.RowKit Go.Maps Go.ChangeMaps Go.MapKept Go.WideShapes
theorem underI : Tryz.prog.underlying 3 = some (.int .i64) := by kernel_rfl
theorem underM : Tryz.prog.underlying 38 = some (.map 9 3) := by kernel_rfl
theorem underS : Tryz.prog.underlying 9 = some .string := by kernel_rfl
theorem keyed : Keyed Tryz.prog 9 := string_keyed underS
theorem zeroI (w : World) : (zeroValue 3).run Tryz.prog w = .ok (.int .i64 0) w := by kernel_rfl
theorem tight {H : Type} {P : Program} {k : TypeId} {R : Value → Option (DataW H × List MemPlace)} {w : World} {b n : Nat} {D : DataW H} (h : w.ownsMap P k R b n D) : w.ownsMap P k R b (Maps.size D) D := by
  obtain ⟨es, clock, hb, F, hs, rfl⟩ := h
  exact ⟨es, clock, hb, F, by simp [Maps.size, length_sorted], rfl⟩
def Sz (s : ByteArray) : Prop := s.size ≤ 9223372036854775807
def upd (f : ByteArray → Option Nat) (k : ByteArray) (v : Option Nat) : ByteArray → Option Nat := fun x => if x = k then v else f x
def SM (w : World) (mb n : Nat) (f : ByteArray → Option Nat) : Prop :=
  ∃ D : DataW Unit, w.ownsMap Tryz.prog 9 (plainElem Tryz.prog 3) mb n D ∧ Maps.size D = n ∧
    ∀ k, Sz k → Maps.has D (.string k.data.toList) = (f k).isSome ∧ D.atKey (.string k.data.toList) (.lit (.int .i64 0)) = .lit (.int .i64 (((f k).getD 0 : Nat) : Int))
theorem SM.lt {w : World} {mb n : Nat} {f : ByteArray → Option Nat} (h : SM w mb n f) : mb < w.heap.size := by
  obtain ⟨D, h, _⟩ := h
  exact h.lt
theorem SM.isMap {w : World} {mb n : Nat} {f : ByteArray → Option Nat} (h : SM w mb n f) : ∃ es c, w.heap[mb]? = some (.map es c) := by
  obtain ⟨D, ⟨es, c, hb, _⟩, _⟩ := h
  exact ⟨es, c, hb⟩
theorem SM.same {w w' : World} {mb n : Nat} {f : ByteArray → Option Nat} (h : SM w mb n f) (hb : w'.heap[mb]? = w.heap[mb]?) : SM w' mb n f := by
  obtain ⟨D, ⟨es, c, hb', r⟩, r'⟩ := h
  exact ⟨D, ⟨es, c, hb.trans hb', r⟩, r'⟩
theorem SM.keep {w w' : World} {mb n : Nat} {f : ByteArray → Option Nat} {S : Nat → Prop} (h : SM w mb n f) (k : Keeps S w w') (hS : ¬ S mb) : SM w' mb n f := h.same (k.block mb h.lt hS)
theorem key_int {k : ByteArray} (h : Sz k) : keyOf Tryz.prog 9 (.string k) = some (.string k.data.toList) := Go.WideMaps.keyOf_string_mk underS (by unfold Sz at h; unfold maxLen; omega)
theorem wf0 : (Lit.int .i64 0).wf = true := by decide
theorem wfN {n : Nat} (h : n ≤ 9223372036854775807) : (Lit.int .i64 (n : Int)).wf = true := wf_of_i64 ⟨by omega, by omega⟩
theorem SM.look {w : World} {mb n : Nat} {f : ByteArray → Option Nat} (h : SM w mb n f) {k : ByteArray} (hk : Sz k) :
    (Instr.lookup 38 (.map (some mb)) (.string k) true).run Tryz.prog w = .ok (.tuple #[.int .i64 (((f k).getD 0 : Nat) : Int), .bool (f k).isSome]) w := by
  obtain ⟨D, h1, h2, h3⟩ := h
  obtain ⟨v, ps, hrun, hv⟩ := h1.look_ok keyed underM (zeroI w) (plainElem_int underI wf0) (key_int hk)
  obtain ⟨a, rfl, e, _⟩ := plainElem_int_inv underI hv
  have e' := congrArg Prod.fst e
  simp only [(h3 k hk).2] at e'
  cases e'
  rw [hrun, (h3 k hk).1]
theorem keeps_turned {w w' : World} {b : Nat} (h : w.mapTurned w' b) : Keeps (fun k => k = b) w w' := (Keeps.refl _ w).grown h.grown (fun _ _ e => by cases e; rfl)
theorem ne_key {a b : ByteArray} (h : a ≠ b) : (Lit.string a.data.toList) ≠ (Lit.string b.data.toList) := fun e => h (by injection e with e; cases a; cases b; simp only [ByteArray.mk.injEq]; exact Array.ext' e)
theorem SM.put {w : World} {mb n : Nat} {f : ByteArray → Option Nat} (h : SM w mb n f) {k : ByteArray} (hk : Sz k) {v : Nat} (hv : v ≤ 9223372036854775807) (hn : n < 9223372036854775807) :
    ∃ w', (Instr.mapUpdate 38 (.map (some mb)) (.string k) (.int .i64 (v : Int))).run Tryz.prog w = .ok () w' ∧ SM w' mb (if (f k).isSome then n else n + 1) (upd f k (some v)) ∧ Keeps (fun i => i = mb) w w' := by
  obtain ⟨D, h1, h2, h3⟩ := h
  obtain ⟨w', hrun, hown, ht⟩ := h1.store keyed underM (by unfold maxLen; omega) (key_int hk) (plainElem_int underI (wfN hv))
  have hT := h1.tidy keyed
  refine ⟨w', hrun, ⟨D.put (.string k.data.toList) (.lit (.int .i64 (v : Int))), ?_, ?_, fun x hx => ?_⟩, keeps_turned ht⟩
  · have e := size_put (k := .string k.data.toList) hT (.lit (.int .i64 (v : Int)))
    rw [(h3 k hk).1, h2] at e
    rw [← e]
    exact tight hown
  · have e := size_put (k := .string k.data.toList) hT (.lit (.int .i64 (v : Int)))
    rw [(h3 k hk).1, h2] at e
    exact e
  · by_cases c : x = k
    · subst c
      have hkl : WideAt.IsKeyLit (.string x.data.toList) := trivial
      rw [has_put_same h1.isMap hkl, atKey_put_same h1.isMap hkl]
      simp [upd]
    · rw [has_put_other (ne_key c), atKey_put_other (ne_key c)]
      simp only [upd]
      rw [if_neg c]
      exact h3 x hx
theorem SM.made (w : World) : SM (w.alloc (.map #[] 0)) w.heap.size 0 (fun _ => none) :=
  ⟨.map [], World.ownsMap_made w _ _ _, rfl, fun _ _ => ⟨rfl, rfl⟩⟩
end Go.Proofs.YtchbhmolnoggfaaGreatDoor

