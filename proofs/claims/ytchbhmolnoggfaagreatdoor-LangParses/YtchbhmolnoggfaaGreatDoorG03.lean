import Derived.Test.YtchbhmolnoggfaaGreatDoorG02
import Derived.Deep.QuietTactic
namespace Go.Proofs.YtchbhmolnoggfaaGreatDoor
open Go.RowKit
attribute [local go_sem] Oper.semAt_some run_store_nf run_store_f
def shT (i : Nat) : ByteArray := ⟨(([#[], #[103, 101, 116], #[116, 97, 107, 101], #[112, 117, 116], #[100, 114, 111, 112], #[108, 101, 116], #[], #[105, 102], #[103, 111, 116, 111], #[113, 117, 105, 116], #[100, 111, 110, 101]] : List (Array UInt8)).getD i #[])⟩
def NT (w : World) : Prop := ∀ c, 1 ≤ c → c ≤ 10 → w.cell? ⟨0, c * 2, none⟩ = some (.string (shT c))
theorem NT.keep {w w' : World} (h : NT w) (k : Keeps (fun _ => False) w w') : NT w' := fun c h1 h2 => k.cell (h c h1 h2) (fun e => e)
def nmd (t : ByteArray) : Option Ins := if look opT t 1 12 ≠ 0 then some { ins0 with code := 6, op := (look opT t 1 12 : Nat) } else if look shT t 1 10 ≠ 0 then some { ins0 with code := (look shT t 1 10 : Nat) } else none
set_option maxHeartbeats 500000 in
set_option maxRecDepth 100000 in
theorem named_ok {w : World} (t : ByteArray) (ln col : Int) (hL : LT w) (hNT : NT w) {q : Ins} (h : nmd t = some q) : Calls Tryz.prog 31 #[.agg #[.string t, .int .i64 ln, .int .i64 col]] w fun e w' => e = .returned (.agg q.cells.toArray) ∧ Keeps (fun _ => False) w w' := by
  obtain ⟨W2, hW2⟩ : ∃ W2, W2 = (w.alloc (.cells #[.string t, .int .i64 ln, .int .i64 col] 73)).alloc (.cells #[.int .i64 0, .int .i64 0, .bool false, .int .i64 0, .bool false, .int .i64 0, .bool false, .int .i64 0, .int .i64 0, .int .i64 0, .int .i64 0] 65) := ⟨_, rfl⟩
  have m1 : CL W2 w.heap.size [.string t, .int .i64 ln, .int .i64 col] := by rw [hW2]; exact made1 w [.string t, .int .i64 ln, .int .i64 col] 73 _ (by show 0 < 3; decide)
  have m2 : CL W2 (w.heap.size + 1) ins0.cells := by rw [hW2]; exact made2 w ins0.cells 65 _
  have k2 : Keeps (fun _ => False) w W2 := by rw [hW2]; exact ks2 w _ _
  have hO := opNamed_any t W2 (hL.keep k2).ot
  have HW : Hid (_ = _) := hW2
  clear hW2
  have y0 := m1.c 0 _ rfl
  have hTW := hNT.keep k2
  unfold nmd at h
  by_cases hb : look opT t 1 12 ≠ 0
  · rw [if_pos hb] at h
    generalize look opT t 1 12 = o at *
    cases h
    have he : lookE 10 o = 0 := by unfold lookE; rw [if_neg hb]
    rw [he] at hO
    have hA := all_oneCell_ins { ins0 with code := 6, op := (o : Int) }
    go_enter Tryz.func31, Tryz.ntmps31
    go_wp2_with (first | (go_at_call 45; rw [← HW.out]; refine hO.mono ?_; rintro e w1 ⟨rfl, e1⟩; subst w1) | (refine wpList_store_cl rfl 65 _ _ rfl (w.heap.size + 1) 0 11 _ rfl rfl rfl m2 (by show 11 ≤ 11; decide) iIn hA ?_; intro w5 hc5 k5 hsz5; clear hsz5))
    have hc6 : CL w5 (w.heap.size + 1) { ins0 with code := 6, op := (o : Int) : Ins }.cells := hc5
    refine bodyPost_ret (v := .agg { ins0 with code := 6, op := (o : Int) : Ins }.cells.toArray) (by rw [results_cell1 rfl]; simp [asAddr, run_ins hc6]) rfl ⟨rfl, ?_⟩
    exact k2.trans' k5 (fun _ _ e => e) (fun i hi e => by have e : i = w.heap.size + 1 := e; omega)
  · rw [if_neg hb] at h
    have hb0 : look opT t 1 12 = 0 := by omega
    rw [hb0] at hO
    clear hb hb0
    have he : lookE 10 0 = 10 := rfl
    rw [he] at hO
    by_cases hs : look shT t 1 10 ≠ 0
    · rw [if_pos hs] at h
      cases h
      go_enter Tryz.func31, Tryz.ntmps31
      go_wp2_with (first | (go_at_call 45; rw [← HW.out]; refine hO.mono ?_; rintro e w1 ⟨rfl, e1⟩; subst w1))
      go_loopw [5] (fun iv Wr => ∃ k : Nat, iv = .int .i64 (k : Int) ∧ 1 ≤ k ∧ k ≤ 10 ∧ look shT t 1 10 = look shT t k (11 - k) ∧ Keeps (fun _ => False) W2 Wr) (fun iv _ => 11 - (intOf iv).toNat)
      case atStart => exact ⟨1, rfl, by omega, by omega, rfl, Keeps.refl _ _⟩
      case round =>
        obtain ⟨k, rfl, hk1, hk2, hl, kr⟩ := hrel
        have hlt : decide ((k : Int) ≤ 10) = true := by simp; omega
        have hk0 : (0 : Int) ≤ (k : Int) := by omega
        have hk11 : (k : Int) < 11 := by omega
        have hcn := hTW k hk1 hk2
        have e1 : 11 - k = (10 - k) + 1 := by omega
        rw [e1] at hl
        have HL : Hid (_ = _) := hl
        clear hl e1
        have hc1 := kr.cell y0 (fun e => e)
        have hc2 := kr.cell hcn (fun e => e)
        cases hm : ((shT k).toList == t.toList)
        · have HN : Hid (look shT t 1 10 = look shT t (k + 1) (11 - (k + 1))) := by
            show _ = _
            rw [HL.out, look_miss _ _ _ _ hm, show 11 - (k + 1) = 10 - k by omega]
          have hkk : k + 1 ≤ 10 := by
            rcases Nat.lt_or_ge k 10 with h | h
            · exact h
            · exfalso
              have e10 : k = 10 := by omega
              have := HN.out
              rw [e10] at this
              exact hs this
          go_wp2_with fail
          go_quiet (fail)
          go_wp2_with fail
          go_roundw
          case rel => exact ⟨k + 1, by go_num, by omega, hkk, HN.out, kr.drewN nq⟩
          case measure => simp [intOf]; omega
        · have HN : Hid (look shT t 1 10 = k) := by
            show _ = _
            rw [HL.out, look_hit _ _ _ _ hm]
          have hgt : decide ((10 : Int) < (k : Int)) = false := by simp; omega
          have hA := all_oneCell_ins { ins0 with code := (k : Int) }
          have kq := fun j => (k2.trans kr).drewN j
          have mq := fun j => m2.keep (by show 0 < 11; decide) (kr.drewN j) (fun e => e)
          go_wp2_with fail
          go_quiet (fail)
          have mn := mq nq
          go_wp2_with (refine wpList_store_cl rfl 65 _ _ rfl (w.heap.size + 1) 0 11 _ rfl rfl rfl mn (by show 11 ≤ 11; decide) iIn hA ?_; intro w5 hc5 k5 hsz5; clear hsz5)
          have hc6 : CL w5 (w.heap.size + 1) { ins0 with code := (k : Int) : Ins }.cells := hc5
          refine bodyPost_ret (v := .agg { ins0 with code := (k : Int) : Ins }.cells.toArray) (by rw [results_cell1 rfl]; simp [asAddr, run_ins hc6]) rfl ⟨by rw [HN.out], ?_⟩
          exact (kq nq).trans' k5 (fun _ _ e => e) (fun i hi e => by have e : i = w.heap.size + 1 := e; omega)
    · rw [if_neg hs] at h; cases h
end Go.Proofs.YtchbhmolnoggfaaGreatDoor

namespace Go.Proofs.YtchbhmolnoggfaaGreatDoor
open Go.RowKit
attribute [local go_sem] Oper.semAt_some run_store_nf run_store_f
set_option maxHeartbeats 500000 in
set_option maxRecDepth 100000 in
theorem relation_ok {w : World} (t : ByteArray) (ln col : Int) (hL : LT w) (hb : look relT t 1 6 ≠ 0) : Calls Tryz.prog 49 #[.agg #[.string t, .int .i64 ln, .int .i64 col]] w fun e w' => e = .returned (.int .i64 ((look relT t 1 6 : Nat) : Int)) ∧ Keeps (fun _ => False) w w' := by
  have m1 := CL.made w [.string t, .int .i64 ln, .int .i64 col] 73
  have k2 : Keeps (fun _ => False) w (w.alloc (.cells #[.string t, .int .i64 ln, .int .i64 col] 73)) := (Keeps.refl _ w).alloc _
  have hR := relNamed_any t (w.alloc (.cells #[.string t, .int .i64 ln, .int .i64 col] 73)) (hL.keep k2).rt
  have hN := fun W => need_ok W t ln col
  generalize look relT t 1 6 = o at *
  have he : ∀ x : Int, lookE x o = 0 := fun x => by unfold lookE; rw [if_neg hb]
  rw [he] at hR
  clear he
  go_enter Tryz.func49, Tryz.ntmps49
  go_wp2_with (first | (go_at_call 62; refine hR.mono ?_; rintro e w1 ⟨rfl, e1⟩; subst w1) | (go_at_call 50; refine (hN _).mono ?_; rintro e w4 ⟨rfl, k4⟩; have K4 := k2.trans k4; clear hN k4))
  go_ret
  exact ⟨rfl, K4⟩
def fil (u : Ins) (s : Int) (t : ByteArray) : Option Ins :=
  if s = 1 then (if regB t = true then some { u with dst := regN t } else none)
  else if s = 2 then (objO t).map (fun x => { u with oR := x.1, oN := x.2 })
  else if s = 3 then (src t).map (fun x => { u with xR := x.1, xN := x.2 })
  else if s = 4 then (src t).map (fun x => { u with yR := x.1, yN := x.2 })
  else if s = 5 then (if look relT t 1 6 ≠ 0 then some { u with rel := (look relT t 1 6 : Nat) } else none)
  else none
set_option maxHeartbeats 500000 in
set_option maxRecDepth 100000 in
theorem fill_1 {w : World} {r : Value} {ib : Nat} {u : Ins} (t : ByteArray) (ln col : Int) (hs : t.size ≤ 4096) (hT : PT w) (hU : CL w ib u.cells) (hb : regB t = true) : Calls Tryz.prog 33 #[r, .pointer (some ⟨ib, 0, none⟩), .int .i64 1, .agg #[.string t, .int .i64 ln, .int .i64 col]] w fun e w' => e = .returned (.tuple #[]) ∧ CL w' ib { u with dst := regN t }.cells ∧ Keeps (fun k => k = ib) w w' := by
  have m1 := CL.made w [.string t, .int .i64 ln, .int .i64 col] 73
  have k2 : Keeps (fun _ => False) w (w.alloc (.cells #[.string t, .int .i64 ln, .int .i64 col] 73)) := (Keeps.refl _ w).alloc _
  have hC := regm_ok (w := (w.alloc (.cells #[.string t, .int .i64 ln, .int .i64 col] 73))) t ln col hs (errIs_keep hT.er k2) hb
  have hU2 := hU.keep (by show 0 < 11; decide) k2 (fun e => e)
  generalize regN t = n at *
  go_enter Tryz.func33, Tryz.ntmps33
  go_wp2_with (go_at_call 46; refine hC.mono ?_; rintro e w4 ⟨rfl, k4⟩; have K2 := k2.trans k4; have c4 := hU2.keep (by show 0 < 11; decide) k4 (fun e => e); have x1 := c4.c 1 _ rfl; have z1 := c4.z 1 (by show 1 < 11; decide); clear hC k4)
  go_end0
  exact ⟨rfl, (c4.set (o := 1) (by show 1 < 11; decide) _), ((K2.mono (fun _ _ e => e.elim) : Keeps (fun k => k = ib) w w4).setA 1 _)⟩
set_option maxHeartbeats 500000 in
set_option maxRecDepth 100000 in
theorem fill_2 {w : World} {r : Value} {ib : Nat} {u : Ins} (t : ByteArray) (ln col : Int) (hs : t.size ≤ 4096) (hT : PT w) (hU : CL w ib u.cells) {r1 : Bool} {n1 : Int} (hb : objO t = some (r1, n1)) : Calls Tryz.prog 33 #[r, .pointer (some ⟨ib, 0, none⟩), .int .i64 2, .agg #[.string t, .int .i64 ln, .int .i64 col]] w fun e w' => e = .returned (.tuple #[]) ∧ CL w' ib { u with oR := r1, oN := n1 }.cells ∧ Keeps (fun k => k = ib) w w' := by
  have m1 := CL.made w [.string t, .int .i64 ln, .int .i64 col] 73
  have k2 : Keeps (fun _ => False) w (w.alloc (.cells #[.string t, .int .i64 ln, .int .i64 col] 73)) := (Keeps.refl _ w).alloc _
  have hC := object_ok (w := (w.alloc (.cells #[.string t, .int .i64 ln, .int .i64 col] 73))) t ln col hs (errIs_keep hT.er k2) hb
  have hU2 := hU.keep (by show 0 < 11; decide) k2 (fun e => e)
  
  go_enter Tryz.func33, Tryz.ntmps33
  go_wp2_with (go_at_call 47; refine hC.mono ?_; rintro e w4 ⟨rfl, k4⟩; have K2 := k2.trans k4; have c4 := hU2.keep (by show 0 < 11; decide) k4 (fun e => e); have x2 := c4.c 2 _ rfl; have z2 := c4.z 2 (by show 2 < 11; decide); have x3 := c4.c 3 _ rfl; have z3 := c4.z 3 (by show 3 < 11; decide); clear hC k4)
  go_end0
  exact ⟨rfl, ((c4.set (o := 2) (by show 2 < 11; decide) _).set (o := 3) (by simp only [List.length_set]; show 3 < 11; decide) _), (((K2.mono (fun _ _ e => e.elim) : Keeps (fun k => k = ib) w w4).setA 2 _).setA 3 _)⟩
set_option maxHeartbeats 500000 in
set_option maxRecDepth 100000 in
theorem fill_3 {w : World} {r : Value} {ib : Nat} {u : Ins} (t : ByteArray) (ln col : Int) (hs : t.size ≤ 4096) (hT : PT w) (hU : CL w ib u.cells) {r1 : Bool} {n1 : Int} (hb : src t = some (r1, n1)) : Calls Tryz.prog 33 #[r, .pointer (some ⟨ib, 0, none⟩), .int .i64 3, .agg #[.string t, .int .i64 ln, .int .i64 col]] w fun e w' => e = .returned (.tuple #[]) ∧ CL w' ib { u with xR := r1, xN := n1 }.cells ∧ Keeps (fun k => k = ib) w w' := by
  have m1 := CL.made w [.string t, .int .i64 ln, .int .i64 col] 73
  have k2 : Keeps (fun _ => False) w (w.alloc (.cells #[.string t, .int .i64 ln, .int .i64 col] 73)) := (Keeps.refl _ w).alloc _
  have hC := source_ok (w := (w.alloc (.cells #[.string t, .int .i64 ln, .int .i64 col] 73))) t ln col t hs (errIs_keep hT.er k2) hb
  have hU2 := hU.keep (by show 0 < 11; decide) k2 (fun e => e)
  
  go_enter Tryz.func33, Tryz.ntmps33
  go_wp2_with (go_at_call 48; refine hC.mono ?_; rintro e w4 ⟨rfl, k4⟩; have K2 := k2.trans k4; have c4 := hU2.keep (by show 0 < 11; decide) k4 (fun e => e); have x4 := c4.c 4 _ rfl; have z4 := c4.z 4 (by show 4 < 11; decide); have x5 := c4.c 5 _ rfl; have z5 := c4.z 5 (by show 5 < 11; decide); clear hC k4)
  go_end0
  exact ⟨rfl, ((c4.set (o := 4) (by show 4 < 11; decide) _).set (o := 5) (by simp only [List.length_set]; show 5 < 11; decide) _), (((K2.mono (fun _ _ e => e.elim) : Keeps (fun k => k = ib) w w4).setA 4 _).setA 5 _)⟩
set_option maxHeartbeats 500000 in
set_option maxRecDepth 100000 in
theorem fill_4 {w : World} {r : Value} {ib : Nat} {u : Ins} (t : ByteArray) (ln col : Int) (hs : t.size ≤ 4096) (hT : PT w) (hU : CL w ib u.cells) {r1 : Bool} {n1 : Int} (hb : src t = some (r1, n1)) : Calls Tryz.prog 33 #[r, .pointer (some ⟨ib, 0, none⟩), .int .i64 4, .agg #[.string t, .int .i64 ln, .int .i64 col]] w fun e w' => e = .returned (.tuple #[]) ∧ CL w' ib { u with yR := r1, yN := n1 }.cells ∧ Keeps (fun k => k = ib) w w' := by
  have m1 := CL.made w [.string t, .int .i64 ln, .int .i64 col] 73
  have k2 : Keeps (fun _ => False) w (w.alloc (.cells #[.string t, .int .i64 ln, .int .i64 col] 73)) := (Keeps.refl _ w).alloc _
  have hC := source_ok (w := (w.alloc (.cells #[.string t, .int .i64 ln, .int .i64 col] 73))) t ln col t hs (errIs_keep hT.er k2) hb
  have hU2 := hU.keep (by show 0 < 11; decide) k2 (fun e => e)
  
  go_enter Tryz.func33, Tryz.ntmps33
  go_wp2_with (go_at_call 48; refine hC.mono ?_; rintro e w4 ⟨rfl, k4⟩; have K2 := k2.trans k4; have c4 := hU2.keep (by show 0 < 11; decide) k4 (fun e => e); have x6 := c4.c 6 _ rfl; have z6 := c4.z 6 (by show 6 < 11; decide); have x7 := c4.c 7 _ rfl; have z7 := c4.z 7 (by show 7 < 11; decide); clear hC k4)
  go_end0
  exact ⟨rfl, ((c4.set (o := 6) (by show 6 < 11; decide) _).set (o := 7) (by simp only [List.length_set]; show 7 < 11; decide) _), (((K2.mono (fun _ _ e => e.elim) : Keeps (fun k => k = ib) w w4).setA 6 _).setA 7 _)⟩
set_option maxHeartbeats 500000 in
set_option maxRecDepth 100000 in
theorem fill_5 {w : World} {r : Value} {ib : Nat} {u : Ins} (t : ByteArray) (ln col : Int) (_hs : t.size ≤ 4096) (hT : PT w) (hU : CL w ib u.cells) (hb : look relT t 1 6 ≠ 0) : Calls Tryz.prog 33 #[r, .pointer (some ⟨ib, 0, none⟩), .int .i64 5, .agg #[.string t, .int .i64 ln, .int .i64 col]] w fun e w' => e = .returned (.tuple #[]) ∧ CL w' ib { u with rel := ((look relT t 1 6 : Nat) : Int) }.cells ∧ Keeps (fun k => k = ib) w w' := by
  have m1 := CL.made w [.string t, .int .i64 ln, .int .i64 col] 73
  have k2 : Keeps (fun _ => False) w (w.alloc (.cells #[.string t, .int .i64 ln, .int .i64 col] 73)) := (Keeps.refl _ w).alloc _
  have hC := relation_ok (w := (w.alloc (.cells #[.string t, .int .i64 ln, .int .i64 col] 73))) t ln col (hT.lt.keep k2) hb
  have hU2 := hU.keep (by show 0 < 11; decide) k2 (fun e => e)
  generalize ((look relT t 1 6 : Nat) : Int) = n at *
  go_enter Tryz.func33, Tryz.ntmps33
  go_wp2_with (go_at_call 49; refine hC.mono ?_; rintro e w4 ⟨rfl, k4⟩; have K2 := k2.trans k4; have c4 := hU2.keep (by show 0 < 11; decide) k4 (fun e => e); have x9 := c4.c 9 _ rfl; have z9 := c4.z 9 (by show 9 < 11; decide); clear hC k4)
  go_end0
  exact ⟨rfl, (c4.set (o := 9) (by show 9 < 11; decide) _), ((K2.mono (fun _ _ e => e.elim) : Keeps (fun k => k = ib) w w4).setA 9 _)⟩
theorem fill_ok {w : World} {r : Value} {ib : Nat} {u u' : Ins} {s : Int} (t : ByteArray) (ln col : Int) (hs : t.size ≤ 4096) (hT : PT w) (hU : CL w ib u.cells) (h : fil u s t = some u') : Calls Tryz.prog 33 #[r, .pointer (some ⟨ib, 0, none⟩), .int .i64 s, .agg #[.string t, .int .i64 ln, .int .i64 col]] w fun e w' => e = .returned (.tuple #[]) ∧ CL w' ib u'.cells ∧ Keeps (fun k => k = ib) w w' := by
  unfold fil at h
  split at h
  · rename_i e; subst e
    split at h
    · rename_i hb; cases h; exact fill_1 t ln col hs hT hU hb
    · cases h
  · split at h
    · rename_i e; subst e
      cases ho : objO t with
      | none => rw [ho] at h; cases h
      | some x => rw [ho] at h; cases h; exact fill_2 t ln col hs hT hU ho
    · split at h
      · rename_i e; subst e
        cases ho : src t with
        | none => rw [ho] at h; cases h
        | some x => rw [ho] at h; cases h; exact fill_3 t ln col hs hT hU ho
      · split at h
        · rename_i e; subst e
          cases ho : src t with
          | none => rw [ho] at h; cases h
          | some x => rw [ho] at h; cases h; exact fill_4 t ln col hs hT hU ho
        · split at h
          · rename_i e; subst e
            split at h
            · rename_i hb; cases h; exact fill_5 t ln col hs hT hU hb
            · cases h
          · cases h
end Go.Proofs.YtchbhmolnoggfaaGreatDoor

namespace Go.Proofs.YtchbhmolnoggfaaGreatDoor
open Go.RowKit
attribute [local go_sem] Oper.semAt_some run_store_nf run_store_f
def fills : Ins → List Int → List Pc → Option Ins
  | u, [], [] => some u
  | u, s :: ss, p :: ps => (fil u s p.t).bind (fun u' => fills u' ss ps)
  | _, _, _ => none
def inst : List Pc → Option Ins
  | [] => none
  | p :: r => (nmd p.t).bind (fun q => fills q (slo q.code.toNat) r)
def PCL (w : World) (a : Option Addr) (l : List Pc) : Prop := ∀ i p, l[i]? = some p → ∃ b off, a = some ⟨b, off, none⟩ ∧ ∀ j v, p.cells[j]? = some v → w.cell? ⟨b, off + i * 3 + j, none⟩ = some v
theorem PCL.keep {w w' : World} {a : Option Addr} {l : List Pc} (h : PCL w a l) (k : Keeps (fun _ => False) w w') : PCL w' a l := fun i p hi => by
  obtain ⟨b, off, e, hc⟩ := h i p hi
  exact ⟨b, off, e, fun j v hv => k.cell (hc j v hv) (fun e => e)⟩
theorem owns_ty {w : World} {base : Nat} {e : TypeId} {size : Nat} {v : Value} {n : Nat} {xs : List Value} (h : w.ownsRow base e size v n xs) (k : Nat) (hk : v.ownBlock = some k) : base ≤ k ∧ ∃ cur x, w.heap[k]? = some (.cells cur e x) := by
  rcases h.2 with ⟨rfl, _⟩ | ⟨g, cap, cur, rfl, hb, hg, rest⟩
  · cases hk
  · cases hk; exact ⟨hb, _, _, hg⟩
def IRw (w : World) (base R k : Nat) : Prop := base ≤ k ∧ (k = R ∨ ∃ cur x, w.heap[k]? = some (.cells cur 65 x))
structure RI (w : World) (base R : Nat) (mv jv : Value) (qs : List Ins) : Prop where
  x : ∃ cv, CL w R [cv, mv, jv] ∧ w.ownsRow base 65 11 cv qs.length (icl qs) ∧ cv.ownBlock ≠ some R
  b : base ≤ R
theorem RI.keep {w w' : World} {base R : Nat} {mv jv : Value} {qs : List Ins} (h : RI w base R mv jv qs) (k : Keeps (fun _ => False) w w') : RI w' base R mv jv qs := by
  obtain ⟨⟨cv, hc, ho, hn⟩, hb⟩ := h
  exact ⟨⟨cv, hc.keep (by show 0 < 3; decide) k (fun e => e), k.owns ho (fun _ _ e => e), hn⟩, hb⟩
theorem fil_code {u u' : Ins} {s : Int} {t : ByteArray} (h : fil u s t = some u') : u'.code = u.code := by
  unfold fil at h
  split at h
  · split at h
    · cases h; rfl
    · cases h
  · split at h
    · cases ho : objO t with
      | none => rw [ho] at h; cases h
      | some x => rw [ho] at h; cases h; rfl
    · split at h
      · cases ho : src t with
        | none => rw [ho] at h; cases h
        | some x => rw [ho] at h; cases h; rfl
      · split at h
        · cases ho : src t with
          | none => rw [ho] at h; cases h
          | some x => rw [ho] at h; cases h; rfl
        · split at h
          · split at h
            · cases h; rfl
            · cases h
          · cases h
structure Fl (q0 u : Ins) (ss : List Int) (ps : List Pc) (k : Nat) (q : Ins) : Prop where
  g : fills u (ss.drop k) (ps.drop k) = some q
  c : u.code = q0.code
theorem fills_len : ∀ (u : Ins) (ss : List Int) (ps : List Pc) (q : Ins), fills u ss ps = some q → ss.length = ps.length
  | _, [], [], _, _ => rfl
  | _, [], _ :: _, _, h => by cases h
  | _, _ :: _, [], _, h => by cases h
  | u, s :: ss, p :: ps, q, h => by
    unfold fills at h
    obtain ⟨u', _, h⟩ := Option.bind_eq_some_iff.1 h
    rw [List.length_cons, List.length_cons, fills_len u' ss ps q h]
theorem Fl.next {q0 u q : Ins} {ss : List Int} {ps : List Pc} {k : Nat} {s : Int} {p : Pc} (h : Fl q0 u ss ps k q) (hs : ss[k]? = some s) (hp : ps[k]? = some p) : ∃ u', fil u s p.t = some u' ∧ Fl q0 u' ss ps (k + 1) q := by
  have e1 : ss.drop k = s :: ss.drop (k + 1) := by
    obtain ⟨hk, e⟩ := List.getElem?_eq_some_iff.1 hs
    rw [List.drop_eq_getElem_cons hk, e]
  have e2 : ps.drop k = p :: ps.drop (k + 1) := by
    obtain ⟨hk, e⟩ := List.getElem?_eq_some_iff.1 hp
    rw [List.drop_eq_getElem_cons hk, e]
  have g := h.g
  rw [e1, e2] at g
  unfold fills at g
  obtain ⟨u', h1, h2⟩ := Option.bind_eq_some_iff.1 g
  exact ⟨u', h1, h2, (fil_code h1).trans h.c⟩
theorem Fl.done {q0 u q : Ins} {ss : List Int} {ps : List Pc} {k : Nat} (h : Fl q0 u ss ps k q) (hs : ss.length = k) (hp : ps.length = k) : u = q := by
  have g := h.g
  rw [List.drop_eq_nil_of_le (by omega), List.drop_eq_nil_of_le (by omega)] at g
  exact Option.some.inj g
theorem nmd_code {t : ByteArray} {q : Ins} (h : nmd t = some q) : ∃ c : Nat, q.code = (c : Int) ∧ 1 ≤ c ∧ c ≤ 10 := by
  unfold nmd at h
  split at h
  · cases h; exact ⟨6, rfl, by omega, by omega⟩
  · split at h
    · rename_i hn
      cases h
      refine ⟨_, rfl, by omega, ?_⟩
      have : ∀ n i, look shT t i n ≠ 0 → look shT t i n < i + n := by
        intro n
        induction n with
        | zero => intro i h; exact absurd rfl h
        | succ n ih =>
          intro i h
          cases hm : ((shT i).toList == t.toList) with
          | true => rw [look_hit _ _ _ _ hm]; omega
          | false =>
            rw [look_miss _ _ _ _ hm] at h ⊢
            have := ih (i + 1) h
            omega
      have := this 10 1 hn
      omega
    · cases h
end Go.Proofs.YtchbhmolnoggfaaGreatDoor

namespace Go.Proofs.YtchbhmolnoggfaaGreatDoor
open Go.RowKit Go.Deep Go.ChangeShapes Go.WideShapes Go.ChangeAt
attribute [local go_sem] Oper.semAt_some run_store_nf run_store_f
theorem takes_load' {P : Program} {w : World} {o : Oper} {a : Act} (ty : TypeId) (x : Operand) (ho : o.op = .load ty x) (ad : Addr) (hx : a.eval x = .pointer (some ad)) {v : Value} (hr : (loadVar ty ad).run P w = .ok v w) : (execOp a.eval o).run P w = .ok (.value v) w := by
  unfold execOp
  simp only [ho, hx, Instr.loadAt, Instr.sureAddr, Sem.run_bind, Sem.run_pure, Result.andThen_ok, hr]
theorem wpAnyH_two' {P : Program} {ops : Array Oper} {Q : Exit → Act → World → Prop} {md : Region.Mode} {S : World → Prop} {fuel : Nat} {listed : Array Bool} {a : Act} {w : World} {o o2 : Oper} (i i2 : Nat) (hr : Region.ready md ops listed = [i, i2]) (hoi : ops[i]? = some o) (hoi2 : ops[i2]? = some o2) (hw : Region.wanted o (yielded ops a.tmps) = true) (hw2 : Region.wanted o2 (yielded ops a.tmps) = true)
    (h : Oper.wp P o a w (fun a' w' => S w' ∧ (S w' → wpAnyH P md ops Q S fuel (listed.setIfInBounds i true) a' w')) Q) (h2 : Oper.wp P o2 a w (fun a' w' => S w' ∧ (S w' → wpAnyH P md ops Q S fuel (listed.setIfInBounds i2 true) a' w')) Q) : wpAnyH P md ops Q S (fuel + 1) listed a w := by
  refine wpAnyH_ready hr (by simp) (AllReadyH.cons hoi (fun K hK => ?_) (AllReadyH.cons hoi2 (fun K hK => ?_) AllReadyH.nil))
  · rw [if_pos hw]
    exact Oper.wp_mono (fun a' w' e => hK.out _ _ e.1 e.2) h
  · rw [if_pos hw2]
    exact Oper.wp_mono (fun a' w' e => hK.out _ _ e.1 e.2) h2
theorem append_i2 {W : World} {base k : Nat} {v : Value} {qs : List Ins} (hown : W.ownsRow base 65 11 v k (icl qs)) (hb : base ≤ W.heap.size) (hk : (k + 1) * 88 ≤ 140737488355328) (q : Ins) :
    ∃ v' w', (Builtin.append_ #[22, 22] 22 #[v, .slice (some ⟨W.heap.size, 0, none⟩) 1 1]).run Tryz.prog (W.alloc (.cells #[.int .i64 q.code, .int .i64 q.dst, .bool q.oR, .int .i64 q.oN, .bool q.xR, .int .i64 q.xN, .bool q.yR, .int .i64 q.yN, .int .i64 q.op, .int .i64 q.rel, .int .i64 q.to] 65)) = .ok v' w' ∧ w'.ownsRow base 65 11 v' (k + 1) (icl (qs ++ [q])) ∧ Keeps (fun i => v.ownBlock = some i) W w' ∧ (v'.ownBlock = v.ownBlock ∨ v'.ownBlock = some (W.heap.size + 1)) := by
  obtain ⟨i0, hi0, hz0, hz1, hz2⟩ := oIi
  obtain ⟨v', w', hr, ho, hg, _, hbl⟩ := run_append_own_at (P := Tryz.prog) (w := W.alloc (.cells q.cells.toArray 65)) base 22 22 65 i0 _ 11 88 oI hi0 hz0 hz1 hz2 rfl (by decide) v k (icl qs) (((Keeps.refl (fun _ => False) W).alloc _).owns hown (fun _ _ e => e)) ⟨W.heap.size, 0, none⟩ 1 1 q.cells rfl (fun j u hu => by
      rw [add_at]
      have := (CL.made W q.cells 65).c j u hu
      simpa using this) (fun u hu => by
      have := all_oneCell_ins q
      simp [Ins.cells] at hu
      rcases hu with rfl | rfl | rfl | rfl | rfl | rfl | rfl | rfl | rfl | rfl | rfl <;> rfl) (by unfold maxLen; omega) (by omega) (Nat.le_trans hb (by simp))
  refine ⟨v', w', hr, ?_, ((Keeps.refl _ W).alloc _).grown hg (fun i _ e => e), by simpa using hbl⟩
  unfold icl
  rw [List.flatMap_append]
  simpa [icl] using ho
theorem iPc : (Tryz.prog.info? 73).map (·.size) = some 3 := by kernel_rfl
theorem run_pcAt {W : World} {b o : Nat} {p : Pc} (hc : ∀ j v, p.cells[j]? = some v → W.cell? ⟨b, o + j, none⟩ = some v) : (loadVar 73 ⟨b, o, none⟩).run Tryz.prog W = .ok (.agg p.cells.toArray) W :=
  run_loadVar_mid W b o 73 p.cells _ hc Tryz.underlying73 rfl (by rw [iPc]; rfl)
set_option maxHeartbeats 500000 in
set_option maxRecDepth 1000000 in
theorem instr_ok {w : World} {base R : Nat} {mv jv : Value} {qs : List Ins} {b off cap : Nat} {p0 : Pc} {r : List Pc} {q : Ins} (hT : PT w) (hNT : NT w) (hI : RI w base R mv jv qs) (hbw : base ≤ w.heap.size) (hw : PCL w (some ⟨b, off, none⟩) (p0 :: r)) (hsz : ∀ p ∈ r, p.t.size ≤ 4096) (hm : inst (p0 :: r) = some q) (hn : qs.length < 64) : Calls Tryz.prog 21 #[.pointer (some ⟨R, 0, none⟩), .slice (some ⟨b, off, none⟩) (r.length + 1) cap] w fun e w' => e = .returned (.tuple #[]) ∧ RI w' base R mv jv (qs ++ [q]) ∧ Keeps (IRw w base R) w w' := by
  obtain ⟨q0, hnm, hfl⟩ := Option.bind_eq_some_iff.1 (show (nmd p0.t).bind (fun q => fills q (slo q.code.toNat) r) = some q from hm)
  clear hm
  obtain ⟨c, hcd, hc1, hc2⟩ := nmd_code hnm
  rw [hcd, Int.toNat_natCast] at hfl
  have hlen := fills_len _ _ _ _ hfl
  obtain ⟨b', off', e', hp0⟩ := hw 0 p0 rfl
  obtain ⟨rfl, rfl⟩ : b = b' ∧ off = off' := by
    injection e' with e'; injection e' with e1 e2 _; exact ⟨e1, e2⟩
  clear e'
  have hR0 := run_pcAt (W := w) (b := b) (o := off) (p := p0) (fun j v e => by have := hp0 j v e; rw [Nat.zero_mul, Nat.add_zero] at this; exact this)
  have hNm := named_ok p0.t p0.ln p0.col hT.lt hNT hnm
  obtain ⟨⟨cv, hCR, hown, hnR⟩, hbR⟩ := hI
  obtain ⟨ac, capc, rfl, hisl⟩ := isl_of_owns hown rfl
  have hl64 : ((qs.length : Int) == 64) = false := by simp; omega
  go_enter Tryz.func21, Tryz.ntmps21
  go_wp2_with (refine wpList_load_run rfl 73 _ rfl ⟨b, off, none⟩ rfl _ hR0 ?_; clear hR0)
  refine (show Calls Tryz.prog 31 #[.agg p0.cells.toArray] w _ from hNm).mono ?_
  rintro e w1 ⟨rfl, k1⟩
  obtain ⟨W4, hW4⟩ : ∃ W4, W4 = w1.alloc (.cells #[.int .i64 0, .int .i64 0, .bool false, .int .i64 0, .bool false, .int .i64 0, .bool false, .int .i64 0, .int .i64 0, .int .i64 0, .int .i64 0] 65) := ⟨_, rfl⟩
  have k4 : Keeps (fun _ => False) w1 W4 := by rw [hW4]; exact (Keeps.refl _ w1).alloc _
  have hU4 : CL W4 w1.heap.size ins0.cells := by rw [hW4]; exact CL.made w1 ins0.cells _
  have hA := all_oneCell_ins q0
  have HW : Hid (_ = _) := hW4
  clear hW4 hNm
  obtain ⟨sv, hsv, asl, capsl, rfl, hsl⟩ := hT.lt.sh c hc1 hc2
  obtain ⟨hs4, hs6⟩ := slo_le c
  go_wp2_with (rw [← HW.out]; clear HW; refine wpList_store_cl rfl 65 _ _ rfl w1.heap.size 0 11 _ rfl rfl rfl hU4 (by show 11 ≤ 11; decide) iIn hA ?_; intro w5 hc5 k5 hsz5; clear hsz5; have hI5 : CL w5 w1.heap.size q0.cells := hc5; clear hc5; have K5 : Keeps (fun _ => False) w w5 := (k1.trans k4).trans' k5 (fun _ _ e => e) (fun i hi e => by have := k1.size; have e : i = w1.heap.size := e; omega); have CR5 := hCR.keep (by show 0 < 3; decide) K5 (fun e => e); have r0 := CR5.c 0 _ rfl; have ic := hI5.c 0 _ rfl; rw [hcd] at ic; have s5 := K5.cell hsv (fun e => e))
  have hib := k1.size
  have hibR : w1.heap.size ≠ R := fun e => by have := hCR.lt (by show 0 < 3; decide); omega
  have hown5 := K5.owns hown (fun _ _ e => e)
  have hnI : Value.ownBlock (.slice ac qs.length capc) ≠ some w1.heap.size := fun e => by have := owns_lt' hown _ e; omega
  clear hU4 hA k1 k4 k5 r0 s5 ic hp0 hnm
  generalize w1.heap.size = ib at *
  clear w1
  go_loopw [28] (fun iv Wr => ∃ (k : Nat) (u : Ins), iv = .int .i64 (k : Int) ∧ k ≤ (slo c).length ∧ Fl q0 u (slo c) r k q ∧ CL Wr ib u.cells ∧ Keeps (fun k => k = ib) w5 Wr) (fun iv _ => (slo c).length - (intOf iv).toNat)
  case atStart => exact ⟨0, q0, rfl, Nat.zero_le _, ⟨hfl, rfl⟩, hI5, Keeps.refl _ _⟩
  case round =>
    obtain ⟨k, u, rfl, hk, hF, hU, kr⟩ := hrel
    have Kr : Keeps (fun _ => False) w wr := K5.trans' kr (fun _ _ e => e) (fun i hi e => by have e : i = ib := e; omega)
    by_cases hlt : k < (slo c).length
    · have hltI : decide ((k : Int) < ((slo c).length : Int)) = true := by simp; omega
      have hltJ : (k : Int) < ((slo c).length : Int) := by omega
      have hk0 : (0 : Int) ≤ (k : Int) := by omega
      have hk1 : (0 : Int) ≤ (k : Int) + 1 := by omega
      have hkr : (k : Int) + 1 < (r.length : Int) + 1 := by omega
      have hne : (((k : Int) + 1) == ((r.length : Int) + 1)) = false := by simp; omega
      obtain ⟨s, hs⟩ : ∃ s, (slo c)[k]? = some s := ⟨_, List.getElem?_eq_getElem hlt⟩
      obtain ⟨p, hp⟩ : ∃ p, r[k]? = some p := ⟨_, List.getElem?_eq_getElem (by omega)⟩
      obtain ⟨u', hfi, hF'⟩ := hF.next hs hp
      obtain ⟨sb, so, rfl, hsc⟩ := hsl k s hs
      have hsc' := Kr.cell hsc (fun e => e)
      obtain ⟨b', off', e', hpc⟩ := hw (k + 1) p (by rw [List.getElem?_cons_succ]; exact hp)
      obtain ⟨rfl, rfl⟩ : b = b' ∧ off = off' := by
        injection e' with e'; injection e' with e1 e2 _; exact ⟨e1, e2⟩
      clear e'
      have hRk := run_pcAt (W := wr) (b := b) (o := off + (k + 1) * 3) (p := p) (fun j v e => Kr.cell (hpc j v e) (fun e => e))
      have hfc := fill_ok (w := wr) (r := .pointer (some ⟨R, 0, none⟩)) p.t p.ln p.col (hsz p (List.mem_of_getElem? hp)) (hT.keep Kr) hU hfi
      clear hF hpc hsc hs hp hfi
      go_wp2_with (refine wpList_load_run rfl 73 _ rfl ⟨b, off + (k + 1) * 3, none⟩ rfl _ hRk ?_; clear hRk)
      refine (show Calls Tryz.prog 33 #[.pointer (some ⟨R, 0, none⟩), .pointer (some ⟨ib, 0, none⟩), .int .i64 s, .agg p.cells.toArray] wr _ from hfc).mono ?_
      rintro e w6 ⟨rfl, hU6, k6⟩
      clear hfc
      go_wp2_with fail
      go_roundw
      case rel => exact ⟨k + 1, u', by go_num, by omega, hF', hU6, kr.trans k6⟩
      case measure => simp [intOf]; omega
    · obtain rfl : k = (slo c).length := by omega
      obtain rfl := hF.done rfl (by omega)
      have hltI : decide (((slo c).length : Int) < ((slo c).length : Int)) = false := by simp
      have ic := hU.c 0 _ rfl
      rw [show u.code = (c : Int) from hF.c.trans hcd] at ic
      have s5 := Kr.cell hsv (fun e => e)
      have hne : decide (1 + ((slo c).length : Int) < (r.length : Int) + 1) = false := by simp; omega
      have CRr := hCR.keep (by show 0 < 3; decide) Kr (fun e => e)
      have hor := Kr.owns hown (fun _ _ e => e)
      have hnIr := hnI
      go_wp2_with fail
      obtain ⟨cd, dst, oR, oN, xR, xN, yR, yN, op, rel, to⟩ := u
      have Kd : Keeps (fun _ => False) wr wr.drew := (Keeps.refl _ wr).drew
      obtain ⟨v', w', hr, ho, kk, hbl⟩ := append_i2 (Kd.owns hor (fun _ _ e => e)) (by have := Kr.size; show base ≤ wr.heap.size; omega) (by omega) ⟨cd, dst, oR, oN, xR, xN, yR, yN, op, rel, to⟩
      obtain ⟨a', cap', rfl, hisl'⟩ := isl_of_owns ho (by simp)
      have hr' : (Builtin.append_ #[22, 22] 22 #[.slice ac qs.length capc, .slice (some ⟨wr.heap.size, 0, none⟩) 1 1]).run Tryz.prog (wr.alloc (.cells #[.int .i64 cd, .int .i64 dst, .bool oR, .int .i64 oN, .bool xR, .int .i64 xN, .bool yR, .int .i64 yN, .int .i64 op, .int .i64 rel, .int .i64 to] 65)).drew = .ok (.slice a' (qs.length + 1) cap') w' := hr
      clear hr
      have CR' := CRr.drew.keep (by show 0 < 3; decide) kk hnR
      have hRn : Value.ownBlock (.slice a' (qs.length + 1) cap') ≠ some R := fun e => by
        rcases hbl with h | h
        · exact hnR (h.symm.trans e)
        · have h2 : some (wr.heap.size + 1) = some R := h.symm.trans e
          have h3 := CRr.lt (by show 0 < 3; decide)
          injection h2 with h2
          omega
      have KK : Keeps (fun k => Value.ownBlock (.slice ac qs.length capc) = some k) wr w' := (Kd.mono (fun _ _ e => e.elim)).trans kk
      refine wp_region_held_drew (S := fun w' => Keeps (fun i => Value.ownBlock (.slice ac qs.length capc) = some i ∨ i = R) wr w') (by kernel_rfl) (Keeps.refl _ wr).drew (fun hHeld => ?_)
      refine wpAnyH_take (i := 0) (v := ?_) rfl (by kernel_rfl) (by kernel_rfl) (by kernel_rfl) (fun _ _ _ h => h) (Or.inl ⟨by rfl, ?_⟩) (by assumption) ?_
      rotate_left
      · intro wx hSw;  go_simp <;> with_reducible rfl
      (try simp only [List.getElem_toArray]); (try simp only [List.getElem_cons_succ]); (try simp only [List.getElem_cons_zero]); (try simp only [Act.put]); (try simp only [List.setIfInBounds_toArray]); (repeat first | simp only [List.set_cons_succ] | simp only [List.set_cons_zero])
      refine wpAnyH_take (i := 1) (v := ?_) rfl (by kernel_rfl) (by kernel_rfl) (by kernel_rfl) (fun _ _ _ h => h) (Or.inl ⟨by rfl, ?_⟩) (by assumption) ?_
      rotate_left
      · intro wx hSw;  go_simp <;> with_reducible rfl
      (try simp only [List.getElem_toArray]); (try simp only [List.getElem_cons_succ]); (try simp only [List.getElem_cons_zero]); (try simp only [Act.put]); (try simp only [List.setIfInBounds_toArray]); (repeat first | simp only [List.set_cons_succ] | simp only [List.set_cons_zero])
      refine wpAnyH_take (i := 2) (v := ?_) rfl (by kernel_rfl) (by kernel_rfl) (by kernel_rfl) (fun _ _ _ h => h) (Or.inl ⟨by rfl, ?_⟩) (by assumption) ?_
      rotate_left
      · intro wx hSw;  go_simp <;> with_reducible rfl
      (try simp only [List.getElem_toArray]); (try simp only [List.getElem_cons_succ]); (try simp only [List.getElem_cons_zero]); (try simp only [Act.put]); (try simp only [List.setIfInBounds_toArray]); (repeat first | simp only [List.set_cons_succ] | simp only [List.set_cons_zero])
      refine wpAnyH_take (i := 3) (v := ?_) rfl (by kernel_rfl) (by kernel_rfl) (by kernel_rfl) (fun _ _ _ h => h) (Or.inl ⟨by rfl, ?_⟩) (by assumption) ?_
      rotate_left
      · intro wx hSw;  go_simp <;> with_reducible rfl
      (try simp only [List.getElem_toArray]); (try simp only [List.getElem_cons_succ]); (try simp only [List.getElem_cons_zero]); (try simp only [Act.put]); (try simp only [List.setIfInBounds_toArray]); (repeat first | simp only [List.set_cons_succ] | simp only [List.set_cons_zero])
      refine wpAnyH_take (i := 5) (v := .agg #[.int .i64 cd, .int .i64 dst, .bool oR, .int .i64 oN, .bool xR, .int .i64 xN, .bool yR, .int .i64 yN, .int .i64 op, .int .i64 rel, .int .i64 to]) rfl (by kernel_rfl) (by kernel_rfl) (by kernel_rfl) (fun _ _ _ h => h) (Or.inl ⟨by rfl, ?_⟩) (by assumption) ?_
      · intro wx hSw
        exact takes_load' 65 _ rfl ⟨ib, 0, none⟩ rfl (run_ins (hU.keep (by show 0 < 11; decide) hSw (fun e => e.elim hnIr hibR)))
      (try simp only [List.getElem_toArray]); (try simp only [List.getElem_cons_succ]); (try simp only [List.getElem_cons_zero]); (try simp only [Act.put]); (try simp only [List.setIfInBounds_toArray]); (repeat first | simp only [List.set_cons_succ] | simp only [List.set_cons_zero])
      have r0 := CRr.c 0 _ rfl
      have r0a : ∀ ob, (wr.alloc ob).cell? ⟨R, 0, none⟩ = some (.slice ac qs.length capc) := fun ob => (CRr.alloc (by show 0 < 3; decide) ob).c 0 _ rfl
      refine wpAnyH_two' 4 6 (by kernel_rfl) rfl rfl (by rfl) (by rfl) ?_ ?_
      · go_simp
        have hS1 := hHeld
        (try simp only [List.getElem_toArray]); (try simp only [List.getElem_cons_succ]); (try simp only [List.getElem_cons_zero]); (try simp only [Act.put]); (try simp only [List.setIfInBounds_toArray]); (repeat first | simp only [List.set_cons_succ] | simp only [List.set_cons_zero])
        refine wpAnyH_one 6 (by kernel_rfl) rfl rfl ?_
        go_simp
        refine ⟨hS1.alloc _, fun hS2 => ?_⟩
        (try simp only [List.getElem_toArray]); (try simp only [List.getElem_cons_succ]); (try simp only [List.getElem_cons_zero]); (try simp only [Act.put]); (try simp only [List.setIfInBounds_toArray]); (repeat first | simp only [List.set_cons_succ] | simp only [List.set_cons_zero])
        refine wpAnyH_one 7 (by kernel_rfl) rfl rfl ?_
        refine wp_append_run _ _ 22 rfl _ _ _ _ rfl rfl hr' ?_
        refine ⟨KK.mono (fun _ _ e => .inl e), fun hS3 => ?_⟩
        (try simp only [List.getElem_toArray]); (try simp only [List.getElem_cons_succ]); (try simp only [List.getElem_cons_zero]); (try simp only [Act.put]); (try simp only [List.setIfInBounds_toArray]); (repeat first | simp only [List.set_cons_succ] | simp only [List.set_cons_zero])
        have z0 := CR'.z 0 (by show 0 < 3; decide)
        have x0 := CR'.c 0 _ rfl
        refine wpAnyH_take (i := 8) (v := ?_) rfl (by kernel_rfl) (by kernel_rfl) (by kernel_rfl) (fun _ _ _ h => h) (Or.inl ⟨by rfl, ?_⟩) (by assumption) ?_
        rotate_left
        · intro wx hSw;  go_simp <;> with_reducible rfl
        (try simp only [List.getElem_toArray]); (try simp only [List.getElem_cons_succ]); (try simp only [List.getElem_cons_zero]); (try simp only [Act.put]); (try simp only [List.setIfInBounds_toArray]); (repeat first | simp only [List.set_cons_succ] | simp only [List.set_cons_zero])
        refine wpAnyH_take (i := 9) (v := ?_) rfl (by kernel_rfl) (by kernel_rfl) (by kernel_rfl) (fun _ _ _ h => h) (Or.inl ⟨by rfl, ?_⟩) (by assumption) ?_
        rotate_left
        · intro wx hSw;  go_simp <;> with_reducible rfl
        (try simp only [List.getElem_toArray]); (try simp only [List.getElem_cons_succ]); (try simp only [List.getElem_cons_zero]); (try simp only [Act.put]); (try simp only [List.setIfInBounds_toArray]); (repeat first | simp only [List.set_cons_succ] | simp only [List.set_cons_zero])
        refine wpAnyH_one 10 (by kernel_rfl) rfl rfl ?_
        go_simp
        refine ⟨hS3.setCell (fun _ => .inr rfl) _, fun hS4 => ?_⟩
        (try simp only [List.getElem_toArray]); (try simp only [List.getElem_cons_succ]); (try simp only [List.getElem_cons_zero]); (try simp only [Act.put]); (try simp only [List.setIfInBounds_toArray]); (repeat first | simp only [List.set_cons_succ] | simp only [List.set_cons_zero])
        refine wpAnyH_done (by kernel_rfl) ?_ _
        go_wp2_with fail
        go_end0
        refine ⟨rfl, ⟨⟨_, CR'.set (o := 0) (by show 0 < 3; decide) _, ?_, ?_⟩, hbR⟩, ?_⟩
        · have ho' : w'.ownsRow base 65 11 (.slice a' (qs.length + 1) cap') (qs.length + 1) (icl (qs ++ [⟨cd, dst, oR, oN, xR, xN, yR, yN, op, rel, to⟩])) := ho
          rw [List.length_append]
          exact ((Keeps.refl (fun k => k = R) w').setA 0 _).owns ho' (fun g hg e => hRn (e ▸ hg))
        · exact hRn
        · exact ((Kr.mono (fun _ _ e => e.elim)).trans' KK (fun _ _ e => e) (fun i hi e => by obtain ⟨h1, h2⟩ := owns_ty hown i e; exact ⟨h1, .inr h2⟩)).setCell (fun _ => ⟨hbR, .inl rfl⟩) _
      · go_simp
        refine ⟨hHeld.alloc _, fun hS1 => ?_⟩
        (try simp only [List.getElem_toArray]); (try simp only [List.getElem_cons_succ]); (try simp only [List.getElem_cons_zero]); (try simp only [Act.put]); (try simp only [List.setIfInBounds_toArray]); (repeat first | simp only [List.set_cons_succ] | simp only [List.set_cons_zero])
        refine wpAnyH_one 4 (by kernel_rfl) rfl rfl ?_
        go_simp
        have hS2 := hS1
        (try simp only [List.getElem_toArray]); (try simp only [List.getElem_cons_succ]); (try simp only [List.getElem_cons_zero]); (try simp only [Act.put]); (try simp only [List.setIfInBounds_toArray]); (repeat first | simp only [List.set_cons_succ] | simp only [List.set_cons_zero])
        refine wpAnyH_one 7 (by kernel_rfl) rfl rfl ?_
        refine wp_append_run _ _ 22 rfl _ _ _ _ rfl rfl hr' ?_
        refine ⟨KK.mono (fun _ _ e => .inl e), fun hS3 => ?_⟩
        (try simp only [List.getElem_toArray]); (try simp only [List.getElem_cons_succ]); (try simp only [List.getElem_cons_zero]); (try simp only [Act.put]); (try simp only [List.setIfInBounds_toArray]); (repeat first | simp only [List.set_cons_succ] | simp only [List.set_cons_zero])
        have z0 := CR'.z 0 (by show 0 < 3; decide)
        have x0 := CR'.c 0 _ rfl
        refine wpAnyH_take (i := 8) (v := ?_) rfl (by kernel_rfl) (by kernel_rfl) (by kernel_rfl) (fun _ _ _ h => h) (Or.inl ⟨by rfl, ?_⟩) (by assumption) ?_
        rotate_left
        · intro wx hSw;  go_simp <;> with_reducible rfl
        (try simp only [List.getElem_toArray]); (try simp only [List.getElem_cons_succ]); (try simp only [List.getElem_cons_zero]); (try simp only [Act.put]); (try simp only [List.setIfInBounds_toArray]); (repeat first | simp only [List.set_cons_succ] | simp only [List.set_cons_zero])
        refine wpAnyH_take (i := 9) (v := ?_) rfl (by kernel_rfl) (by kernel_rfl) (by kernel_rfl) (fun _ _ _ h => h) (Or.inl ⟨by rfl, ?_⟩) (by assumption) ?_
        rotate_left
        · intro wx hSw;  go_simp <;> with_reducible rfl
        (try simp only [List.getElem_toArray]); (try simp only [List.getElem_cons_succ]); (try simp only [List.getElem_cons_zero]); (try simp only [Act.put]); (try simp only [List.setIfInBounds_toArray]); (repeat first | simp only [List.set_cons_succ] | simp only [List.set_cons_zero])
        refine wpAnyH_one 10 (by kernel_rfl) rfl rfl ?_
        go_simp
        refine ⟨hS3.setCell (fun _ => .inr rfl) _, fun hS4 => ?_⟩
        (try simp only [List.getElem_toArray]); (try simp only [List.getElem_cons_succ]); (try simp only [List.getElem_cons_zero]); (try simp only [Act.put]); (try simp only [List.setIfInBounds_toArray]); (repeat first | simp only [List.set_cons_succ] | simp only [List.set_cons_zero])
        refine wpAnyH_done (by kernel_rfl) ?_ _
        go_wp2_with fail
        go_end0
        refine ⟨rfl, ⟨⟨_, CR'.set (o := 0) (by show 0 < 3; decide) _, ?_, ?_⟩, hbR⟩, ?_⟩
        · have ho' : w'.ownsRow base 65 11 (.slice a' (qs.length + 1) cap') (qs.length + 1) (icl (qs ++ [⟨cd, dst, oR, oN, xR, xN, yR, yN, op, rel, to⟩])) := ho
          rw [List.length_append]
          exact ((Keeps.refl (fun k => k = R) w').setA 0 _).owns ho' (fun g hg e => hRn (e ▸ hg))
        · exact hRn
        · exact ((Kr.mono (fun _ _ e => e.elim)).trans' KK (fun _ _ e => e) (fun i hi e => by obtain ⟨h1, h2⟩ := owns_ty hown i e; exact ⟨h1, .inr h2⟩)).setCell (fun _ => ⟨hbR, .inl rfl⟩) _
end Go.Proofs.YtchbhmolnoggfaaGreatDoor

