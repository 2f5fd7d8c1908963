import Derived.Test.YtdmfkepnopppaaaGreatDoorPhC
namespace Go.Proofs.YtdmfkepnopppaaaGreatDoor
open Go.RowKit
attribute [local go_sem] Oper.semAt_some run_store_nf run_store_f
set_option maxHeartbeats 500000 in
set_option maxRecDepth 100000 in
theorem relation_ok {w : World} (t : ByteArray) (ln col : Int) (hL : LT w) (hb : look relT t 1 6 ≠ 0) : Calls Tryz.prog 64 #[.agg #[.string t, .int .i64 ln, .int .i64 col]] w fun e w' => e = .returned (.int .i64 ((look relT t 1 6 : Nat) : Int)) ∧ Keeps (fun _ => False) w w' := by
  have m1 := CL.made w [.string t, .int .i64 ln, .int .i64 col] 76
  have k2 : Keeps (fun _ => False) w (w.alloc (.cells #[.string t, .int .i64 ln, .int .i64 col] 76)) := (Keeps.refl _ w).alloc _
  have hR := relNamed_any t (w.alloc (.cells #[.string t, .int .i64 ln, .int .i64 col] 76)) (hL.keep k2).rt
  have hN := fun W => need_ok W t ln col
  generalize look relT t 1 6 = o at *
  have he : ∀ x : Int, lookE x o = 0 := fun x => by unfold lookE; rw [if_neg hb]
  rw [he] at hR
  clear he
  go_enter Tryz.func64, Tryz.ntmps64
  go_wp2_with (first | (go_at_call 86; refine hR.mono ?_; rintro e w1 ⟨rfl, e1⟩; subst w1) | (go_at_call 65; refine (hN _).mono ?_; rintro e w4 ⟨rfl, k4⟩; have K4 := k2.trans k4; clear hN k4))
  go_ret
  exact ⟨rfl, K4⟩
/-- An instruction with one field more, as a slot says. -/
def fil (u : Ins) (s : Int) (t : ByteArray) : Option Ins :=
  if s = 1 then (if regB t = true then some { u with dst := regN t } else none)
  else if s = 2 then (objO t).map (fun x => { u with oR := x.1, oN := x.2 })
  else if s = 3 then (src t).map (fun x => { u with xR := x.1, xN := x.2 })
  else if s = 4 then (src t).map (fun x => { u with yR := x.1, yN := x.2 })
  else if s = 5 then (if look relT t 1 6 ≠ 0 then some { u with rel := (look relT t 1 6 : Nat) } else none)
  else none
set_option maxHeartbeats 500000 in
set_option maxRecDepth 100000 in
theorem fill_1 {w : World} {r : Value} {ib : Nat} {u : Ins} (t : ByteArray) (ln col : Int) (hs : t.size ≤ 4096) (hT : PT w) (hU : CL w ib u.cells) (hb : regB t = true) : Calls Tryz.prog 43 #[r, .pointer (some ⟨ib, 0, none⟩), .int .i64 1, .agg #[.string t, .int .i64 ln, .int .i64 col]] w fun e w' => e = .returned (.tuple #[]) ∧ CL w' ib { u with dst := regN t }.cells ∧ Keeps (fun k => k = ib) w w' := by
  have m1 := CL.made w [.string t, .int .i64 ln, .int .i64 col] 76
  have k2 : Keeps (fun _ => False) w (w.alloc (.cells #[.string t, .int .i64 ln, .int .i64 col] 76)) := (Keeps.refl _ w).alloc _
  have hC := regm_ok (w := (w.alloc (.cells #[.string t, .int .i64 ln, .int .i64 col] 76))) t ln col hs (errIs_keep hT.er k2) hb
  have hU2 := hU.keep (by show 0 < 11; decide) k2 (fun e => e)
  generalize regN t = n at *
  go_enter Tryz.func43, Tryz.ntmps43
  go_wp2_with (go_at_call 61; refine hC.mono ?_; rintro e w4 ⟨rfl, k4⟩; have K2 := k2.trans k4; have c4 := hU2.keep (by show 0 < 11; decide) k4 (fun e => e); have x1 := c4.c 1 _ rfl; have z1 := c4.z 1 (by show 1 < 11; decide); clear hC k4)
  go_end0
  exact ⟨rfl, (c4.set (o := 1) (by show 1 < 11; decide) _), ((K2.mono (fun _ _ e => e.elim) : Keeps (fun k => k = ib) w w4).setA 1 _)⟩
set_option maxHeartbeats 500000 in
set_option maxRecDepth 100000 in
theorem fill_2 {w : World} {r : Value} {ib : Nat} {u : Ins} (t : ByteArray) (ln col : Int) (hs : t.size ≤ 4096) (hT : PT w) (hU : CL w ib u.cells) {r1 : Bool} {n1 : Int} (hb : objO t = some (r1, n1)) : Calls Tryz.prog 43 #[r, .pointer (some ⟨ib, 0, none⟩), .int .i64 2, .agg #[.string t, .int .i64 ln, .int .i64 col]] w fun e w' => e = .returned (.tuple #[]) ∧ CL w' ib { u with oR := r1, oN := n1 }.cells ∧ Keeps (fun k => k = ib) w w' := by
  have m1 := CL.made w [.string t, .int .i64 ln, .int .i64 col] 76
  have k2 : Keeps (fun _ => False) w (w.alloc (.cells #[.string t, .int .i64 ln, .int .i64 col] 76)) := (Keeps.refl _ w).alloc _
  have hC := object_ok (w := (w.alloc (.cells #[.string t, .int .i64 ln, .int .i64 col] 76))) t ln col hs (errIs_keep hT.er k2) hb
  have hU2 := hU.keep (by show 0 < 11; decide) k2 (fun e => e)
  
  go_enter Tryz.func43, Tryz.ntmps43
  go_wp2_with (go_at_call 62; refine hC.mono ?_; rintro e w4 ⟨rfl, k4⟩; have K2 := k2.trans k4; have c4 := hU2.keep (by show 0 < 11; decide) k4 (fun e => e); have x2 := c4.c 2 _ rfl; have z2 := c4.z 2 (by show 2 < 11; decide); have x3 := c4.c 3 _ rfl; have z3 := c4.z 3 (by show 3 < 11; decide); clear hC k4)
  go_end0
  exact ⟨rfl, ((c4.set (o := 2) (by show 2 < 11; decide) _).set (o := 3) (by simp only [List.length_set]; show 3 < 11; decide) _), (((K2.mono (fun _ _ e => e.elim) : Keeps (fun k => k = ib) w w4).setA 2 _).setA 3 _)⟩
set_option maxHeartbeats 500000 in
set_option maxRecDepth 100000 in
theorem fill_3 {w : World} {r : Value} {ib : Nat} {u : Ins} (t : ByteArray) (ln col : Int) (hs : t.size ≤ 4096) (hT : PT w) (hU : CL w ib u.cells) {r1 : Bool} {n1 : Int} (hb : src t = some (r1, n1)) : Calls Tryz.prog 43 #[r, .pointer (some ⟨ib, 0, none⟩), .int .i64 3, .agg #[.string t, .int .i64 ln, .int .i64 col]] w fun e w' => e = .returned (.tuple #[]) ∧ CL w' ib { u with xR := r1, xN := n1 }.cells ∧ Keeps (fun k => k = ib) w w' := by
  have m1 := CL.made w [.string t, .int .i64 ln, .int .i64 col] 76
  have k2 : Keeps (fun _ => False) w (w.alloc (.cells #[.string t, .int .i64 ln, .int .i64 col] 76)) := (Keeps.refl _ w).alloc _
  have hC := source_ok (w := (w.alloc (.cells #[.string t, .int .i64 ln, .int .i64 col] 76))) t ln col t hs (errIs_keep hT.er k2) hb
  have hU2 := hU.keep (by show 0 < 11; decide) k2 (fun e => e)
  
  go_enter Tryz.func43, Tryz.ntmps43
  go_wp2_with (go_at_call 63; refine hC.mono ?_; rintro e w4 ⟨rfl, k4⟩; have K2 := k2.trans k4; have c4 := hU2.keep (by show 0 < 11; decide) k4 (fun e => e); have x4 := c4.c 4 _ rfl; have z4 := c4.z 4 (by show 4 < 11; decide); have x5 := c4.c 5 _ rfl; have z5 := c4.z 5 (by show 5 < 11; decide); clear hC k4)
  go_end0
  exact ⟨rfl, ((c4.set (o := 4) (by show 4 < 11; decide) _).set (o := 5) (by simp only [List.length_set]; show 5 < 11; decide) _), (((K2.mono (fun _ _ e => e.elim) : Keeps (fun k => k = ib) w w4).setA 4 _).setA 5 _)⟩
set_option maxHeartbeats 500000 in
set_option maxRecDepth 100000 in
theorem fill_4 {w : World} {r : Value} {ib : Nat} {u : Ins} (t : ByteArray) (ln col : Int) (hs : t.size ≤ 4096) (hT : PT w) (hU : CL w ib u.cells) {r1 : Bool} {n1 : Int} (hb : src t = some (r1, n1)) : Calls Tryz.prog 43 #[r, .pointer (some ⟨ib, 0, none⟩), .int .i64 4, .agg #[.string t, .int .i64 ln, .int .i64 col]] w fun e w' => e = .returned (.tuple #[]) ∧ CL w' ib { u with yR := r1, yN := n1 }.cells ∧ Keeps (fun k => k = ib) w w' := by
  have m1 := CL.made w [.string t, .int .i64 ln, .int .i64 col] 76
  have k2 : Keeps (fun _ => False) w (w.alloc (.cells #[.string t, .int .i64 ln, .int .i64 col] 76)) := (Keeps.refl _ w).alloc _
  have hC := source_ok (w := (w.alloc (.cells #[.string t, .int .i64 ln, .int .i64 col] 76))) t ln col t hs (errIs_keep hT.er k2) hb
  have hU2 := hU.keep (by show 0 < 11; decide) k2 (fun e => e)
  
  go_enter Tryz.func43, Tryz.ntmps43
  go_wp2_with (go_at_call 63; refine hC.mono ?_; rintro e w4 ⟨rfl, k4⟩; have K2 := k2.trans k4; have c4 := hU2.keep (by show 0 < 11; decide) k4 (fun e => e); have x6 := c4.c 6 _ rfl; have z6 := c4.z 6 (by show 6 < 11; decide); have x7 := c4.c 7 _ rfl; have z7 := c4.z 7 (by show 7 < 11; decide); clear hC k4)
  go_end0
  exact ⟨rfl, ((c4.set (o := 6) (by show 6 < 11; decide) _).set (o := 7) (by simp only [List.length_set]; show 7 < 11; decide) _), (((K2.mono (fun _ _ e => e.elim) : Keeps (fun k => k = ib) w w4).setA 6 _).setA 7 _)⟩
set_option maxHeartbeats 500000 in
set_option maxRecDepth 100000 in
theorem fill_5 {w : World} {r : Value} {ib : Nat} {u : Ins} (t : ByteArray) (ln col : Int) (_hs : t.size ≤ 4096) (hT : PT w) (hU : CL w ib u.cells) (hb : look relT t 1 6 ≠ 0) : Calls Tryz.prog 43 #[r, .pointer (some ⟨ib, 0, none⟩), .int .i64 5, .agg #[.string t, .int .i64 ln, .int .i64 col]] w fun e w' => e = .returned (.tuple #[]) ∧ CL w' ib { u with rel := ((look relT t 1 6 : Nat) : Int) }.cells ∧ Keeps (fun k => k = ib) w w' := by
  have m1 := CL.made w [.string t, .int .i64 ln, .int .i64 col] 76
  have k2 : Keeps (fun _ => False) w (w.alloc (.cells #[.string t, .int .i64 ln, .int .i64 col] 76)) := (Keeps.refl _ w).alloc _
  have hC := relation_ok (w := (w.alloc (.cells #[.string t, .int .i64 ln, .int .i64 col] 76))) t ln col (hT.lt.keep k2) hb
  have hU2 := hU.keep (by show 0 < 11; decide) k2 (fun e => e)
  generalize ((look relT t 1 6 : Nat) : Int) = n at *
  go_enter Tryz.func43, Tryz.ntmps43
  go_wp2_with (go_at_call 64; refine hC.mono ?_; rintro e w4 ⟨rfl, k4⟩; have K2 := k2.trans k4; have c4 := hU2.keep (by show 0 < 11; decide) k4 (fun e => e); have x9 := c4.c 9 _ rfl; have z9 := c4.z 9 (by show 9 < 11; decide); clear hC k4)
  go_end0
  exact ⟨rfl, (c4.set (o := 9) (by show 9 < 11; decide) _), ((K2.mono (fun _ _ e => e.elim) : Keeps (fun k => k = ib) w w4).setA 9 _)⟩
theorem fill_ok {w : World} {r : Value} {ib : Nat} {u u' : Ins} {s : Int} (t : ByteArray) (ln col : Int) (hs : t.size ≤ 4096) (hT : PT w) (hU : CL w ib u.cells) (h : fil u s t = some u') : Calls Tryz.prog 43 #[r, .pointer (some ⟨ib, 0, none⟩), .int .i64 s, .agg #[.string t, .int .i64 ln, .int .i64 col]] w fun e w' => e = .returned (.tuple #[]) ∧ CL w' ib u'.cells ∧ Keeps (fun k => k = ib) w w' := by
  unfold fil at h
  split at h
  · rename_i e; subst e
    split at h
    · rename_i hb; cases h; exact fill_1 t ln col hs hT hU hb
    · cases h
  · split at h
    · rename_i e; subst e
      cases ho : objO t with
      | none => rw [ho] at h; cases h
      | some x => rw [ho] at h; cases h; exact fill_2 t ln col hs hT hU ho
    · split at h
      · rename_i e; subst e
        cases ho : src t with
        | none => rw [ho] at h; cases h
        | some x => rw [ho] at h; cases h; exact fill_3 t ln col hs hT hU ho
      · split at h
        · rename_i e; subst e
          cases ho : src t with
          | none => rw [ho] at h; cases h
          | some x => rw [ho] at h; cases h; exact fill_4 t ln col hs hT hU ho
        · split at h
          · rename_i e; subst e
            split at h
            · rename_i hb; cases h; exact fill_5 t ln col hs hT hU hb
            · cases h
          · cases h
end Go.Proofs.YtdmfkepnopppaaaGreatDoor
