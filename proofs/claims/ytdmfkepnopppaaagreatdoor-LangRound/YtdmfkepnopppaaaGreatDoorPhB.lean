import Derived.Test.YtdmfkepnopppaaaGreatDoorPhA
import Derived.Test.YtdmfkepnopppaaaGreatDoorPhN
namespace Go.Proofs.YtdmfkepnopppaaaGreatDoor
open Go.RowKit
attribute [local go_sem] Oper.semAt_some run_store_nf run_store_f
theorem made1 (w : World) (l : List Value) (t : TypeId) (o : Obj) (hl : 0 < l.length) : CL ((w.alloc (.cells l.toArray t)).alloc o) w.heap.size l := (CL.made w l t).alloc hl o
theorem made2 (w : World) (l : List Value) (t : TypeId) (o : Obj) : CL ((w.alloc o).alloc (.cells l.toArray t)) (w.heap.size + 1) l := by
  have h := CL.made (w.alloc o) l t
  simpa using h
theorem ks2 (w : World) (o o' : Obj) : Keeps (fun _ => False) w ((w.alloc o).alloc o') := ((Keeps.refl _ w).alloc o).alloc o'
/-- A register or a number. -/
def src (t : ByteArray) : Option (Bool × Int) := if regB t = true then some (true, regN t) else if prsE t.toList = 0 then some (false, prsV t.toList) else none
def objO (t : ByteArray) : Option (Bool × Int) := if hp t 64 = true then src (tp t 64) else none
set_option maxHeartbeats 500000 in
set_option maxRecDepth 100000 in
theorem source_ok {w : World} (pt : ByteArray) (ln col : Int) (t : ByteArray) (hs : t.size ≤ 4096) (hv : ErrIs w) {r : Bool} {n : Int} (h : src t = some (r, n)) : Calls Tryz.prog 63 #[.agg #[.string pt, .int .i64 ln, .int .i64 col], .string t] w fun e w' => e = .returned (.agg #[.bool r, .int .i64 n]) ∧ Keeps (fun _ => False) w w' := by
  have hR := fun W (k : Keeps (fun _ => False) w W) => register_any (w := W) t hs (errIs_keep hv k)
  have hP := fun W (k : Keeps (fun _ => False) w W) => parse_any t W (by omega) (errIs_keep hv k)
  have hN := fun W => need_ok W pt ln col
  have m1 := made1 w [.string pt, .int .i64 ln, .int .i64 col] 76 (.cells #[.bool false, .int .i64 0] 41) (by show 0 < 3; decide)
  have m2 := made2 w [.bool false, .int .i64 0] 41 (.cells #[.string pt, .int .i64 ln, .int .i64 col] 76)
  have k2 := ks2 w (.cells #[.string pt, .int .i64 ln, .int .i64 col] 76) (.cells #[.bool false, .int .i64 0] 41)
  unfold src at h
  by_cases hb : regB t = true
  · rw [if_pos hb] at h
    rw [hb] at hR
    obtain ⟨rfl, rfl⟩ : r = true ∧ n = regN t := by simpa [eq_comm] using h
    clear h hP
    generalize regN t = n at *
    go_enter Tryz.func63, Tryz.ntmps63
    go_wp2_with (go_at_call 83; refine (hR _ k2).mono ?_; rintro e w1 ⟨rfl, k1⟩; have c2 := m2.keep (by show 0 < 2; decide) k1 (fun e => e); have x0 := c2.c 0 _ rfl; have x1 := c2.c 1 _ rfl; have z0 := c2.z 0 (by show 0 < 2; decide); have z1 := c2.z 1 (by show 1 < 2; decide))
    refine bodyPost_ret (v := .agg #[.bool true, .int .i64 n]) (by rw [results_cell1 rfl]; go_simp) rfl ⟨rfl, ?_⟩
    exact ((k2.trans k1).setCell (fun h => absurd h (by show ¬ (w.heap.size + 1 < w.heap.size); omega)) _).setCell (fun h => absurd h (by show ¬ (w.heap.size + 1 < w.heap.size); omega)) _
  · rw [if_neg hb] at h
    have hb : regB t = false := by simpa using hb
    rw [hb] at hR
    by_cases he : prsE t.toList = 0
    · rw [if_pos he] at h
      rw [he] at hP
      obtain ⟨rfl, rfl⟩ : r = false ∧ n = prsV t.toList := by simpa [eq_comm] using h
      clear h
      generalize regN t = n' at *
      generalize prsV t.toList = n at *
      go_enter Tryz.func63, Tryz.ntmps63
      go_wp2_with (first | (go_at_call 83; refine (hR _ k2).mono ?_; rintro e w1 ⟨rfl, k1⟩; have K1 := k2.trans k1; have C2 := m2.keep (by show 0 < 2; decide) k1 (fun e => e); have C1 := m1.keep (by show 0 < 3; decide) k1 (fun e => e); clear hR k1 m1 m2 k2) | (go_at_call 85; refine (hP _ K1).mono ?_; rintro e w3 ⟨rfl, b3⟩; have k3 := Keeps.ofBelow b3; clear b3; have K3 := K1.trans k3; have D2 := C2.keep (by show 0 < 2; decide) k3 (fun e => e); have D1 := C1.keep (by show 0 < 3; decide) k3 (fun e => e); have y0 := D1.c 0 _ rfl; have y1 := D1.c 1 _ rfl; have y2 := D1.c 2 _ rfl; clear hP K1 C1 C2 k3) | (go_at_call 65; refine (hN _).mono ?_; rintro e w4 ⟨rfl, k4⟩; have K4 := K3.trans k4; have c2 := D2.keep (by show 0 < 2; decide) k4 (fun e => e); have x0 := c2.c 0 _ rfl; have x1 := c2.c 1 _ rfl; have z0 := c2.z 0 (by show 0 < 2; decide); have z1 := c2.z 1 (by show 1 < 2; decide); clear hN K3 D1 D2 k4))
      refine bodyPost_ret (v := .agg #[.bool false, .int .i64 n]) (by rw [results_cell1 rfl]; go_simp) rfl ⟨rfl, ?_⟩
      exact (K4.setCell (fun h => absurd h (by show ¬ (w.heap.size + 1 < w.heap.size); omega)) _).setCell (fun h => absurd h (by show ¬ (w.heap.size + 1 < w.heap.size); omega)) _
    · rw [if_neg he] at h; cases h
set_option maxHeartbeats 500000 in
set_option maxRecDepth 100000 in
theorem object_ok {w : World} (t : ByteArray) (ln col : Int) (hs : t.size ≤ 4096) (hv : ErrIs w) {r : Bool} {n : Int} (h : objO t = some (r, n)) : Calls Tryz.prog 62 #[.agg #[.string t, .int .i64 ln, .int .i64 col]] w fun e w' => e = .returned (.agg #[.bool r, .int .i64 n]) ∧ Keeps (fun _ => False) w w' := by
  unfold objO at h
  by_cases hb : hp t 64 = true
  · rw [if_pos hb] at h
    have hC : ∀ W, Calls Tryz.prog 84 #[.string t, .string ⟨#[64]⟩] W fun e w' => e = .returned (.tuple #[.string (tp t 64), .bool (hp t 64)]) ∧ w' = W := fun W => Tryz.strings_CutPrefix t ⟨#[64]⟩ W
    rw [hb] at hC
    have hS := fun W (k : Keeps (fun _ => False) w W) => source_ok (w := W) t ln col (tp t 64) (by have := tp_size t 64; omega) (errIs_keep hv k) h
    have hN := fun W => need_ok W t ln col
    have m1 := made1 w [.string t, .int .i64 ln, .int .i64 col] 76 (.cells #[.bool false, .int .i64 0] 41) (by show 0 < 3; decide)
    have m2 := made2 w [.bool false, .int .i64 0] 41 (.cells #[.string t, .int .i64 ln, .int .i64 col] 76)
    have k2 := ks2 w (.cells #[.string t, .int .i64 ln, .int .i64 col] 76) (.cells #[.bool false, .int .i64 0] 41)
    clear h
    generalize tp t 64 = t1 at *
    go_enter Tryz.func62, Tryz.ntmps62
    go_wp2_with (first | (go_at_call 84; refine (hC _).mono ?_; rintro e w' ⟨rfl, rfl⟩; clear hC) | (go_at_call 65; refine (hN _).mono ?_; rintro e w4 ⟨rfl, k4⟩; have K4 := k2.trans k4; have D1 := m1.keep (by show 0 < 3; decide) k4 (fun e => e); have D2 := m2.keep (by show 0 < 2; decide) k4 (fun e => e); have y0 := D1.c 0 _ rfl; have y1 := D1.c 1 _ rfl; have y2 := D1.c 2 _ rfl; clear hN m1 m2 k4 k2) | (go_at_call 63; refine (hS _ K4).mono ?_; rintro e w5 ⟨rfl, k5⟩; have K5 := K4.trans k5; have c2 := D2.keep (by show 0 < 2; decide) k5 (fun e => e); have x0 := c2.c 0 _ rfl; have x1 := c2.c 1 _ rfl; have z0 := c2.z 0 (by show 0 < 2; decide); have z1 := c2.z 1 (by show 1 < 2; decide); clear hS K4 D1 D2 k5))
    refine bodyPost_ret (v := .agg #[.bool r, .int .i64 n]) (by rw [results_cell1 rfl]; go_simp) rfl ⟨rfl, ?_⟩
    exact (K5.setCell (fun h => absurd h (by show ¬ (w.heap.size + 1 < w.heap.size); omega)) _).setCell (fun h => absurd h (by show ¬ (w.heap.size + 1 < w.heap.size); omega)) _
  · rw [if_neg hb] at h; cases h
set_option maxHeartbeats 500000 in
set_option maxRecDepth 100000 in
theorem regm_ok {w : World} (t : ByteArray) (ln col : Int) (hs : t.size ≤ 4096) (hv : ErrIs w) (hb : regB t = true) : Calls Tryz.prog 61 #[.agg #[.string t, .int .i64 ln, .int .i64 col]] w fun e w' => e = .returned (.int .i64 (regN t)) ∧ Keeps (fun _ => False) w w' := by
  have hR := fun W (k : Keeps (fun _ => False) w W) => register_any (w := W) t hs (errIs_keep hv k)
  rw [hb] at hR
  have hN := fun W => need_ok W t ln col
  have m1 := CL.made w [.string t, .int .i64 ln, .int .i64 col] 76
  have k2 : Keeps (fun _ => False) w (w.alloc (.cells #[.string t, .int .i64 ln, .int .i64 col] 76)) := (Keeps.refl _ w).alloc _
  generalize regN t = n at *
  go_enter Tryz.func61, Tryz.ntmps61
  go_wp2_with (first | (go_at_call 83; refine (hR _ k2).mono ?_; rintro e w1 ⟨rfl, k1⟩; have K1 := k2.trans k1; have C1 := m1.keep (by show 0 < 3; decide) k1 (fun e => e); have y0 := C1.c 0 _ rfl; have y1 := C1.c 1 _ rfl; have y2 := C1.c 2 _ rfl; clear hR k1 m1 k2) | (go_at_call 65; refine (hN _).mono ?_; rintro e w4 ⟨rfl, k4⟩; have K4 := K1.trans k4; clear hN k4 K1))
  go_ret
  exact ⟨rfl, K4⟩
end Go.Proofs.YtdmfkepnopppaaaGreatDoor
