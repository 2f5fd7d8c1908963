import Derived.Test.YtpjfaggpliagdaaDoorLgH
namespace Go.Proofs.YtpjfaggpliagdaaDoor
open Go.RowKit
attribute [local go_sem] Oper.semAt_some run_store_nf run_store_f
theorem ins_len (q : Ins) : q.cells.length = 11 := rfl
theorem icl_get : ∀ (l : List Ins) (i j : Nat) (v : Value), i < l.length → (l.getD i ins0).cells[j]? = some v → (icl l)[i * 11 + j]? = some v
  | [], _, _, _, h, _ => by simp at h
  | q :: l, 0, j, v, _, hv => by
    have hv : q.cells[j]? = some v := hv
    have hj : j < q.cells.length := (List.getElem?_eq_some_iff.1 hv).1
    show (q.cells ++ l.flatMap Ins.cells)[0 * 11 + j]? = some v
    rw [Nat.zero_mul, Nat.zero_add, List.getElem?_append_left hj]; exact hv
  | q :: l, i + 1, j, v, h, hv => by
    have hv : (l.getD i ins0).cells[j]? = some v := hv
    have h' : i < l.length := by simpa using h
    show (q.cells ++ l.flatMap Ins.cells)[(i + 1) * 11 + j]? = some v
    rw [List.getElem?_append_right (by rw [ins_len]; omega), ins_len, show (i + 1) * 11 + j - 11 = i * 11 + j by omega]
    exact icl_get l i j v h' hv
theorem isl_of_owns {W : World} {base n : Nat} {v : Value} {l : List Ins} (h : W.ownsRow base 36 11 v n (icl l)) (hn : l.length = n) : ∃ a cap, v = .slice a n cap ∧ ISL W a l := by
  rcases h.2 with ⟨rfl, h0⟩ | ⟨g, cap, cur, rfl, _⟩
  · have hz : n = 0 := by first | exact h0.1 | omega
    subst hz
    exact ⟨none, 0, rfl, fun i hi => by omega⟩
  · refine ⟨_, cap, rfl, fun i hi => ⟨g, 0, rfl, fun j v hv => ?_⟩⟩
    have e := icl_get l i j v hi hv
    have hc := h.cells (g := g) rfl (i * 11 + j) v e
    rw [add_at] at hc
    rw [Nat.zero_add] at hc ⊢
    exact hc
set_option maxHeartbeats 500000 in
set_option maxRecDepth 1000000 in
theorem checks_any {w : World} {a : Option Addr} {cap : Nat} {l : List Ins} (hT : LT w) (hl : ISL w a l) (hlen : l.length * 88 ≤ 140737488355328) : Calls Tryd.prog 3 #[.slice a l.length cap] w fun e w' => e = .returned (.bool true) ∧ Below w.heap.size w w' := by
  have hP := prog_any (cap := cap) hl hlen
  have hCk := fun W a cap (hT : LT W) (hl : ISL W a l) => check_any (w := W) (cap := cap) (a := a) hT hl (by omega)
  have hRk := fun W (hl : ISL W a l) => rcheck_any (w := W) (cap := cap) hl (by omega)
  have hFix : ∀ W, LT W → Calls Tryd.prog 5 #[.slice (some ⟨W.heap.size, 0, none⟩) 2 2] (W.alloc (.cells #[.int .i64 8, .int .i64 0, .bool false, .int .i64 0, .bool false, .int .i64 0, .bool false, .int .i64 0, .int .i64 0, .int .i64 0, .int .i64 3, .int .i64 9, .int .i64 0, .bool false, .int .i64 0, .bool false, .int .i64 0, .bool false, .int .i64 0, .int .i64 0, .int .i64 0, .int .i64 1] 36)) fun e w' => e = .returned (.tuple #[.int .i64 108, .int .i64 0]) ∧ Keeps (fun _ => False) W w' := fun W hW => by
    have k1 : Keeps (fun _ => False) W (W.alloc (.cells (icl [⟨8, 0, false, 0, false, 0, false, 0, 0, 0, 3⟩, ⟨9, 0, false, 0, false, 0, false, 0, 0, 0, 1⟩]).toArray 36)) := (Keeps.refl _ W).alloc _
    have hI : ISL (W.alloc (.cells (icl [⟨8, 0, false, 0, false, 0, false, 0, 0, 0, 3⟩, ⟨9, 0, false, 0, false, 0, false, 0, 0, 0, 1⟩]).toArray 36)) (some ⟨W.heap.size, 0, none⟩) [⟨8, 0, false, 0, false, 0, false, 0, 0, 0, 3⟩, ⟨9, 0, false, 0, false, 0, false, 0, 0, 0, 1⟩] := fun i hi => ⟨_, 0, rfl, fun j v hv => by
      rw [Nat.zero_add]
      exact (CL.made W (icl [⟨8, 0, false, 0, false, 0, false, 0, 0, 0, 3⟩, ⟨9, 0, false, 0, false, 0, false, 0, 0, 0, 1⟩]) 36).c _ v (icl_get _ i j v hi hv)⟩
    exact (check_any (cap := 2) (hW.keep k1) hI (by decide)).mono (fun e w' h => ⟨h.1, k1.trans h.2⟩)
  go_enter Tryd.func3, Tryd.ntmps3
  go_wp2_with fail
  refine hP.mono ?_
  rintro e w1 ⟨v, rfl, ho, k1⟩
  obtain ⟨a1, cap1, rfl, h1⟩ := isl_of_owns ho rfl
  have c1 := hCk w1 a1 cap1 (hT.keep k1) h1
  generalize chk l = ck at *
  obtain ⟨ce, ci⟩ := ck
  simp only at c1 hRk
  clear hP ho hCk
  go_wp2_with fail
  refine c1.mono ?_
  rintro e w2 ⟨rfl, k2⟩
  have r2 := hRk w2 (hl.keep (k1.trans k2))
  clear c1 hRk h1
  go_wp2_with fail
  refine r2.mono ?_
  rintro e w3 ⟨rfl, k3⟩
  have f3 := hFix w3 (hT.keep ((k1.trans k2).trans k3))
  clear r2 hFix
  go_wp2_with fail
  refine f3.mono ?_
  rintro e w4 ⟨rfl, k4⟩
  clear f3
  go_wp2_with fail
  go_ret
  exact ⟨rfl, (((k1.trans k2).trans k3).trans k4).below (Nat.le_refl _) (fun _ _ e => e)⟩
end Go.Proofs.YtpjfaggpliagdaaDoor
