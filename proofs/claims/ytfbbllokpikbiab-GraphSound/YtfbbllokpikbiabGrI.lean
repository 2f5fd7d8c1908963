import Derived.Test.YtfbbllokpikbiabGrH
namespace Go.Proofs.Ytfbbllokpikbiab
open Go.RowKit Go.Deep
attribute [local go_sem] Oper.semAt_some run_store_nf run_store_f
theorem el_made (W : World) (l : List Ed) : EL (W.alloc (.cells (ecl l).toArray 30)) (some ⟨W.heap.size, 0, none⟩) l := fun i hi => ⟨_, 0, rfl, fun j v hv => by
  have := (CL.made W (ecl l) 30).c (i * 4 + j) v (ecl_get l i hi j v hv)
  rw [Nat.zero_add]
  exact this⟩
def e10 : Ed := ⟨1, 0, 0, 0⟩
def e01 : Ed := ⟨0, 1, 0, 0⟩
def e12 : Ed := ⟨1, 2, 0, 0⟩
theorem one_reach (W : World) : Calls Try.prog 8 #[.int .i64 2, .slice (some ⟨W.heap.size, 0, none⟩) 1 1, .int .i64 1, .int .i64 0] (W.alloc (.cells e10.cells.toArray 30)) fun e w' => e = .returned (.tuple #[.bool true, .int .i64 0]) ∧ Keeps (fun _ => False) W w' := by
  have h := Reaches_any (cap := 1) (l := [e10]) 2 1 0 (el_made W [e10]) (by decide)
  refine h.mono ?_
  rintro e w' ⟨x, ec, rfl, hA, k⟩
  have hA2 : ReA 2 [e10] 1 0 true 0 := .inr (.inr ⟨by decide, by decide, rfl, fun g e => ⟨fun _ => ?_, fun _ => rfl⟩⟩)
  · obtain ⟨rfl, rfl⟩ := hA.one hA2
    exact ⟨rfl, ((Keeps.refl _ W).alloc _).trans k⟩
  · have e2 : [e10] = [(⟨1, 0, 0, 0⟩ : Eg)].map Eg.ed := rfl
    rw [e2] at e
    rw [← eg_inj e]
    exact ⟨1, .one (⟨1, 0, 0, 0⟩ : Eg) (by simp)⟩
theorem two_reach (W : World) : Calls Try.prog 8 #[.int .i64 3, .slice (some ⟨W.heap.size, 0, none⟩) 2 2, .int .i64 0, .int .i64 2] (W.alloc (.cells (e01.cells ++ e12.cells).toArray 30)) fun e w' => e = .returned (.tuple #[.bool true, .int .i64 0]) ∧ Keeps (fun _ => False) W w' := by
  have h := Reaches_any (cap := 2) (l := [e01, e12]) 3 0 2 (el_made W [e01, e12]) (by decide)
  refine h.mono ?_
  rintro e w' ⟨x, ec, rfl, hA, k⟩
  have hA2 : ReA 3 [e01, e12] 0 2 true 0 := .inr (.inr ⟨by decide, by decide, rfl, fun g e => ⟨fun _ => ?_, fun _ => rfl⟩⟩)
  · obtain ⟨rfl, rfl⟩ := hA.one hA2
    exact ⟨rfl, ((Keeps.refl _ W).alloc _).trans k⟩
  · have e2 : [e01, e12] = [(⟨0, 1, 0, 0⟩ : Eg), ⟨1, 2, 0, 0⟩].map Eg.ed := rfl
    rw [e2] at e
    rw [← eg_inj e]
    exact ⟨2, .more (⟨0, 1, 0, 0⟩ : Eg) (by simp) (.one (⟨1, 2, 0, 0⟩ : Eg) (by simp))⟩
set_option maxHeartbeats 1000000 in
set_option maxRecDepth 100000 in
theorem Parts_no {w : World} {a : Option Addr} {cap : Nat} {l : List Ed} (n : Int) (hl : EL w a l) (hlen : l.length ≤ 4398046511104) (h0 : fltG n l ≠ 0) : Calls Try.prog 14 #[.int .i64 n, .slice a l.length cap] w fun e w' => e = .returned (.tuple #[.slice none 0 0, .int .i64 (fltG n l)]) ∧ Keeps (fun _ => False) w w' := by
  have hfa := fault_any (cap := cap) n hl hlen
  have s1 : (fltG n l == 0) = false := by rw [beq_eq_false_iff_ne]; exact h0
  have s2 : (fltG n l != 0) = true := by rw [bne_iff_ne]; exact h0
  clear h0
  generalize fltG n l = R at *
  generalize l.length = N at *
  go_enter Try.func14, Try.ntmps14
  go_wp2_with (go_at_call 17; refine hfa.mono ?_; clear hfa; rintro e w1 ⟨rfl, k1⟩)
  go_ret2
  exact ⟨rfl, k1⟩
end Go.Proofs.Ytfbbllokpikbiab
