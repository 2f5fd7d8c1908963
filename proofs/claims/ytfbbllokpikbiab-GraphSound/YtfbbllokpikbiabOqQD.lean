import Derived.Test.YtfbbllokpikbiabOqQC
namespace Go.Proofs.Ytfbbllokpikbiab
open Go.RowKit Go.Maps

set_option maxHeartbeats 1600000 in
set_option maxRecDepth 1000000 in
/-- Take. -/
theorem take_any {w : World} {qb : Nat} {xs : List It} {F : List Nat} (h : QI w qb xs F) :
    Calls Try.prog 45 #[.pointer (some ⟨qb, 0, none⟩)] w fun e w' =>
      (xs = [] ∧ e = .returned (.tuple #[.agg #[.int .i64 0, .int .i64 0], .int .i64 20]) ∧ QI w' qb xs F ∧ Keeps (fun _ => False) w w') ∨
      (0 < xs.length ∧ ∃ x ys F', e = .returned (.tuple #[.agg #[.int .i64 x.1, .int .i64 x.2], .int .i64 0]) ∧ QI w' qb ys F' ∧ (x :: ys).Perm xs ∧ (∀ y ∈ xs, bef y x = false) ∧ Left w w' F F') := by
  have K0 : Keeps (fun _ => False) w (w.alloc (.cells #[.int .i64 0, .int .i64 0] 76)) := (Keeps.refl _ w).alloc _
  have r0 : (w.alloc (.cells #[.int .i64 0, .int .i64 0] 76)).cell? ⟨w.heap.size, 0, none⟩ = some (.int .i64 0) := by simp
  have r1 : (w.alloc (.cells #[.int .i64 0, .int .i64 0] 76)).cell? ⟨w.heap.size, 1, none⟩ = some (.int .i64 0) := by simp
  have y0 : (w.alloc (.cells #[.int .i64 0, .int .i64 0] 76)).frozen? ⟨w.heap.size, 0, none⟩ = false := by simp
  have y1 : (w.alloc (.cells #[.int .i64 0, .int .i64 0] 76)).frozen? ⟨w.heap.size, 1, none⟩ = false := by simp
  have sz0 : (w.alloc (.cells #[.int .i64 0, .int .i64 0] 76)).heap.size = w.heap.size + 1 := by simp
  have hF : ∀ k ∈ F, k < w.heap.size := h.lt
  have h0 := h.keep K0 (fun _ _ e => e)
  by_cases hn : xs.length = 0
  · have hnil : Hid (xs = []) := List.eq_nil_of_length_eq_zero hn
    have hnI : ((xs.length : Int) == 0) = true := by simp [hn]
    go_enter Try.func45, Try.ntmps45
    go_wp2_with fail
    refine (len_any h0).mono ?_
    rintro e w' ⟨rfl, rfl⟩
    have hn' : Hid (xs.length = 0) := hn
    clear hn
    go_wp2_with fail
    (try simp only [Exit.inBlock, Exit.then])
    refine bodyPost_ret (v := .tuple #[.agg #[.int .i64 0, .int .i64 0], .int .i64 20]) ?_ rfl (.inl ⟨hnil.out, rfl, ?_, ?_⟩)
    · rw [results_cell_tmp rfl]
      go_simp
    · exact h0
    · exact K0
  · have hpos : 0 < xs.length := by omega
    have hnI : ((xs.length : Int) == 0) = false := by rw [beq_eq_false_iff_ne]; omega
    have hq : ∃ v pm mb M, QReady (w.alloc (.cells #[.int .i64 0, .int .i64 0] 76)) qb v pm mb M xs ∧ F = qb :: pm :: mb :: v.ownBlock.toList := by
      rcases h0 with ⟨e, _⟩ | h0
      · rw [e] at hpos; simp at hpos
      · exact h0
    obtain ⟨v, pm, mb, M, hq, eF⟩ := hq
    go_enter Try.func45, Try.ntmps45
    go_wp2_with fail
    refine (len_any h0).mono ?_
    rintro e w' ⟨rfl, rfl⟩
    go_wp2_with fail
    refine (qcut_any hq (p := 0) hpos).mono ?_
    rintro e w1 ⟨rfl, v', M', ys, hq1, hv1, hp1, k1⟩
    have nR : ¬ (w.heap.size = qb ∨ w.heap.size = mb ∨ v.ownBlock = some w.heap.size) := fun e => by
      rcases e with e | e | e
      · have := hF qb (by rw [eF]; simp); omega
      · have := hF mb (by rw [eF]; simp); omega
      · have := hF w.heap.size (by rw [eF]; simp [e]); omega
    have R0 := k1.cell r0 nR
    have R1 := k1.cell r1 nR
    have Y0 := (k1.frozen (p := ⟨w.heap.size, 0, none⟩) (by show w.heap.size < _; omega) nR).trans y0
    have Y1 := (k1.frozen (p := ⟨w.heap.size, 1, none⟩) (by show w.heap.size < _; omega) nR).trans y1
    have hleast : ∀ y ∈ xs, bef y (ia xs 0) = false := fun y hy => by
      obtain ⟨i, hi, rfl⟩ := List.getElem_of_mem hy
      have := hq.heap.top bef_lin i hi
      rw [ia_get hi] at this; exact this
    obtain ⟨x, hx⟩ : ∃ x, ia xs 0 = x := ⟨_, rfl⟩
    rw [hx] at hleast hp1 ⊢
    clear hx r0 r1 y0 y1
    go_wp2_with fail
    (try simp only [Exit.inBlock, Exit.then])
    have kf : Keeps (fun k => k = w.heap.size) w1 ((w1.setCell ⟨w.heap.size, 0, none⟩ (.int .i64 x.1)).setCell ⟨w.heap.size, 1, none⟩ (.int .i64 x.2)) :=
      Keeps.setCell (S := fun k => k = w.heap.size) (p := ⟨w.heap.size, 1, none⟩) (Keeps.setCell (S := fun k => k = w.heap.size) (p := ⟨w.heap.size, 0, none⟩) (Keeps.refl _ w1) (fun _ => rfl) _) (fun _ => rfl) _
    have hq2 : QI w1 qb ys F := .inr ⟨v', pm, mb, M', hq1, by rw [hv1]; exact eF⟩
    have hq3 := hq2.keep kf (fun k hk e => by have := hF k hk; omega)
    refine bodyPost_ret (v := .tuple #[.agg #[.int .i64 x.1, .int .i64 x.2], .int .i64 0]) ?_ rfl (.inr ⟨hpos, x, ys, F, rfl, hq3, hp1, hleast, ?_, fun k hk => .inl hk⟩)
    · rw [results_cell_tmp rfl]
      go_simp
    · refine ((K0.mono (T := fun k => k ∈ F) (fun _ _ e => e.elim)).trans' k1 (U := fun k => k ∈ F) (fun _ _ e => e) (fun i hi e => ?_)).trans' kf (fun _ _ e => e) (fun i hi e => by omega)
      rcases e with e | e | e
      · rw [e, eF]; simp
      · rw [e, eF]; simp
      · rw [eF]; simp [e]

end Go.Proofs.Ytfbbllokpikbiab
