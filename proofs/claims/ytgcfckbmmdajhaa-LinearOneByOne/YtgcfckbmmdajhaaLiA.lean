import Derived.Test.YtgcfckbmmdajhaaTxSt
namespace Go.Proofs.Ytgcfckbmmdajhaa
open Go.RowKit
/-- A call. -/
structure Cl where
  kind : Int
  key : Int
  other : Int
  yes : Bool
  result : Int
  from_ : Int
  point : Int
  to_ : Int
def Cl.cells (c : Cl) : List Value := [.int .i64 c.kind, .int .i64 c.key, .int .i64 c.other, .bool c.yes, .int .i64 c.result, .int .i64 c.from_, .int .i64 c.point, .int .i64 c.to_]
def cl0 : Cl := ⟨0, 0, 0, false, 0, 0, 0, 0⟩
instance : Inhabited Cl := ⟨cl0⟩
structure CB (w : World) (b : Nat) (c : Cl) : Prop where
  cl : CL w b c.cells
  c0 : w.cell? ⟨b, 0, none⟩ = some (.int .i64 c.kind)
  c1 : w.cell? ⟨b, 1, none⟩ = some (.int .i64 c.key)
  c2 : w.cell? ⟨b, 2, none⟩ = some (.int .i64 c.other)
  c3 : w.cell? ⟨b, 3, none⟩ = some (.bool c.yes)
  c4 : w.cell? ⟨b, 4, none⟩ = some (.int .i64 c.result)
  c5 : w.cell? ⟨b, 5, none⟩ = some (.int .i64 c.from_)
  c6 : w.cell? ⟨b, 6, none⟩ = some (.int .i64 c.point)
  c7 : w.cell? ⟨b, 7, none⟩ = some (.int .i64 c.to_)
theorem CB.of {w : World} {b : Nat} {c : Cl} (h : CL w b c.cells) : CB w b c := ⟨h, h.c 0 _ rfl, h.c 1 _ rfl, h.c 2 _ rfl, h.c 3 _ rfl, h.c 4 _ rfl, h.c 5 _ rfl, h.c 6 _ rfl, h.c 7 _ rfl⟩
theorem cl_box (w : World) (c : Cl) : ∃ w0, w0 = w.alloc (.cells c.cells.toArray 33) ∧ Keeps (fun _ => False) w w0 ∧ CB w0 w.heap.size c ∧ w0.heap.size = w.heap.size + 1 := ⟨_, rfl, (Keeps.refl _ w).alloc _, CB.of (CL.made w _ _), by simp⟩
/-- Has a call answered? -/
def ansD (c : Cl) : Bool := c.to_ != -1
/-- May a call be, by itself? -/
def mayP (c : Cl) : Bool := if c.kind < 1 ∨ 6 < c.kind ∨ c.from_ < 0 then false else if c.point = -1 then c.to_ == -1 else decide (c.from_ < c.point) && (c.to_ == -1 || decide (c.point < c.to_))
set_option maxHeartbeats 600000 in
set_option maxRecDepth 100000 in
theorem answered_any (w : World) (c : Cl) : Calls Try.prog 24 #[.agg c.cells.toArray] w fun e w' => e = .returned (.bool (ansD c)) ∧ Keeps (fun _ => False) w w' := by
  obtain ⟨w0, e0, k0, hb, -⟩ := cl_box w c
  have c7 := hb.c7
  clear hb
  go_enter Try.func24, Try.ntmps24
  refine wp_seq_k (fun KK hKK => ?_)
  have hKH : Hid _ := hKK
  clear hKK
  go_wp2_with fail
  refine hKH.out _ _ ?_
  clear hKH KK
  rw [← e0]
  clear e0
  unfold ansD
  generalize c.to_ = t at *
  go_wp2
  go_ret
  exact ⟨rfl, k0⟩
set_option maxHeartbeats 1000000 in
set_option maxRecDepth 100000 in
theorem mayBe_any (w : World) (c : Cl) : Calls Try.prog 19 #[.agg c.cells.toArray] w fun e w' => e = .returned (.bool (mayP c)) ∧ Keeps (fun _ => False) w w' := by
  obtain ⟨w0, e0, k0, hb, -⟩ := cl_box w c
  obtain ⟨-, c0, -, -, -, -, c5, c6, c7⟩ := hb
  go_enter Try.func19, Try.ntmps19
  refine wp_seq_k (fun KK hKK => ?_)
  have hKH : Hid _ := hKK
  clear hKK
  go_wp2_with fail
  refine hKH.out _ _ ?_
  clear hKH KK
  rw [← e0]
  clear e0
  unfold mayP
  generalize c.to_ = t at *
  generalize c.point = p at *
  generalize c.from_ = f at *
  generalize c.kind = k at *
  by_cases h1 : k < 1
  · rw [if_pos (.inl h1)]
    have d1 : decide (k < 1) = true := decide_eq_true h1
    go_wp2; go_ret; exact ⟨rfl, k0⟩
  have d1 : decide (k < 1) = false := decide_eq_false h1
  by_cases h2 : 6 < k
  · rw [if_pos (.inr (.inl h2))]
    have d2 : decide (6 < k) = true := decide_eq_true h2
    go_wp2; go_ret; exact ⟨rfl, k0⟩
  have d2 : decide (6 < k) = false := decide_eq_false h2
  by_cases h3 : f < 0
  · rw [if_pos (.inr (.inr h3))]
    have d3 : decide (f < 0) = true := decide_eq_true h3
    go_wp2; go_ret; exact ⟨rfl, k0⟩
  have d3 : decide (f < 0) = false := decide_eq_false h3
  rw [if_neg (fun h => by rcases h with h | h | h <;> omega)]
  by_cases h4 : p = -1
  · rw [if_pos h4]
    have d4 : (p == -1) = true := by simp [h4]
    clear h4
    go_wp2; go_ret; exact ⟨rfl, k0⟩
  have d4 : (p == -1) = false := by simp [h4]
  rw [if_neg h4]
  cases d5 : decide (f < p) <;> cases d6 : (t == -1) <;> cases d7 : decide (p < t) <;> (go_wp2; go_ret; exact ⟨rfl, k0⟩)
end Go.Proofs.Ytgcfckbmmdajhaa
