import Derived.Test.YtepolcnplchfbaaDrawsNew
namespace Go.Proofs.Ytepolcnplchfbaa
open Go.ChangeShapes Go.WideShapes Go.ChangeAt Go.RowKit

/-- A stream of the document in memory: its list (any room behind it), and how far it was gone over. -/
structure IsRd (w : World) (b : Nat) (a : Option Addr) (cap n : Nat) (x : Nat → Int) (k : Nat) : Prop where
  row : w.cell? ⟨b, 0, none⟩ = some (.slice a n cap)
  taken : w.cell? ⟨b, 1, none⟩ = some (.int .i64 (k : Int))
  free : w.frozen? ⟨b, 1, none⟩ = false
  nums : IsRaw w a n x
  le : k ≤ n
  small : n ≤ 140737488351232

theorem refTaken_any {w : World} {b cap n k : Nat} {a : Option Addr} {x : Nat → Int} (h : IsRd w b a cap n x k) :
    Calls Try.prog 13 #[.pointer (some ⟨b, 0, none⟩)] w fun e w' => e = .returned (.int .i64 (k : Int)) ∧ w' = w := by
  have h1 := h.taken
  clear h
  go_enter Try.func13, Try.ntmps13
  go_wp2
  go_ret
  exact ⟨rfl, rfl⟩
theorem refLeft_any {w : World} {b cap n k : Nat} {a : Option Addr} {x : Nat → Int} (h : IsRd w b a cap n x k) :
    Calls Try.prog 15 #[.pointer (some ⟨b, 0, none⟩)] w fun e w' => e = .returned (.int .i64 ((n : Int) - (k : Int))) ∧ ∃ m, w' = w.drewN m := by
  have h1 := h.taken
  have h2 := h.row
  have h3 := h.le
  have h4 := h.small
  clear h
  go_enter Try.func15, Try.ntmps15
  go_wp2
  go_quiet (fail)
  go_wp2
  go_ret
  exact ⟨rfl, _, rfl⟩
set_option maxHeartbeats 1000000 in
theorem refNext_some {w : World} {b cap n k : Nat} {a : Option Addr} {x : Nat → Int} (h : IsRd w b a cap n x k) (hk : k < n) (hb : ∀ p, a = some p → p.block ≠ b) :
    Calls Try.prog 9 #[.pointer (some ⟨b, 0, none⟩)] w fun e w' => e = .returned (.int .i64 (x k)) ∧ ∃ m, w' = (w.setCell ⟨b, 1, none⟩ (.int .i64 ((k : Int) + 1))).drewN m := by
  obtain ⟨r, o, rfl, hr, hc⟩ := h.nums.resolve_left (by omega)
  have hbr : r ≠ b := hb _ rfl
  have h1 := h.taken
  have h2 := h.row
  have h3 := h.le
  have h4 := h.small
  have h5 := h.free
  have h6 := hc k hk
  have h7 : decide ((n : Int) ≤ (k : Int)) = false := by simp; omega
  clear h hc hb
  go_enter Try.func9, Try.ntmps9
  go_wp2
  go_quiet (fail)
  go_wp2
  revert nq
  intro n1
  have c1 : ((w.drewN n1).setCell ⟨b, 1, none⟩ (.int .i64 ((k : Int) + 1))).cell? ⟨b, 1, none⟩ = some (.int .i64 ((k : Int) + 1)) := World.cell?_setCell_same _ _ _ h1
  have c0 : ((w.drewN n1).setCell ⟨b, 1, none⟩ (.int .i64 ((k : Int) + 1))).cell? ⟨b, 0, none⟩ = some (.slice (some ⟨r, o, none⟩) n cap) := by rw [World.cell?_setCell_other _ _ _ _ (by intro e; cases e)]; exact h2
  have c6 : ((w.drewN n1).setCell ⟨b, 1, none⟩ (.int .i64 ((k : Int) + 1))).cell? ⟨r, o + k, none⟩ = some (.int .i64 (x k)) := by rw [World.cell?_setCell_other _ _ _ _ (fun e => hbr (by have := congrArg Addr.block e; simpa using this.symm))]; exact h6
  clear h1 h2 h6 h5
  generalize hw2 : (w.drewN n1).setCell ⟨b, 1, none⟩ (.int .i64 ((k : Int) + 1)) = w2 at *
  have HW : Hid ((w.drewN n1).setCell ⟨b, 1, none⟩ (.int .i64 ((k : Int) + 1)) = w2) := hw2
  clear hw2
  go_quiet (fail)
  go_wp2
  go_ret
  refine ⟨rfl, ?_⟩
  rw [← HW.out]
  exact ⟨n1 + nq, by rw [← World.drewN_drewN]; rfl⟩
theorem refNext_none {w : World} {b cap n k : Nat} {a : Option Addr} {x : Nat → Int} (h : IsRd w b a cap n x k) (hk : k = n) :
    Calls Try.prog 9 #[.pointer (some ⟨b, 0, none⟩)] w fun e w' => e = .returned (.int .i64 0) ∧ ∃ m, w' = w.drewN m := by
  have h1 := h.taken
  have h2 := h.row
  have h4 := h.small
  have h7 : decide ((n : Int) ≤ (k : Int)) = true := by simp; omega
  have h8 : n ≤ k := by omega
  clear h hk
  go_enter Try.func9, Try.ntmps9
  go_wp2
  go_quiet (fail)
  go_wp2
  go_ret
  exact ⟨rfl, _, rfl⟩
theorem refBelow_low (p : Option Addr) (t : Int) (h : t ≤ 1) (w : World) :
    Calls Try.prog 11 #[.pointer p, .int .i64 t] w fun e w' => e = .returned (.int .i64 0) ∧ w' = w := by
  go_enter Try.func11, Try.ntmps11
  go_wp2
  go_ret
  exact ⟨rfl, rfl⟩
set_option maxHeartbeats 1000000 in
theorem refBelow_some {w : World} {b cap n k : Nat} {a : Option Addr} {x : Nat → Int} (h : IsRd w b a cap n x k) (hk : k < n) (hb : ∀ p, a = some p → p.block ≠ b) (t : Int) (ht : 1 < t) (ht2 : In64 t) :
    Calls Try.prog 11 #[.pointer (some ⟨b, 0, none⟩), .int .i64 t] w fun e w' => e = .returned (.int .i64 (urem (x k) t)) ∧ ∃ m, w' = (w.setCell ⟨b, 1, none⟩ (.int .i64 ((k : Int) + 1))).drewN m := by
  have H : Hid (IsRd w b a cap n x k) := h
  have HB : Hid (∀ p, a = some p → p.block ≠ b) := hb
  have hz : ¬ (IntKind.u64.wrap t = 0) := by rw [IntKind.wrap_u64]; unfold In64 at ht2; omega
  clear h hb
  go_enter Try.func11, Try.ntmps11
  go_wp2_with (go_at_call 9; refine (refNext_some H.out hk HB.out).mono ?_; rintro e w1 ⟨rfl, m, rfl⟩)
  go_ret
  exact ⟨rfl, _, rfl⟩
set_option maxHeartbeats 1000000 in
theorem refBelow_none {w : World} {b cap n k : Nat} {a : Option Addr} {x : Nat → Int} (h : IsRd w b a cap n x k) (hk : k = n) (t : Int) (ht : 1 < t) (ht2 : In64 t) :
    Calls Try.prog 11 #[.pointer (some ⟨b, 0, none⟩), .int .i64 t] w fun e w' => e = .returned (.int .i64 0) ∧ ∃ m, w' = w.drewN m := by
  have H : Hid (IsRd w b a cap n x k) := h
  have hz : ¬ (IntKind.u64.wrap t = 0) := by rw [IntKind.wrap_u64]; unfold In64 at ht2; omega
  have HK : Hid (k = n) := hk
  clear h hk
  go_enter Try.func11, Try.ntmps11
  go_wp2_with (go_at_call 9; refine (refNext_none H.out HK.out).mono ?_; rintro e w1 ⟨rfl, m, rfl⟩)
  go_ret
  exact ⟨rfl, _, rfl⟩
end Go.Proofs.Ytepolcnplchfbaa
