import Derived.Test.YtmcchconnfoffabCmP
namespace Go.Proofs.Ytmcchconnfoffab
open Go.RowKit
/-- A conflict in a block, a verdict in a block. -/
def CB (w : World) (b : Nat) (c : Cf) : Prop :=
  w.cell? ⟨b, 0, none⟩ = some (.int .i64 c.mine) ∧ w.cell? ⟨b, 1, none⟩ = some (.int .i64 c.theirs) ∧ w.cell? ⟨b, 2, none⟩ = some (.int .i64 c.born) ∧ w.cell? ⟨b, 3, none⟩ = some (.int .i64 c.enemy) ∧ w.cell? ⟨b, 4, none⟩ = some (.bool c.flag) ∧ w.cell? ⟨b, 5, none⟩ = some (.int .i64 c.tries) ∧ w.cell? ⟨b, 6, none⟩ = some (.int .i64 c.waited) ∧ w.cell? ⟨b, 7, none⟩ = some (.int .i64 c.draw)
theorem CB.keep {w w' : World} {b : Nat} {c : Cf} (h : CB w b c) (k : Keeps (fun _ => False) w w') : CB w' b c :=
  ⟨k.cell h.1 id, k.cell h.2.1 id, k.cell h.2.2.1 id, k.cell h.2.2.2.1 id, k.cell h.2.2.2.2.1 id, k.cell h.2.2.2.2.2.1 id, k.cell h.2.2.2.2.2.2.1 id, k.cell h.2.2.2.2.2.2.2 id⟩
theorem CB.mk (w : World) (c : Cf) : CB (w.alloc (.cells #[.int .i64 c.mine, .int .i64 c.theirs, .int .i64 c.born, .int .i64 c.enemy, .bool c.flag, .int .i64 c.tries, .int .i64 c.waited, .int .i64 c.draw] 23)) w.heap.size c := by
  refine ⟨?_, ?_, ?_, ?_, ?_, ?_, ?_, ?_⟩ <;> simp
def VB (w : World) (b : Nat) (v : Vd) : Prop :=
  w.cell? ⟨b, 0, none⟩ = some (.bool v.a) ∧ w.cell? ⟨b, 1, none⟩ = some (.bool v.t) ∧ w.cell? ⟨b, 2, none⟩ = some (.int .i64 v.n)
theorem VB.keep {w w' : World} {b : Nat} {v : Vd} (h : VB w b v) (k : Keeps (fun _ => False) w w') : VB w' b v := ⟨k.cell h.1 id, k.cell h.2.1 id, k.cell h.2.2 id⟩
theorem VB.mk (w : World) (v : Vd) : VB (w.alloc (.cells #[.bool v.a, .bool v.t, .int .i64 v.n] 28)) w.heap.size v := by
  refine ⟨?_, ?_, ?_⟩ <;> simp
theorem judge_x {W : World} {b K : Nat} {p : Int} (M : Mg W b K p) {mine theirs born enemy : Int} {flag : Bool} {tries waited draw : Int} (hc : Cf.ok ⟨mine, theirs, born, enemy, flag, tries, waited, draw⟩) {va vt : Bool} {vn : Int} (hv : judgev K p (Cf.norm ⟨mine, theirs, born, enemy, flag, tries, waited, draw⟩) = ⟨va, vt, vn⟩) :
    Calls Try.prog 10 #[.pointer (some ⟨b, 0, none⟩), .agg #[.int .i64 mine, .int .i64 theirs, .int .i64 born, .int .i64 enemy, .bool flag, .int .i64 tries, .int .i64 waited, .int .i64 draw]] W fun e w' => e = .returned (.agg #[.bool va, .bool vt, .int .i64 vn]) ∧ Keeps (fun _ => False) W w' := by
  have h := judge_any M _ hc
  rw [hv] at h
  exact h
theorem formed_x (W : World) {K : Nat} (hK : K < 5) {va vt : Bool} {vn : Int} (hv : Fm K ⟨va, vt, vn⟩) :
    Calls Try.prog 11 #[.agg #[.bool va, .bool vt, .int .i64 vn], .int .i64 (K : Int)] W fun e w' => e = .returned (.bool true) ∧ Keeps (fun _ => False) W w' := by
  have h := formed_ok W hK hv
  simp only [vdv] at h
  exact h
end Go.Proofs.Ytmcchconnfoffab
