import Derived.Test.YtclednbclgkdaaaGreatDoorPhI
namespace Go.Proofs.YtclednbclgkdaaaGreatDoor
open Go.RowKit Go.Deep Go.ChangeShapes Go.WideShapes Go.ChangeAt
attribute [local go_sem] Oper.semAt_some run_store_nf run_store_f
def txt1 : ByteArray := ⟨#[116, 97, 107, 101, 32, 114, 50, 32, 64, 114, 49, 10, 120, 111, 114, 32, 114, 50, 32, 114, 50, 32, 55]⟩
theorem rd1 : rd (lns txt1) 0 [] = some [(⟨2, 2, true, 1, false, 0, false, 0, 0, 0, 0⟩ : Ins), (⟨6, 2, false, 0, true, 2, false, 7, 8, 0, 0⟩ : Ins)] := by kernel_rfl
theorem ln1 : ∀ x ∈ lns txt1, x.size ≤ 4096 := by
  have h : lns txt1 = [⟨#[116, 97, 107, 101, 32, 114, 50, 32, 64, 114, 49]⟩, ⟨#[120, 111, 114, 32, 114, 50, 32, 114, 50, 32, 55]⟩] := by kernel_rfl
  rw [h]
  intro x hx
  rcases (by simpa using hx : x = _ ∨ x = _) with rfl | rfl <;> decide
/-- A store of many cells in a drawn region; the world behind it is a letter. -/
theorem wpAnyH_storeL {P : Program} {ops : Array Oper} {Q : Exit → Act → World → Prop} {md : Region.Mode} {S : World → Prop} {fuel : Nat} {listed : Array Bool} {a : Act} {w : World} {o : Oper} (i : Nat) (hr : Region.ready md ops listed = [i]) (hoi : ops[i]? = some o) (hgd : o.guard = none)
    (ty : TypeId) (x y : Operand) (ho : o.op = .store ty x y) (b n : Nat) (cells : Array Value) (hx : a.eval x = .pointer (some ⟨b, 0, none⟩)) (hy : a.eval y = .agg cells) (hn : cells.size = n) {l : List Value} (hC : CL w b l) (hl : l.length = n) (hi : (P.info? ty).map (·.size) = some n) (h1 : cells.all (·.oneCell') = true)
    (hS : ∀ w1, Keeps (fun k => k = b) w w1 → S w1) (h : ∀ w1, CL w1 b cells.toList → Keeps (fun k => k = b) w w1 → S w1 → wpAnyH P md ops Q S fuel (listed.setIfInBounds i true) (a.put o.dst undef) w1) : wpAnyH P md ops Q S (fuel + 1) listed a w := by
  have kk : Keeps (fun k => k = b) w (w.setCells b 0 cells.toList) := (Keeps.refl _ w).setsA _ _
  have cc : CL (w.setCells b 0 cells.toList) b cells.toList := by
    have h2 := hC.sets (o := 0) (vs := cells.toList) (by simp; omega)
    have e : sets l 0 cells.toList = cells.toList := by
      unfold sets
      rw [List.take_zero, List.nil_append, List.drop_eq_nil_of_le (by simp; omega), List.append_nil]
    rw [e] at h2
    exact h2
  exact wpAnyH_store i hr hoi hgd ty x y ho b 0 n cells hx hy hn (hC.there (by omega)) hi h1 (hS _ kk) (fun hs => h _ cc kk hs)
theorem store_q' {W : World} {b : Nat} (h : CL W b ins0.cells) (q : Ins) : CL (W.setCells b 0 q.cells.toArray.toList) b q.cells ∧ Keeps (fun k => k = b) W (W.setCells b 0 q.cells.toArray.toList) := ⟨h.sets (by show 0 + 11 ≤ 11; decide), (Keeps.refl _ W).setsA _ _⟩
end Go.Proofs.YtclednbclgkdaaaGreatDoor
