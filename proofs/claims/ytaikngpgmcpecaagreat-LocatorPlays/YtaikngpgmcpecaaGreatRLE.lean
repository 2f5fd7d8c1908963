import Derived.Test.YtaikngpgmcpecaaGreatRLC
namespace Go.Proofs.YtaikngpgmcpecaaGreat
open Go.RowKit
section
variable {W : World} {base e g n cap : Nat} {L : List Vl} {j i : Nat} {a b : Vl} {u : Value}
theorem stw1 (own : W.ownsRow base e 3 (.slice (some ⟨g, 0, none⟩) n cap) n (fl vc3 (L.set j a))) (hj : j < L.length) (hi : i < 3) (hb : vc3 b = (vc3 a).set i u) :
    (W.setCell ⟨g, j * 3 + i, none⟩ u).ownsRow base e 3 (.slice (some ⟨g, 0, none⟩) n cap) n (fl vc3 (L.set j b)) := by
  have h := (own.stored (j * 3 + i) u).1
  have e1 := fl_set vc3_len (L.set j a) j i a b u (by rw [List.getElem?_set, if_pos rfl, if_pos hj]) hi hb
  rw [List.set_set] at e1
  rw [e1]
  exact h
/-- A value is written. -/
def sev3 (W : World) (g o : Nat) (v : Vl) : World := ((W.setCell ⟨g, o, none⟩ (.int .i64 v.num)).setCell ⟨g, o + 1, none⟩ (.int .i64 v.next)).setCell ⟨g, o + 2, none⟩ (.bool v.dead)
theorem stw3 (own : W.ownsRow base e 3 (.slice (some ⟨g, 0, none⟩) n cap) n (fl vc3 L)) (hj : j < L.length) (v : Vl) :
    (sev3 W g (j * 3) v).ownsRow base e 3 (.slice (some ⟨g, 0, none⟩) n cap) n (fl vc3 (L.set j v)) ∧ Keeps (fun k => k = g) W (sev3 W g (j * 3) v) := by
  have e0 : L.set j (L.getD j vl0) = L := by
    apply List.ext_getElem?
    intro i
    rw [List.getElem?_set]
    by_cases h : j = i
    · subst h; rw [if_pos rfl, if_pos hj, getD_get hj]
    · rw [if_neg h]
  rw [← e0] at own
  generalize L.getD j vl0 = x at own
  have h0 := stw1 (i := 0) (b := { x with num := v.num }) own hj (by omega) rfl
  have h1 := stw1 (i := 1) (b := { x with num := v.num, next := v.next }) h0 hj (by omega) rfl
  have h2 := stw1 (i := 2) (b := v) h1 hj (by omega) rfl
  exact ⟨h2, ((keeps_set W g (j * 3) _).trans (keeps_set _ g (j * 3 + 1) _)).trans (keeps_set _ g (j * 3 + 2) _)⟩
end
section
variable {w w' w1 W0 : World} {qb rb : Nat} {sv : Nat → Value} {σ : Nat → Nat} {B D : Nat → Prop} {s s' : Ws} {m : Mm}
theorem dsw_put {i : Nat} {v : Vl} : dsw (s.put i v) = uf (dsw s) 5 ⟨37, 3, s.vals.length, fl vc3 (s.vals.set i v)⟩ := by
  funext o
  unfold uf
  by_cases e : o = 5
  · subst e
    simp [dsw, Ws.put]
  · rw [if_neg e]
    unfold dsw
    by_cases e1 : o = 1
    · rw [if_pos e1, if_pos e1]; rfl
    · rw [if_neg e1, if_neg e1]
      by_cases e2 : o = 2
      · rw [if_pos e2, if_pos e2]; rfl
      · rw [if_neg e2, if_neg e2]
        by_cases e3 : o = 3
        · rw [if_pos e3, if_pos e3]; rfl
        · rw [if_neg e3, if_neg e3]
          by_cases e4 : o = 4
          · rw [if_pos e4, if_pos e4]; rfl
          · rw [if_neg e4, if_neg e4, if_neg e, if_neg e]
end
end Go.Proofs.YtaikngpgmcpecaaGreat
