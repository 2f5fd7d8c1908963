import Derived.Test.YtgcfckbmmdajhaaLjH
namespace Go.Proofs.Ytgcfckbmmdajhaa
open Go.RowKit
/-- The line, whether there is one, and the error of Search. -/
def SX (l : List Cl) (S : List Nat) (fb : Bool) (ec : Int) : Prop := (8 < l.length ∧ S = [] ∧ fb = false ∧ ec = 170) ∨ (l.length ≤ 8 ∧ ¬ MayL l ∧ S = [] ∧ fb = false ∧ ec = 171) ∨ (l.length ≤ 8 ∧ MayL l ∧ ec = 0 ∧ ((fstL l = some S ∧ fb = true) ∨ (fstL l = none ∧ fb = false ∧ S = [])))
theorem SX.one {l : List Cl} {S S' : List Nat} {b b' : Bool} {e e' : Int} (h : SX l S b e) (h' : SX l S' b' e') : S = S' ∧ b = b' ∧ e = e' := by
  rcases h with ⟨a1, a2, a3, a4⟩ | ⟨a1, a2, a3, a4, a5⟩ | ⟨a1, a2, a3, a4⟩ <;> rcases h' with ⟨b1, b2, b3, b4⟩ | ⟨b1, b2, b3, b4, b5⟩ | ⟨b1, b2, b3, b4⟩
  · exact ⟨a2.trans b2.symm, a3.trans b3.symm, a4.trans b4.symm⟩
  · omega
  · omega
  · omega
  · exact ⟨a3.trans b3.symm, a4.trans b4.symm, a5.trans b5.symm⟩
  · exact absurd b2 a2
  · omega
  · exact absurd a2 b2
  · rcases a4 with ⟨c1, c2⟩ | ⟨c1, c2, c3⟩ <;> rcases b4 with ⟨d1, d2⟩ | ⟨d1, d2, d3⟩
    · rw [c1] at d1
      injection d1 with d1
      exact ⟨d1, c2.trans d2.symm, a3.trans b3.symm⟩
    · rw [c1] at d1
      cases d1
    · rw [c1] at d1
      cases d1
    · exact ⟨c3.trans d3.symm, c2.trans d2.symm, a3.trans b3.symm⟩
theorem fst_len {l : List Cl} {r : List Nat} (h : fstL l = some r) : r.length ≤ l.length := by
  obtain ⟨qs, e, hg, -⟩ := srch_sound l _ _ _ _ h
  have := goL_nodup (l := l) (L := []) (S := []) List.nodup_nil (fun _ h => by cases h) hg
  rw [e]
  exact nodup_le _ _ this.1 this.2
theorem SX.len {l : List Cl} {S : List Nat} {b : Bool} {e : Int} (h : SX l S b e) : S.length ≤ 8 := by
  rcases h with ⟨_, rfl, _⟩ | ⟨_, _, rfl, _⟩ | ⟨h1, _, _, ⟨h2, _⟩ | ⟨_, _, rfl⟩⟩
  · exact Nat.zero_le _
  · exact Nat.zero_le _
  · exact Nat.le_trans (fst_len h2) h1
  · exact Nat.zero_le _
theorem SeA.sx {l : List Cl} {w w' : World} {v : Value} {fb : Bool} {ec : Int} (h : SeA l w w' v fb ec) : ∃ S, SX l S fb ec ∧ w'.ownsRow w.heap.size 3 1 v S.length (pvs S) := by
  rcases h with ⟨h1, rfl, h3, h4⟩ | ⟨h1, h2, rfl, h4, h5⟩ | ⟨h1, h2, h3, h⟩
  · exact ⟨[], .inl ⟨h1, rfl, h3, h4⟩, World.ownsRow_nil _ _ _ _⟩
  · exact ⟨[], .inr (.inl ⟨h1, h2, rfl, h4, h5⟩), World.ownsRow_nil _ _ _ _⟩
  · rcases h with ⟨r, q1, q2, q3⟩ | ⟨q1, q2, rfl⟩
    · exact ⟨r, .inr (.inr ⟨h1, h2, h3, .inl ⟨q1, q2⟩⟩), q3⟩
    · exact ⟨[], .inr (.inr ⟨h1, h2, h3, .inr ⟨q1, q2, rfl⟩⟩), World.ownsRow_nil _ _ _ _⟩
/-- What the document's Search answers. -/
def SeB (l : List Cl) (w w' : World) (v : Value) (fb : Bool) (ec : Int) : Prop := ∃ S sa sc, SX l S fb ec ∧ v = .slice sa S.length sc ∧ PM w' sa S ∧ ∀ b off, sa = some ⟨b, off, none⟩ → w.heap.size ≤ b
theorem pm_nil (w : World) (a : Option Addr) : PM w a [] := fun i hi => absurd hi (by simp)
theorem wpList_store_rowV {w : World} {ops : Array Oper} {rest : List Oper} {o : Oper} {a : Act} {Q : Exit → Act → World → Prop} (hgd : o.guard = none) (hd : o.dst = none) (x y : Operand) (ho : o.op = .store 3 x y) (g j : Nat) (hx : a.eval x = .pointer (some ⟨g, j, none⟩)) (v : Int) (hy : a.eval y = .int .i64 v)
    {base n cap : Nat} {L : List Value} (hO : w.ownsRow base 3 1 (.slice (some ⟨g, 0, none⟩) n cap) n L) (hj : j < L.length) (h : ∀ w1, w1.ownsRow base 3 1 (.slice (some ⟨g, 0, none⟩) n cap) n (L.set j (.int .i64 v)) → Keeps (fun k => k = g) w w1 → wpList Try.prog ops Q rest a w1) : wpList Try.prog ops Q (o :: rest) a w := by
  have hB := own_clL hO
  exact wpList_plain hgd fun _ hK => by
    unfold Oper.wp execOp
    simp only [ho, hx, hy, Instr.storeAt, Instr.sureAddr, Sem.run_bind, Sem.run_pure, Result.andThen_ok, run_store_oneL (by rw [hB.c j _ (List.getElem?_eq_getElem hj)]; rfl) (hB.z j hj) v]
    refine hK _ _ ?_
    rw [hd]
    exact h _ (hO.stored j (.int .i64 v)).1 ((Keeps.refl (fun k => k = g) w).setCell (p := ⟨g, j, none⟩) (fun _ => rfl) _)
end Go.Proofs.Ytgcfckbmmdajhaa
