import Derived.Test.YtgcfckbmmdajhaaLjE
namespace Go.Proofs.Ytgcfckbmmdajhaa
open Go.RowKit
/-- The numbers and the error of Keys. -/
def KX (l : List Cl) (S : List Int) (ec : Int) : Prop := (ec = 0 ∧ MayL l ∧ S = keyL l) ∨ (ec = 171 ∧ ¬ MayL l ∧ S = [])
theorem KX.one {l : List Cl} {S S' : List Int} {e e' : Int} (h : KX l S e) (h' : KX l S' e') : S = S' ∧ e = e' := by
  rcases h with ⟨a1, a2, a3⟩ | ⟨a1, a2, a3⟩ <;> rcases h' with ⟨b1, b2, b3⟩ | ⟨b1, b2, b3⟩
  · exact ⟨a3.trans b3.symm, a1.trans b1.symm⟩
  · exact absurd a2 b2
  · exact absurd b2 a2
  · exact ⟨a3.trans b3.symm, a1.trans b1.symm⟩
theorem KX.len {l : List Cl} {S : List Int} {e : Int} (h : KX l S e) : S.length ≤ l.length := by
  rcases h with ⟨-, -, rfl⟩ | ⟨-, -, rfl⟩
  · exact Nat.le_trans (setK_len l _ _) (byP_len l _)
  · exact Nat.zero_le _
theorem KeA.kx {l : List Cl} {w w' : World} {v : Value} {ec : Int} (h : KeA l w w' v ec) : ∃ S, KX l S ec ∧ w'.ownsRow w.heap.size 2 1 v S.length (kvs S) := by
  rcases h with ⟨h1, h2, h3⟩ | ⟨h1, h2, rfl⟩
  · exact ⟨_, .inl ⟨h1, h2, rfl⟩, h3⟩
  · exact ⟨[], .inr ⟨h1, h2, rfl⟩, World.ownsRow_nil _ _ _ _⟩
theorem KeB.kx {l : List Cl} {w w' : World} {v : Value} {ec : Int} (h : KeB l w w' v ec) : ∃ S sa sc, KX l S ec ∧ v = .slice sa S.length sc ∧ KL w' sa S ∧ ∀ b off, sa = some ⟨b, off, none⟩ → w.heap.size ≤ b := by
  rcases h with ⟨h1, h2, sa, sc, h3, h4, h5⟩ | ⟨h1, h2, rfl⟩
  · exact ⟨_, sa, sc, .inl ⟨h1, h2, rfl⟩, h3, h4, h5⟩
  · exact ⟨[], none, 0, .inr ⟨h1, h2, rfl⟩, rfl, (fun i hi => absurd hi (by simp)), fun b off e => by cases e⟩
theorem BpA.one {l : List Cl} {r s e f : Int} (h : BpA l r e) (h' : BpA l s f) : r = s ∧ e = f := by
  rcases h with ⟨a1, a2, a3⟩ | ⟨a1, a2, a3⟩ <;> rcases h' with ⟨b1, b2, b3⟩ | ⟨b1, b2, b3⟩
  · exact ⟨a3.one b3, a1.trans b1.symm⟩
  · exact absurd a2 b2
  · exact absurd b2 a2
  · exact ⟨a3.trans b3.symm, a1.trans b1.symm⟩
theorem run_store_one64 {w : World} {b o : Nat} (hc : (w.cell? ⟨b, o, none⟩).isSome = true) (hz : w.frozen? ⟨b, o, none⟩ = false) (v : Int) : (storeVar 2 ⟨b, o, none⟩ (.int .i64 v)).run Try.prog w = .ok () (w.setCell ⟨b, o, none⟩ (.int .i64 v)) := by
  obtain ⟨u, hu⟩ := Option.isSome_iff_exists.1 hc
  go_simp
theorem wpList_store_row64 {w : World} {ops : Array Oper} {rest : List Oper} {o : Oper} {a : Act} {Q : Exit → Act → World → Prop} (hgd : o.guard = none) (hd : o.dst = none) (x y : Operand) (ho : o.op = .store 2 x y) (g j : Nat) (hx : a.eval x = .pointer (some ⟨g, j, none⟩)) (v : Int) (hy : a.eval y = .int .i64 v)
    {base n cap : Nat} {L : List Int} (hO : w.ownsRow base 2 1 (.slice (some ⟨g, 0, none⟩) n cap) n (kvs L)) (hj : j < L.length) (h : ∀ w1, w1.ownsRow base 2 1 (.slice (some ⟨g, 0, none⟩) n cap) n (kvs (L.set j v)) → Keeps (fun k => k = g) w w1 → wpList Try.prog ops Q rest a w1) : wpList Try.prog ops Q (o :: rest) a w := by
  have hB := own_clL hO
  have hl : j < (kvs L).length := by unfold kvs; rw [List.length_map]; exact hj
  exact wpList_plain hgd fun _ hK => by
    unfold Oper.wp execOp
    simp only [ho, hx, hy, Instr.storeAt, Instr.sureAddr, Sem.run_bind, Sem.run_pure, Result.andThen_ok, run_store_one64 (by rw [hB.c j _ (List.getElem?_eq_getElem hl)]; rfl) (hB.z j hl) v]
    refine hK _ _ ?_
    rw [hd]
    refine h _ ?_ ((Keeps.refl (fun k => k = g) w).setCell (p := ⟨g, j, none⟩) (fun _ => rfl) _)
    have := (hO.stored j (.int .i64 v)).1
    have e : kvs (L.set j v) = (kvs L).set j (.int .i64 v) := by unfold kvs; rw [List.map_set]
    rw [e]
    exact this
end Go.Proofs.Ytgcfckbmmdajhaa
