import Derived.Test.YtfbbllokpikbiabOqHA
namespace Go.Proofs.Ytfbbllokpikbiab.Q
open Go.RowKit Go.Maps

/-- What a call may turn. -/
def Tch (g mb : Nat) (k : Nat) : Prop := k = g ∨ k = mb

/-- A heap in memory: block hb is the struct, g its items' row. -/
structure HS (w : World) (hb g cap : Nat) (xs : List It) (pm mb s : Nat) (M : Mp) : Prop where
  f0 : w.cell? ⟨hb, 0, none⟩ = some (.slice (some ⟨g, 0, none⟩) xs.length cap)
  z0 : w.frozen? ⟨hb, 0, none⟩ = false
  f1 : w.cell? ⟨hb, 1, none⟩ = some (.func (.func 75) #[] #[])
  f2 : w.cell? ⟨hb, 2, none⟩ = some (.func (.func 76) #[] #[.pointer (some ⟨pm, 0, none⟩)])
  row : w.ownsRow 0 76 2 (.slice (some ⟨g, 0, none⟩) xs.length cap) xs.length (flat xs)
  side : Side w pm mb s M
  gh : g ≠ hb
  mg : mb ≠ g ∧ mb ≠ hb ∧ pm ≠ g ∧ pm ≠ hb
  num : ∀ x ∈ xs, I64 x.1 ∧ I64 x.2
  small : xs.length * 16 ≤ 140737488355328

section
variable {w : World} {hb g cap : Nat} {xs : List It} {pm mb s : Nat} {M : Mp}

theorem HS.c0 (h : HS w hb g cap xs pm mb s M) {i : Nat} (hi : i < xs.length) : w.cell? ⟨g, i * 2, none⟩ = some (.int .i64 (ia xs i).1) := by
  rw [h.row.cellAt (i * 2) (by omega), flat_get0 xs i hi]
theorem HS.c1 (h : HS w hb g cap xs pm mb s M) {i : Nat} (hi : i < xs.length) : w.cell? ⟨g, i * 2 + 1, none⟩ = some (.int .i64 (ia xs i).2) := by
  rw [h.row.cellAt (i * 2 + 1) (by omega), flat_get1 xs i hi]
theorem HS.fr (h : HS w hb g cap xs pm mb s M) (j : Nat) : w.frozen? ⟨g, j, none⟩ = false := h.row.frozenAt j
theorem HS.lg (h : HS w hb g cap xs pm mb s M) : g < w.heap.size := owns_lt' h.row g rfl
theorem HS.lh (h : HS w hb g cap xs pm mb s M) : hb < w.heap.size := World.block_lt_of_cell? _ _ h.f0
theorem HS.at64 (h : HS w hb g cap xs pm mb s M) {i : Nat} (hi : i < xs.length) : I64 (ia xs i).1 ∧ I64 (ia xs i).2 := h.num _ (ia_mem hi)

theorem HS.keep (h : HS w hb g cap xs pm mb s M) {w' : World} {S : Nat → Prop} (hk : Keeps S w w') (hh : ¬ S hb) (hg : ¬ S g) (hm : ¬ S mb) (hp : ¬ S pm) : HS w' hb g cap xs pm mb s M :=
  ⟨hk.cell h.f0 hh, (hk.frozen h.lh hh).trans h.z0, hk.cell h.f1 hh, hk.cell h.f2 hh, hk.owns h.row (fun k e => by cases e; exact hg), h.side.keep hk hp hm, h.gh, h.mg, h.num, h.small⟩
theorem HS.new (h : HS w hb g cap xs pm mb s M) {w' : World} (hk : Keeps (fun _ => False) w w') : HS w' hb g cap xs pm mb s M :=
  h.keep hk (fun e => e) (fun e => e) (fun e => e) (fun e => e)
theorem HS.drew (h : HS w hb g cap xs pm mb s M) : HS w.drew hb g cap xs pm mb s M := h.new (Keeps.refl _ w).drew

/-- An item laid at a place. -/
theorem HS.set (h : HS w hb g cap xs pm mb s M) {i : Nat} (hi : i < xs.length) (x : It) (hx : I64 x.1 ∧ I64 x.2) :
    HS ((w.setCell ⟨g, i * 2, none⟩ (.int .i64 x.1)).setCell ⟨g, i * 2 + 1, none⟩ (.int .i64 x.2)) hb g cap (xs.set i x) pm mb s M ∧
      Keeps (fun k => k = g) w ((w.setCell ⟨g, i * 2, none⟩ (.int .i64 x.1)).setCell ⟨g, i * 2 + 1, none⟩ (.int .i64 x.2)) := by
  obtain ⟨r1, g1⟩ := h.row.stored (i * 2) (.int .i64 x.1)
  obtain ⟨r2, g2⟩ := r1.stored (i * 2 + 1) (.int .i64 x.2)
  have K : Keeps (fun k => k = g) w ((w.setCell ⟨g, i * 2, none⟩ (.int .i64 x.1)).setCell ⟨g, i * 2 + 1, none⟩ (.int .i64 x.2)) :=
    ((Keeps.refl _ w).grown g1 (fun _ _ e => by cases e; rfl)).grown g2 (fun _ _ e => by cases e; rfl)
  have hh : ¬ hb = g := fun e => h.gh e.symm
  refine ⟨⟨by rw [List.length_set]; exact K.cell h.f0 hh, (K.frozen h.lh hh).trans h.z0, K.cell h.f1 hh, K.cell h.f2 hh, ?_, h.side.keep K h.mg.2.2.1 h.mg.1, h.gh, h.mg, fun y hy => ?_, by rw [List.length_set]; exact h.small⟩, K⟩
  · rw [List.length_set, flat_set xs i x hi]; exact r2
  · rcases List.mem_or_eq_of_mem_set hy with hy | rfl
    · exact h.num y hy
    · exact hx

theorem HS.sw (h : HS w hb g cap xs pm mb s M) {i j : Nat} (hi : i < xs.length) (hj : j < xs.length) :
    HS ((((w.setCell ⟨g, i * 2, none⟩ (.int .i64 (ia xs j).1)).setCell ⟨g, i * 2 + 1, none⟩ (.int .i64 (ia xs j).2)).setCell ⟨g, j * 2, none⟩ (.int .i64 (ia xs i).1)).setCell ⟨g, j * 2 + 1, none⟩ (.int .i64 (ia xs i).2)) hb g cap (sw xs i j) pm mb s M ∧
      Keeps (fun k => k = g) w ((((w.setCell ⟨g, i * 2, none⟩ (.int .i64 (ia xs j).1)).setCell ⟨g, i * 2 + 1, none⟩ (.int .i64 (ia xs j).2)).setCell ⟨g, j * 2, none⟩ (.int .i64 (ia xs i).1)).setCell ⟨g, j * 2 + 1, none⟩ (.int .i64 (ia xs i).2)) := by
  obtain ⟨h1, k1⟩ := h.set hi (ia xs j) (h.at64 hj)
  obtain ⟨h2, k2⟩ := h1.set (i := j) (by simpa using hj) (ia xs i) (h.at64 hi)
  exact ⟨h2, k1.trans k2⟩
end

end Go.Proofs.Ytfbbllokpikbiab.Q
