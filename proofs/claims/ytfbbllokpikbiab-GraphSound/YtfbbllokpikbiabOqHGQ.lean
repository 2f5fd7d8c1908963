import Derived.Test.YtfbbllokpikbiabOqHFQ
namespace Go.Proofs.Ytfbbllokpikbiab.Q
open Go.RowKit Go.Maps

section
variable {w : World} {hb g cap : Nat} {xs : List It} {pm mb s : Nat} {M : Mp}

theorem told_nx (h : HS w hb g cap xs pm mb s M) {i : Nat} {x : It} (hi : i < xs.length) (hx : ia xs i = x) (hF : nx M s x.2 < maxLen) :
    Calls Try.prog 76 #[.agg #[.int .i64 x.1, .int .i64 x.2], .int .i64 (i : Int), .pointer (some ⟨pm, 0, none⟩)] w fun e w' =>
      e = .returned (.tuple #[]) ∧ HS w' hb g cap xs pm mb (nx M s x.2) (M.put x.2 i) ∧ Keeps (Tch g mb) w w' := by
  subst hx
  refine (placed_any h.side (ia xs i) i (h.at64 hi).2 (by have := h.small; unfold I64; omega)).mono ?_
  rintro e w1 ⟨rfl, ⟨c, m⟩, k⟩
  have hh : ¬ hb = mb := fun e => h.mg.2.1 e.symm
  exact ⟨rfl, ⟨k.cell h.f0 hh, (k.frozen h.lh hh).trans h.z0, k.cell h.f1 hh, k.cell h.f2 hh, k.owns h.row (fun j e => by cases e; exact fun e => h.mg.1 e.symm), ⟨c, m, hF, h.side.ne⟩, h.gh, h.mg, h.num, h.small⟩, k.mono (fun _ _ e => .inr e)⟩

theorem full_put {M : Mp} {xs : List It} (h : Full M xs) (k v : Int) : Full (M.put k v) xs := fun x hx => Mp.put_ne (h x hx)
theorem full_set {M : Mp} {xs : List It} (h : Full M xs) (p : Nat) (x : It) (v : Int) : Full (M.put x.2 v) (xs.set p x) := fun y hy => by
  rcases List.mem_or_eq_of_mem_set hy with hy | rfl
  · exact Mp.put_ne (h y hy)
  · simp [Mp.put]

theorem owns_take {w : World} {base : Nat} {e : TypeId} {size g n cap : Nat} {vs : List Value} (h : w.ownsRow base e size (.slice (some ⟨g, 0, none⟩) n cap) n vs) {m : Nat} (hm : m ≤ n) :
    w.ownsRow base e size (.slice (some ⟨g, 0, none⟩) m cap) m (vs.take (m * size)) := by
  rcases h.2 with ⟨h', _⟩ | ⟨g', cap', cur, h', hb, hg, hnc, hcm, hcs, htake⟩
  · simp at h'
  · simp only [Value.slice.injEq, Option.some.injEq, Addr.mk.injEq, and_true, true_and] at h'
    obtain ⟨rfl, rfl⟩ := h'
    have hle : m * size ≤ n * size := Nat.mul_le_mul_right _ hm
    refine ⟨by rw [List.length_take, h.1]; omega, .inr ⟨g, cap, cur, rfl, hb, hg, Nat.le_trans hm hnc, hcm, hcs, ?_⟩⟩
    rw [← htake, List.take_take, Nat.min_eq_left hle]

/-- Fewer of the row. -/
theorem HS.cutTo (h : HS w hb g cap xs pm mb s M) {m : Nat} (hm : m ≤ xs.length) :
    HS (w.setCell ⟨hb, 0, none⟩ (.slice (some ⟨g, 0, none⟩) m cap)) hb g cap (xs.take m) pm mb s M ∧ Keeps (fun k => k = hb) w (w.setCell ⟨hb, 0, none⟩ (.slice (some ⟨g, 0, none⟩) m cap)) := by
  have K : Keeps (fun k => k = hb) w (w.setCell ⟨hb, 0, none⟩ (.slice (some ⟨g, 0, none⟩) m cap)) := Keeps.setCell (S := fun k => k = hb) (p := ⟨hb, 0, none⟩) (Keeps.refl _ w) (fun _ => rfl) _
  have hl : (xs.take m).length = m := by simp; omega
  refine ⟨⟨by rw [hl]; exact World.cell?_setCell_same _ _ _ h.f0, by rw [World.frozen?_setCell]; exact h.z0, ?_, ?_, ?_, h.side.keep K h.mg.2.2.2 h.mg.2.1, h.gh, h.mg, fun x hx => h.num x (List.mem_of_mem_take hx), by rw [hl]; have := h.small; omega⟩, K⟩
  · rw [World.cell?_setCell_other _ _ _ _ (by simp)]; exact h.f1
  · rw [World.cell?_setCell_other _ _ _ _ (by simp)]; exact h.f2
  · rw [hl, flat_take]
    exact K.owns (owns_take h.row hm) (fun k e => by cases e; exact h.gh)
end

end Go.Proofs.Ytfbbllokpikbiab.Q
