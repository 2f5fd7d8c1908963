import Derived.Test.YtkebpelpjkgdkabHeapFQ
namespace Go.Proofs.Ytkebpelpjkgdkab.Q
open Go.RowKit Go.Maps

section
variable {w : World} {hb g cap : Nat} {xs : List It} {pm mb s : Nat} {M : Mp}

theorem told_nx (h : HS w hb g cap xs pm mb s M) {i : Nat} {x : It} (hi : i < xs.length) (hx : ia xs i = x) (hF : nx M s x.2 < maxLen) :
    Calls Try.prog 46 #[.agg #[.int .i64 x.1, .int .i64 x.2], .int .i64 (i : Int), .pointer (some ⟨pm, 0, none⟩)] w fun e w' =>
      e = .returned (.tuple #[]) ∧ HS w' hb g cap xs pm mb (nx M s x.2) (M.put x.2 i) ∧ Keeps (Tch g mb) w w' := by
  subst hx
  refine (placed_any h.side (ia xs i) i (h.at64 hi).2 (by have := h.small; unfold I64; omega)).mono ?_
  rintro e w1 ⟨rfl, ⟨c, m⟩, k⟩
  have hh : ¬ hb = mb := fun e => h.mg.2.1 e.symm
  exact ⟨rfl, ⟨k.cell h.f0 hh, (k.frozen h.lh hh).trans h.z0, k.cell h.f1 hh, k.cell h.f2 hh, k.owns h.row (fun j e => by cases e; exact fun e => h.mg.1 e.symm), ⟨c, m, hF, h.side.ne⟩, h.gh, h.mg, h.num, h.small⟩, k.mono (fun _ _ e => .inr e)⟩

theorem full_put {M : Mp} {xs : List It} (h : Full M xs) (k v : Int) : Full (M.put k v) xs := fun x hx => Mp.put_ne (h x hx)
theorem full_set {M : Mp} {xs : List It} (h : Full M xs) (p : Nat) (x : It) (v : Int) : Full (M.put x.2 v) (xs.set p x) := fun y hy => by
  rcases List.mem_or_eq_of_mem_set hy with hy | rfl
  · exact Mp.put_ne (h y hy)
  · simp [Mp.put]

set_option maxHeartbeats 1600000 in
set_option maxRecDepth 1000000 in
/-- Another one laid at a place. -/
theorem change_any (h : HS w hb g cap xs pm mb s M) {p : Nat} (hp : p < xs.length) (hF : Full M xs) (hH : Heap bef xs) (x : It) (hx : I64 x.1 ∧ I64 x.2) (hM : M x.2 ≠ none) :
    Calls Try.prog 30 #[.pointer (some ⟨hb, 0, none⟩), .int .i64 (p : Int), .agg #[.int .i64 x.1, .int .i64 x.2]] w fun e w' =>
      e = .returned (.tuple #[]) ∧ ∃ xs' M', HS w' hb g cap xs' pm mb s M' ∧ Keeps (Tch g mb) w w' ∧ Moves (xs.set p x) (M.put x.2 p) xs' M' ∧ Heap bef xs' := by
  obtain ⟨w0, hw0⟩ : ∃ w0, w0 = w.alloc (.cells #[.int .i64 x.1, .int .i64 x.2] 32) := ⟨_, rfl⟩
  have K0 : Keeps (fun _ => False) w w0 := by rw [hw0]; exact (Keeps.refl _ w).alloc _
  have b0 : w0.cell? ⟨w.heap.size, 0, none⟩ = some (.int .i64 x.1) := by rw [hw0]; simp
  have b1 : w0.cell? ⟨w.heap.size, 1, none⟩ = some (.int .i64 x.2) := by rw [hw0]; simp
  have hne : w.heap.size ≠ g := by have := h.lg; omega
  have hTn : ¬ Tch g mb w.heap.size := fun e => e.elim hne (fun e => by have := h.side.map.lt; omega)
  have h0 := h.new K0
  obtain ⟨h1, k1⟩ := h0.set hp x hx
  have f0 := h0.f0
  have c0 := h0.c0 hp
  have c1 := h0.c1 hp
  have z0 := h0.fr (p * 2)
  have z1 := h0.fr (p * 2 + 1)
  have hpI : (p : Int) < (xs.length : Int) := by omega
  have h2 := h1.drew
  have k2 := k1.drew
  have b0' : (World.drew ((w0.setCell ⟨g, p * 2, none⟩ (.int .i64 x.1)).setCell ⟨g, p * 2 + 1, none⟩ (.int .i64 x.2))).cell? ⟨w.heap.size, 0, none⟩ = some (.int .i64 x.1) := k2.cell b0 hne
  have b1' : (World.drew ((w0.setCell ⟨g, p * 2, none⟩ (.int .i64 x.1)).setCell ⟨g, p * 2 + 1, none⟩ (.int .i64 x.2))).cell? ⟨w.heap.size, 1, none⟩ = some (.int .i64 x.2) := k2.cell b1 hne
  clear h1 k1 h0
  go_enter Try.func30, Try.ntmps30
  go_wp2_with fail
  rw [← hw0]
  clear hw0
  go_region
  clear f0 c0 c1 z0 z1 b0 b1
  generalize World.drew (World.setCell _ _ _) = w1 at h2 k2 b0' b1' ⊢
  have f2 := h2.f2
  have hxp : ia (xs.set p x) p = x := ia_set x hp
  go_wp2_with fail
  go_region_held3 (fun w' => w'.cell? ⟨hb, 2, none⟩ = some (.func (.func 46) #[] #[.pointer (some ⟨pm, 0, none⟩)]) ∧ w'.cell? ⟨w.heap.size, 0, none⟩ = some (.int .i64 x.1) ∧ w'.cell? ⟨w.heap.size, 1, none⟩ = some (.int .i64 x.2)) (go_keep) ((go_at_call 46; refine (told_any h2.drew (i := p) (by simpa using hp) hxp hM).mono ?_; rintro e w2 ⟨rfl, h3, k3⟩; have q0 := h3.f2; have q1 := k3.cell (p := ⟨w.heap.size, 0, none⟩) b0' hTn; have q2 := k3.cell (p := ⟨w.heap.size, 1, none⟩) b1' hTn))
  clear q0 q1 q2 f2 b0' b1'
  go_wp2_with fail
  refine (settle_any h3 (p := p) (by simpa using hp) (full_set hF p x p) (hH.loose bef_lin p |>.set x)).mono ?_
  rintro e w3 ⟨rfl, ys, O, h4, k4, m4, hh⟩
  go_wp2_with fail
  go_end0
  exact ⟨rfl, ys, O, h4, (((K0.mono (fun _ _ e => e.elim)).trans (k2.mono (fun _ _ e => .inl e))).trans ((Keeps.refl _ w1).drew.trans k3)).trans k4, m4, hh⟩

theorem owns_take {w : World} {base : Nat} {e : TypeId} {size g n cap : Nat} {vs : List Value} (h : w.ownsRow base e size (.slice (some ⟨g, 0, none⟩) n cap) n vs) {m : Nat} (hm : m ≤ n) :
    w.ownsRow base e size (.slice (some ⟨g, 0, none⟩) m cap) m (vs.take (m * size)) := by
  rcases h.2 with ⟨h', _⟩ | ⟨g', cap', cur, h', hb, hg, hnc, hcm, hcs, htake⟩
  · simp at h'
  · simp only [Value.slice.injEq, Option.some.injEq, Addr.mk.injEq, and_true, true_and] at h'
    obtain ⟨rfl, rfl⟩ := h'
    have hle : m * size ≤ n * size := Nat.mul_le_mul_right _ hm
    refine ⟨by rw [List.length_take, h.1]; omega, .inr ⟨g, cap, cur, rfl, hb, hg, Nat.le_trans hm hnc, hcm, hcs, ?_⟩⟩
    rw [← htake, List.take_take, Nat.min_eq_left hle]

/-- Fewer of the row. -/
theorem HS.cutTo (h : HS w hb g cap xs pm mb s M) {m : Nat} (hm : m ≤ xs.length) :
    HS (w.setCell ⟨hb, 0, none⟩ (.slice (some ⟨g, 0, none⟩) m cap)) hb g cap (xs.take m) pm mb s M ∧ Keeps (fun k => k = hb) w (w.setCell ⟨hb, 0, none⟩ (.slice (some ⟨g, 0, none⟩) m cap)) := by
  have K : Keeps (fun k => k = hb) w (w.setCell ⟨hb, 0, none⟩ (.slice (some ⟨g, 0, none⟩) m cap)) := Keeps.setCell (S := fun k => k = hb) (p := ⟨hb, 0, none⟩) (Keeps.refl _ w) (fun _ => rfl) _
  have hl : (xs.take m).length = m := by simp; omega
  refine ⟨⟨by rw [hl]; exact World.cell?_setCell_same _ _ _ h.f0, by rw [World.frozen?_setCell]; exact h.z0, ?_, ?_, ?_, h.side.keep K h.mg.2.2.2 h.mg.2.1, h.gh, h.mg, fun x hx => h.num x (List.mem_of_mem_take hx), by rw [hl]; have := h.small; omega⟩, K⟩
  · rw [World.cell?_setCell_other _ _ _ _ (by simp)]; exact h.f1
  · rw [World.cell?_setCell_other _ _ _ _ (by simp)]; exact h.f2
  · rw [hl, flat_take]
    exact K.owns (owns_take h.row hm) (fun k e => by cases e; exact h.gh)
end

end Go.Proofs.Ytkebpelpjkgdkab.Q
