import Derived.Test.YtfbbllokpikbiabOqHBQ
namespace Go.Proofs.Ytfbbllokpikbiab.Q
open Go.RowKit Go.Maps

section
variable {w : World} {hb g cap : Nat} {xs : List It} {pm mb s : Nat} {M : Mp}

/-- Where an item comes to stand is told. -/
theorem told_any (h : HS w hb g cap xs pm mb s M) {i : Nat} {x : It} (hi : i < xs.length) (hx : ia xs i = x) (hF : M x.2 ≠ none) :
    Calls Try.prog 76 #[.agg #[.int .i64 x.1, .int .i64 x.2], .int .i64 (i : Int), .pointer (some ⟨pm, 0, none⟩)] w fun e w' =>
      e = .returned (.tuple #[]) ∧ HS w' hb g cap xs pm mb s (M.put x.2 i) ∧ Keeps (Tch g mb) w w' := by
  subst hx
  refine (placed_any h.side (ia xs i) i (h.at64 hi).2 (by have := h.small; unfold I64; omega)).mono ?_
  rintro e w1 ⟨rfl, ⟨c, m⟩, k⟩
  rw [nx_old hF] at m
  have hh : ¬ hb = mb := fun e => h.mg.2.1 e.symm
  exact ⟨rfl, ⟨k.cell h.f0 hh, (k.frozen h.lh hh).trans h.z0, k.cell h.f1 hh, k.cell h.f2 hh, k.owns h.row (fun j e => by cases e; exact fun e => h.mg.1 e.symm), ⟨c, m, h.side.small, h.side.ne⟩, h.gh, h.mg, h.num, h.small⟩, k.mono (fun _ _ e => .inr e)⟩

set_option maxHeartbeats 3200000 in
set_option maxRecDepth 1000000 in
/-- Two places exchanged. -/
theorem swap_any (h : HS w hb g cap xs pm mb s M) {i j : Nat} (hi : i < xs.length) (hj : j < xs.length) (hF : Full M xs) :
    Calls Try.prog 87 #[.pointer (some ⟨hb, 0, none⟩), .int .i64 (i : Int), .int .i64 (j : Int)] w fun e w' =>
      e = .returned (.tuple #[]) ∧ HS w' hb g cap (sw xs i j) pm mb s ((M.put (ia xs j).2 i).put (ia xs i).2 j) ∧ Keeps (Tch g mb) w w' := by
  obtain ⟨h1, k1⟩ := h.sw hi hj
  have ei : ia (sw xs i j) i = ia xs j := by rw [ia_sw hi hj]; by_cases e : i = j <;> simp [e]
  have ej : ia (sw xs i j) j = ia xs i := by rw [ia_sw hi hj]; simp
  have f0 := h.f0
  have ci0 := h.c0 hi
  have ci1 := h.c1 hi
  have cj0 := h.c0 hj
  have cj1 := h.c1 hj
  have zi0 := h.fr (i * 2)
  have zi1 := h.fr (i * 2 + 1)
  have zj0 := h.fr (j * 2)
  have zj1 := h.fr (j * 2 + 1)
  have hiI : (i : Int) < (xs.length : Int) := by omega
  have hjI : (j : Int) < (xs.length : Int) := by omega
  have Fi : M (ia xs i).2 ≠ none := hF.at hi
  have Fj : M (ia xs j).2 ≠ none := hF.at hj
  have hl : (sw xs i j).length = xs.length := length_sw xs i j
  have hxx : i = j → ia xs j = ia xs i := fun e => by rw [e]
  have h2 := h1.drew
  have k2 := k1.drew
  clear h h1 k1
  generalize ia xs i = xi at *
  generalize ia xs j = xj at *
  generalize xs.length = n at *
  generalize sw xs i j = ys at *
  by_cases hij : i = j
  · have hxy := hxx hij
    clear hxx
    subst hij
    subst hxy
    go_enter Try.func87, Try.ntmps87
    go_wp2_with fail
    go_region
    clear f0 ci0 ci1 cj0 cj1 zi0 zi1 zj0 zj1
    generalize World.drew (World.setCell _ _ _) = w1 at h2 k2 ⊢
    have f0 := h2.f0
    have f2 := h2.f2
    have ci0 := h2.c0 (i := i) (by omega)
    have ci1 := h2.c1 (i := i) (by omega)
    rw [ei] at ci0 ci1
    rw [hl] at f0
    go_wp2_with fail
    go_region_held3 (fun w' => w'.cell? ⟨hb, 0, none⟩ = some (.slice (some ⟨g, 0, none⟩) n cap) ∧ w'.cell? ⟨hb, 2, none⟩ = some (.func (.func 76) #[] #[.pointer (some ⟨pm, 0, none⟩)]) ∧ w'.cell? ⟨g, i * 2, none⟩ = some (.int .i64 xj.1) ∧ w'.cell? ⟨g, i * 2 + 1, none⟩ = some (.int .i64 xj.2)) (go_keep) ((go_at_call 76; refine (told_any h2.drew (i := i) (by omega) ei Fj).mono ?_; rintro e w2 ⟨rfl, h3, k3⟩; have q0 := h3.f0; rw [hl] at q0; have q2 := h3.f2; have q3 := h3.c0 (i := i) (by omega); have q4 := h3.c1 (i := i) (by omega); rw [ei] at q3 q4))
    clear f0 f2 ci0 ci1 q2 q3 q4
    have g2 := h3.f2
    have cj0 := h3.c0 (i := i) (by omega)
    have cj1 := h3.c1 (i := i) (by omega)
    rw [ej] at cj0 cj1
    go_wp2_with fail
    go_region_held3 (fun w' => w'.cell? ⟨hb, 0, none⟩ = some (.slice (some ⟨g, 0, none⟩) n cap) ∧ w'.cell? ⟨hb, 2, none⟩ = some (.func (.func 76) #[] #[.pointer (some ⟨pm, 0, none⟩)]) ∧ w'.cell? ⟨g, i * 2, none⟩ = some (.int .i64 xj.1) ∧ w'.cell? ⟨g, i * 2 + 1, none⟩ = some (.int .i64 xj.2)) (go_keep) ((go_at_call 76; refine (told_any h3.drew (i := i) (by omega) ej (Mp.put_ne Fi)).mono ?_; rintro e w3 ⟨rfl, h4, k4⟩; have q0 := h4.f0; rw [hl] at q0; have q2 := h4.f2; have q3 := h4.c0 (i := i) (by omega); have q4 := h4.c1 (i := i) (by omega); rw [ej] at q3 q4))
    go_end0
    exact ⟨rfl, h4, ((k2.mono (fun _ _ e => .inl e)).trans ((Keeps.refl _ w1).drew.trans k3)).trans ((Keeps.refl _ w2).drew.trans k4)⟩
  · have n1 : i * 2 ≠ j * 2 := by omega
    have n2 : i * 2 + 1 ≠ j * 2 := by omega
    have n3 : i * 2 ≠ j * 2 + 1 := by omega
    have n4 : i * 2 + 1 ≠ j * 2 + 1 := by omega
    go_enter Try.func87, Try.ntmps87
    go_wp2_with fail
    go_region
    clear f0 ci0 ci1 cj0 cj1 zi0 zi1 zj0 zj1
    generalize World.drew (World.setCell _ _ _) = w1 at h2 k2 ⊢
    have f0 := h2.f0
    have f2 := h2.f2
    have ci0 := h2.c0 (i := i) (by omega)
    have ci1 := h2.c1 (i := i) (by omega)
    rw [ei] at ci0 ci1
    rw [hl] at f0
    go_wp2_with fail
    go_region_held3 (fun w' => w'.cell? ⟨hb, 0, none⟩ = some (.slice (some ⟨g, 0, none⟩) n cap) ∧ w'.cell? ⟨hb, 2, none⟩ = some (.func (.func 76) #[] #[.pointer (some ⟨pm, 0, none⟩)]) ∧ w'.cell? ⟨g, i * 2, none⟩ = some (.int .i64 xj.1) ∧ w'.cell? ⟨g, i * 2 + 1, none⟩ = some (.int .i64 xj.2)) (go_keep) ((go_at_call 76; refine (told_any h2.drew (i := i) (by omega) ei Fj).mono ?_; rintro e w2 ⟨rfl, h3, k3⟩; have q0 := h3.f0; rw [hl] at q0; have q2 := h3.f2; have q3 := h3.c0 (i := i) (by omega); have q4 := h3.c1 (i := i) (by omega); rw [ei] at q3 q4))
    clear f0 f2 ci0 ci1 q2 q3 q4
    have g2 := h3.f2
    have cj0 := h3.c0 (i := j) (by omega)
    have cj1 := h3.c1 (i := j) (by omega)
    rw [ej] at cj0 cj1
    go_wp2_with fail
    go_region_held3 (fun w' => w'.cell? ⟨hb, 0, none⟩ = some (.slice (some ⟨g, 0, none⟩) n cap) ∧ w'.cell? ⟨hb, 2, none⟩ = some (.func (.func 76) #[] #[.pointer (some ⟨pm, 0, none⟩)]) ∧ w'.cell? ⟨g, j * 2, none⟩ = some (.int .i64 xi.1) ∧ w'.cell? ⟨g, j * 2 + 1, none⟩ = some (.int .i64 xi.2)) (go_keep) ((go_at_call 76; refine (told_any h3.drew (i := j) (by omega) ej (Mp.put_ne Fi)).mono ?_; rintro e w3 ⟨rfl, h4, k4⟩; have q0 := h4.f0; rw [hl] at q0; have q2 := h4.f2; have q3 := h4.c0 (i := j) (by omega); have q4 := h4.c1 (i := j) (by omega); rw [ej] at q3 q4))
    go_end0
    exact ⟨rfl, h4, ((k2.mono (fun _ _ e => .inl e)).trans ((Keeps.refl _ w1).drew.trans k3)).trans ((Keeps.refl _ w2).drew.trans k4)⟩
end

end Go.Proofs.Ytfbbllokpikbiab.Q
