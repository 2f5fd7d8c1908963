import Derived.Test.YtfbbllokpikbiabOqHDQ
namespace Go.Proofs.Ytfbbllokpikbiab.Q
open Go.RowKit Go.Maps

section
variable {w : World} {hb g cap : Nat} {xs : List It} {pm mb s : Nat} {M : Mp}

/-- What firstBelow answers. -/
def Least (lt : It → It → Bool) (xs : List It) (p : Nat) (r : Int) : Prop :=
  (r = -1 ∧ ∀ c, 0 < c → c < xs.length → up c ≠ p) ∨
  ∃ b : Nat, r = b ∧ 0 < b ∧ b < xs.length ∧ up b = p ∧ ∀ c, 0 < c → c < xs.length → up c = p → lt (ia xs c) (ia xs b) = false

set_option maxHeartbeats 3200000 in
set_option maxRecDepth 1000000 in
/-- Which of the two right below holds what comes first. -/
theorem firstBelow_any (h : HS w hb g cap xs pm mb s M) {p : Nat} (hp : p < xs.length) :
    Calls Try.prog 92 #[.pointer (some ⟨hb, 0, none⟩), .int .i64 (p : Int)] w fun e w' =>
      ∃ r : Int, e = .returned (.int .i64 r) ∧ Keeps (fun _ => False) w w' ∧ Least bef xs p r := by
  have hsm := h.small
  have f0 := h.f0
  obtain ⟨l, hl⟩ : ∃ l : Nat, Hid (2 * p + 1 = l) := ⟨_, rfl⟩
  obtain ⟨r, hr⟩ : ∃ r : Nat, Hid (2 * p + 2 = r) := ⟨_, rfl⟩
  have el : 2 * (p : Int) + 1 = (l : Int) := by have := hl.out; omega
  have er : (l : Int) + 1 = (r : Int) := by have := hl.out; have := hr.out; omega
  by_cases h1 : xs.length ≤ l
  · have h1' : (xs.length : Int) ≤ (l : Int) := by omega
    go_enter Try.func92, Try.ntmps92
    go_wp2_with fail
    go_ret
    exact ⟨-1, rfl, Keeps.refl _ _, .inl ⟨rfl, fun c _ h3 h4 => by have := hl.out; unfold up at h4; omega⟩⟩
  · have h1' : (l : Int) < (xs.length : Int) := by omega
    by_cases h2 : xs.length ≤ r
    · have h2' : decide ((r : Int) < (xs.length : Int)) = false := by simp; omega
      have h2n : decide (r < xs.length) = false := by simp; omega
      go_enter Try.func92, Try.ntmps92
      go_wp2_with fail
      go_quiet (fail)
      go_wp2_with fail
      go_ret
      exact ⟨l, rfl, (Keeps.refl _ _).drewN _, .inr ⟨l, rfl, by have := hl.out; omega, by omega, by have := hl.out; unfold up; omega, fun c h3 h4 h5 => by
        have e : c = l := by have := hl.out; have := hr.out; unfold up at h5; omega
        rw [e]; exact bef_lin.irr _⟩⟩
    · have h2' : (r : Int) < (xs.length : Int) := by omega
      have h2d : decide ((r : Int) < (xs.length : Int)) = true := by simp; omega
      have f1 := h.f1
      have cr0 := h.c0 (i := r) (by omega)
      have cr1 := h.c1 (i := r) (by omega)
      have cl0 := h.c0 (i := l) (by omega)
      have cl1 := h.c1 (i := l) (by omega)
      obtain ⟨xr, hxr⟩ : ∃ x, Hid (ia xs r = x) := ⟨_, rfl⟩
      obtain ⟨xl, hxl⟩ : ∃ x, Hid (ia xs l = x) := ⟨_, rfl⟩
      rw [hxr.out] at cr0 cr1
      rw [hxl.out] at cl0 cl1
      go_enter Try.func92, Try.ntmps92
      go_wp2_with fail
      go_region_held3 (fun w' => w'.cell? ⟨hb, 0, none⟩ = some (.slice (some ⟨g, 0, none⟩) xs.length cap) ∧ w'.cell? ⟨hb, 1, none⟩ = some (.func (.func 75) #[] #[]) ∧ w'.cell? ⟨g, r * 2, none⟩ = some (.int .i64 xr.1) ∧ w'.cell? ⟨g, r * 2 + 1, none⟩ = some (.int .i64 xr.2) ∧ w'.cell? ⟨g, l * 2, none⟩ = some (.int .i64 xl.1) ∧ w'.cell? ⟨g, l * 2 + 1, none⟩ = some (.int .i64 xl.2)) (go_keep) ((go_at_call 75; refine (first_any w.drew xr xl).mono ?_; rintro e w2 ⟨rfl, k2⟩; have h2 := h.drew.new k2; have q0 := h2.f0; have q1 := h2.f1; have q2 := h2.c0 (i := r) (by omega); have q3 := h2.c1 (i := r) (by omega); have q4 := h2.c0 (i := l) (by omega); have q5 := h2.c1 (i := l) (by omega); rw [hxr.out] at q2 q3; rw [hxl.out] at q4 q5))
      have hK := (Keeps.refl (fun _ => False) w).drew.trans k2
      clear f0 f1 cr0 cr1 cl0 cl1 q0 q1 q2 q3 q4 q5
      cases hb' : bef xr xl with
      | false =>
        go_wp2_with fail
        go_ret
        exact ⟨l, rfl, hK, .inr ⟨l, rfl, by have := hl.out; omega, by omega, by have := hl.out; unfold up; omega, fun c h3 h4 h5 => by
          have e : c = l ∨ c = r := by have := hl.out; have := hr.out; unfold up at h5; omega
          rcases e with e | e
          · rw [e]; exact bef_lin.irr _
          · rw [e, hxr.out, hxl.out]; exact hb'⟩⟩
      | true =>
        go_wp2_with fail
        go_ret
        exact ⟨r, rfl, hK, .inr ⟨r, rfl, by have := hr.out; omega, by omega, by have := hr.out; unfold up; omega, fun c h3 h4 h5 => by
          have e : c = l ∨ c = r := by have := hl.out; have := hr.out; unfold up at h5; omega
          rcases e with e | e
          · rw [e, hxr.out, hxl.out]; exact bef_lin.asym hb'
          · rw [e]; exact bef_lin.irr _⟩⟩
end

end Go.Proofs.Ytfbbllokpikbiab.Q
