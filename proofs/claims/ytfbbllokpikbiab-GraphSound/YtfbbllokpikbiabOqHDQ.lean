import Derived.Test.YtfbbllokpikbiabOqHCQ
namespace Go.Proofs.Ytfbbllokpikbiab.Q
open Go.RowKit Go.Maps

section
variable {w : World} {hb g cap : Nat} {xs : List It} {pm mb s : Nat} {M : Mp}

/-- The order of this heap, and its function. -/
theorem first_any (w : World) (a b : It) :
    Calls Try.prog 75 #[.agg #[.int .i64 a.1, .int .i64 a.2], .agg #[.int .i64 b.1, .int .i64 b.2]] w fun e w' => e = .returned (.bool (bef a b)) ∧ Keeps (fun _ => False) w w' := before_any w a b

set_option maxHeartbeats 3200000 in
set_option maxRecDepth 1000000 in
/-- One is lifted over all that it is before. -/
theorem rise_any (h : HS w hb g cap xs pm mb s M) {p : Nat} (hp : p < xs.length) (hF : Full M xs) (hL : Loose bef xs p) :
    Calls Try.prog 77 #[.pointer (some ⟨hb, 0, none⟩), .int .i64 (p : Int)] w fun e w' =>
      ∃ xs' M', ∃ moved : Bool, e = .returned (.bool moved) ∧ HS w' hb g cap xs' pm mb s M' ∧ Keeps (Tch g mb) w w' ∧ Moves xs M xs' M' ∧
        (moved = true → Heap bef xs') ∧ (moved = false → xs' = xs ∧ M' = M ∧ (0 < p → bef (ia xs p) (ia xs (up p)) = false)) := by
  have hsm := h.small
  go_enter Try.func77, Try.ntmps77
  go_wp2_with fail
  go_loopw [1] (fun pv wr => ∃ (q : Nat) (ys : List It) (O : Mp), pv = .int .i64 q ∧ q ≤ p ∧ HS wr hb g cap ys pm mb s O ∧ Moves xs M ys O ∧ Keeps (Tch g mb) w wr ∧ Loose bef ys q ∧ (q = p ∧ ys = xs ∧ O = M ∨ q < p ∧ Below' bef ys q)) (fun pv _ => (intOf pv).toNat)
  case atStart => exact ⟨p, xs, M, rfl, Nat.le_refl _, h, Moves.refl _ _, Keeps.refl _ _, hL, .inl ⟨rfl, rfl, rfl⟩⟩
  case round =>
    obtain ⟨q, ys, O, rfl, hqp, hr, hm, hk, hl, hor⟩ := hrel
    have hlen := hm.length
    have hlenH : Hid (ys.length = xs.length) := hlen
    have hrF := hm.full hF
    by_cases hq : q = 0
    · subst hq
      go_wp2_with fail
      go_ret
      refine ⟨ys, O, _, rfl, hr, hk, hm, fun e => ?_, fun e => ?_⟩
      · have hp0 : (0 : Nat) ≠ p := fun e' => by rw [← e'] at e; exact absurd e (by decide)
        rcases hor with ⟨e1, _, _⟩ | ⟨_, hb'⟩
        · exact absurd e1 hp0
        · exact (hl.heavy (fun h0 => absurd h0 (by omega))).heap hb'
      · have hp0 : p = 0 := by
          simp at e; omega
        rcases hor with ⟨_, e1, e2⟩ | ⟨h0, _⟩
        · exact ⟨e1, e2, fun h0 => by omega⟩
        · omega
    · have hq1 : (0 : Int) < (q : Int) := by omega
      obtain ⟨u, hu⟩ : ∃ u, Hid (up q = u) := ⟨_, rfl⟩
      have hdiv : ((q : Int) - 1) / 2 = (u : Int) := by have := hu.out; unfold up at this; omega
      have huq : u < q := by have := hu.out; unfold up at this; omega
      have huI : (u : Int) < (xs.length : Int) := by omega
      have hqI : (q : Int) < (xs.length : Int) := by omega
      have f0 := hr.f0
      rw [hlen] at f0
      have f1 := hr.f1
      have cq0 := hr.c0 (i := q) (by have := hlenH.out; omega)
      have cq1 := hr.c1 (i := q) (by have := hlenH.out; omega)
      have cu0 := hr.c0 (i := u) (by have := hlenH.out; omega)
      have cu1 := hr.c1 (i := u) (by have := hlenH.out; omega)
      obtain ⟨xq, hxq⟩ : ∃ x, Hid (ia ys q = x) := ⟨_, rfl⟩
      obtain ⟨xu, hxu⟩ : ∃ x, Hid (ia ys u = x) := ⟨_, rfl⟩
      rw [hxq.out] at cq0 cq1
      rw [hxu.out] at cu0 cu1
      clear hlen
      go_wp2_with fail
      go_region_held3 (fun w' => w'.cell? ⟨hb, 0, none⟩ = some (.slice (some ⟨g, 0, none⟩) xs.length cap) ∧ w'.cell? ⟨hb, 1, none⟩ = some (.func (.func 75) #[] #[]) ∧ w'.cell? ⟨g, q * 2, none⟩ = some (.int .i64 xq.1) ∧ w'.cell? ⟨g, q * 2 + 1, none⟩ = some (.int .i64 xq.2) ∧ w'.cell? ⟨g, u * 2, none⟩ = some (.int .i64 xu.1) ∧ w'.cell? ⟨g, u * 2 + 1, none⟩ = some (.int .i64 xu.2)) (go_keep) ((go_at_call 75; refine (first_any wr.drew xq xu).mono ?_; rintro e w2 ⟨rfl, k2⟩; have h2 := hr.drew.new k2; have q0 := h2.f0; rw [hlenH.out] at q0; have q1 := h2.f1; have q2 := h2.c0 (i := q) (by have := hlenH.out; omega); have q3 := h2.c1 (i := q) (by have := hlenH.out; omega); have q4 := h2.c0 (i := u) (by have := hlenH.out; omega); have q5 := h2.c1 (i := u) (by have := hlenH.out; omega); rw [hxq.out] at q2 q3; rw [hxu.out] at q4 q5))
      have hK := hk.trans ((Keeps.refl _ wr).drew.trans (k2.mono (fun _ _ e => e.elim)))
      clear f0 f1 cq0 cq1 cu0 cu1 q0 q1 q2 q3 q4 q5 hdiv
      cases hb' : bef xq xu with
      | false =>
        go_wp2_with fail
        go_ret
        have hok : bef (ia ys q) (ia ys (up q)) = false := by rw [hu.out, hxq.out, hxu.out]; exact hb'
        refine ⟨ys, O, _, rfl, h2, hK, hm, fun e => ?_, fun e => ?_⟩
        · have hp0 : q ≠ p := fun e' => by simp [e'] at e
          rcases hor with ⟨e1, _, _⟩ | ⟨_, hb'⟩
          · exact absurd e1 hp0
          · exact (hl.heavy (fun _ _ => hok)).heap hb'
        · have hp0 : q = p := by
            simp at e; omega
          rcases hor with ⟨_, e1, e2⟩ | ⟨h0, _⟩
          · exact ⟨e1, e2, fun h0 => by rw [← e1, ← hp0]; exact hok⟩
          · omega
      | true =>
        go_wp2_with fail
        refine (swap_any h2 (i := q) (j := u) (by have := hlenH.out; omega) (by have := hlenH.out; omega) hrF).mono ?_
        rintro e w3 ⟨rfl, h3, k3⟩
        go_wp2_with fail
        have hst := hl.up_step bef_lin (by omega) (by have := hlenH.out; omega) (by rw [hu.out, hxq.out, hxu.out]; exact hb')
        rw [hu.out] at hst
        have hmv := hm.trans (Moves.sw (M := O) (i := q) (j := u) (by have := hlenH.out; omega) (by have := hlenH.out; omega))
        rw [show (ia (sw ys q u) u) = ia ys q from by rw [ia_sw (by have := hlenH.out; omega) (by have := hlenH.out; omega)]; simp] at hmv
        clear hr h2 hrF hb'
        go_roundw
        case rel => exact ⟨u, _, _, rfl, by omega, h3, hmv, hK.trans k3, hst.1, .inr ⟨by omega, hst.2⟩⟩
        case measure => simp [intOf]; omega
end

end Go.Proofs.Ytfbbllokpikbiab.Q
