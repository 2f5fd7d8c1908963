import Derived.Test.YtfbbllokpikbiabOqHEQ
namespace Go.Proofs.Ytfbbllokpikbiab.Q
open Go.RowKit Go.Maps

section
variable {w : World} {hb g cap : Nat} {xs : List It} {pm mb s : Nat} {M : Mp}

set_option maxHeartbeats 3200000 in
set_option maxRecDepth 1000000 in
/-- One is lowered under all that are before it. -/
theorem sink_any (h : HS w hb g cap xs pm mb s M) {p : Nat} (hp : p < xs.length) (hF : Full M xs) (hH : Heavy bef xs p) :
    Calls Try.prog 91 #[.pointer (some ⟨hb, 0, none⟩), .int .i64 (p : Int)] w fun e w' =>
      e = .returned (.tuple #[]) ∧ ∃ xs' M', HS w' hb g cap xs' pm mb s M' ∧ Keeps (Tch g mb) w w' ∧ Moves xs M xs' M' ∧ Heap bef xs' := by
  have hsm := h.small
  go_enter Try.func91, Try.ntmps91
  go_wp2_with fail
  go_loopw [1] (fun pv wr => ∃ (q : Nat) (ys : List It) (O : Mp), pv = .int .i64 q ∧ q < xs.length ∧ HS wr hb g cap ys pm mb s O ∧ Moves xs M ys O ∧ Keeps (Tch g mb) w wr ∧ Heavy bef ys q) (fun pv _ => xs.length - (intOf pv).toNat)
  case atStart => exact ⟨p, xs, M, rfl, hp, h, Moves.refl _ _, Keeps.refl _ _, hH⟩
  case round =>
    obtain ⟨q, ys, O, rfl, hq, hr, hm, hk, hl⟩ := hrel
    have hlenH : Hid (ys.length = xs.length) := hm.length
    have hrF := hm.full hF
    go_wp2_with fail
    refine (firstBelow_any hr (p := q) (by have := hlenH.out; omega)).mono ?_
    rintro e w1 ⟨rr, rfl, k1, hle⟩
    have hr1 := hr.new k1
    have hk1 := hk.trans (k1.mono (fun _ _ e => e.elim))
    clear hr k1
    rcases hle with ⟨rfl, hno⟩ | ⟨b, rfl, hb0, hbl, hbu, hmin⟩
    · go_wp2_with fail
      go_quiet (fail)
      go_wp2_with fail
      first | go_end0 | ((try simp only [Exit.inBlock, Exit.then]); refine bodyPost_ret (results_none rfl _ _ _) rfl ?_)
      exact ⟨rfl, ys, O, hr1.new ((Keeps.refl _ _).drewN _), hk1.drewN _, hm, hl.heap (fun c h0 h1 h2 => absurd h2 (hno c h0 h1))⟩
    · have hbx : b < xs.length := by have := hlenH.out; omega
      have hbI : (b : Int) < (xs.length : Int) := by omega
      have hqI : (q : Int) < (xs.length : Int) := by omega
      have hb1 : decide ((b : Int) < 0) = false := by simp
      have f0 := hr1.f0
      rw [hlenH.out] at f0
      have f1 := hr1.f1
      have cq0 := hr1.c0 (i := q) (by have := hlenH.out; omega)
      have cq1 := hr1.c1 (i := q) (by have := hlenH.out; omega)
      have cb0 := hr1.c0 (i := b) hbl
      have cb1 := hr1.c1 (i := b) hbl
      obtain ⟨xq, hxq⟩ : ∃ x, Hid (ia ys q = x) := ⟨_, rfl⟩
      obtain ⟨xb, hxb⟩ : ∃ x, Hid (ia ys b = x) := ⟨_, rfl⟩
      rw [hxq.out] at cq0 cq1
      rw [hxb.out] at cb0 cb1
      have hq' : Hid (up b = q) := hbu
      have hmin' : Hid (∀ c, 0 < c → c < ys.length → up c = q → bef (ia ys c) (ia ys b) = false) := hmin
      have hbl' : Hid (b < ys.length) := hbl
      clear hbu hmin hbl
      go_wp2_with fail
      go_region_held3 (fun w' => w'.cell? ⟨hb, 0, none⟩ = some (.slice (some ⟨g, 0, none⟩) xs.length cap) ∧ w'.cell? ⟨hb, 1, none⟩ = some (.func (.func 75) #[] #[]) ∧ w'.cell? ⟨g, q * 2, none⟩ = some (.int .i64 xq.1) ∧ w'.cell? ⟨g, q * 2 + 1, none⟩ = some (.int .i64 xq.2) ∧ w'.cell? ⟨g, b * 2, none⟩ = some (.int .i64 xb.1) ∧ w'.cell? ⟨g, b * 2 + 1, none⟩ = some (.int .i64 xb.2)) (go_keep) ((go_at_call 75; refine (first_any w1.drew xb xq).mono ?_; rintro e w2 ⟨rfl, k2⟩; have h2 := hr1.drew.new k2; have q0 := h2.f0; rw [hlenH.out] at q0; have q1 := h2.f1; have q2 := h2.c0 (i := q) (by have := hlenH.out; omega); have q3 := h2.c1 (i := q) (by have := hlenH.out; omega); have q4 := h2.c0 (i := b) hbl'.out; have q5 := h2.c1 (i := b) hbl'.out; rw [hxq.out] at q2 q3; rw [hxb.out] at q4 q5))
      have hK := hk1.trans ((Keeps.refl _ w1).drew.trans (k2.mono (fun _ _ e => e.elim)))
      clear f0 f1 cq0 cq1 cb0 cb1 q0 q1 q2 q3 q4 q5
      cases hb' : bef xb xq with
      | false =>
        go_wp2_with fail
        first | go_end0 | ((try simp only [Exit.inBlock, Exit.then]); refine bodyPost_ret (results_none rfl _ _ _) rfl ?_)
        exact ⟨rfl, ys, O, h2, hK, hm, hl.heap (fun c h0 h1 h2 => bef_lin.trans (hmin'.out c h0 h1 h2) (by rw [hxb.out, hxq.out]; exact hb'))⟩
      | true =>
        go_wp2_with fail
        refine (swap_any h2 (i := q) (j := b) (by have := hlenH.out; omega) hbl'.out hrF).mono ?_
        rintro e w3 ⟨rfl, h3, k3⟩
        go_wp2_with fail
        have hst := hl.down_step bef_lin hb0 hbl'.out hq'.out (by rw [hxb.out, hxq.out]; exact hb') hmin'.out
        have hmv := hm.trans (Moves.sw (M := O) (i := q) (j := b) (by have := hlenH.out; omega) hbl'.out)
        rw [show (ia (sw ys q b) b) = ia ys q from by rw [ia_sw (by have := hlenH.out; omega) hbl'.out]; simp] at hmv
        have hqb : q < b := by have := hq'.out; unfold up at this; omega
        clear hr1 h2 hrF hb'
        go_roundw
        case rel => exact ⟨b, _, _, rfl, hbx, h3, hmv, hK.trans k3, hst⟩
        case measure => simp [intOf]; omega

set_option maxHeartbeats 1600000 in
set_option maxRecDepth 1000000 in
/-- One is brought to where it belongs. -/
theorem settle_any (h : HS w hb g cap xs pm mb s M) {p : Nat} (hp : p < xs.length) (hF : Full M xs) (hL : Loose bef xs p) :
    Calls Try.prog 88 #[.pointer (some ⟨hb, 0, none⟩), .int .i64 (p : Int)] w fun e w' =>
      e = .returned (.tuple #[]) ∧ ∃ xs' M', HS w' hb g cap xs' pm mb s M' ∧ Keeps (Tch g mb) w w' ∧ Moves xs M xs' M' ∧ Heap bef xs' := by
  go_enter Try.func88, Try.ntmps88
  go_wp2_with fail
  refine (rise_any h hp hF hL).mono ?_
  rintro e w1 ⟨ys, O, moved, rfl, h1, k1, m1, ht, hf⟩
  cases moved with
  | true =>
    have hh := ht rfl
    go_wp2_with fail
    first | go_end0 | ((try simp only [Exit.inBlock, Exit.then]); refine bodyPost_ret (results_none rfl _ _ _) rfl ?_)
    exact ⟨rfl, ys, O, h1, k1, m1, hh⟩
  | false =>
    obtain ⟨rfl, rfl, hok⟩ := hf rfl
    go_wp2_with fail
    refine (sink_any h1 hp hF (hL.heavy (fun h0 _ => hok h0))).mono ?_
    rintro e w2 ⟨rfl, zs, N, h2, k2, m2, hh⟩
    go_wp2_with fail
    first | go_end0 | ((try simp only [Exit.inBlock, Exit.then]); refine bodyPost_ret (results_none rfl _ _ _) rfl ?_)
    exact ⟨rfl, zs, N, h2, k1.trans k2, m2, hh⟩
end

end Go.Proofs.Ytfbbllokpikbiab.Q
