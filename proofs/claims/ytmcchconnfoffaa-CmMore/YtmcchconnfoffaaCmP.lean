import Derived.Test.YtmcchconnfoffaaCmE
namespace Go.Proofs.Ytmcchconnfoffaa
open Go.RowKit
theorem limPat (w : World) (p : Int) : Calls Try.prog 33 #[.agg #[.int .i64 p]] w fun e w' => e = .returned (.int .i64 p) ∧ Keeps (fun _ => False) w w' := by
  go_enter Try.func33, Try.ntmps33
  go_wp2
  go_ret
  exact ⟨rfl, (Keeps.refl _ w).alloc _⟩
theorem oraPat (w : World) (p : Int) : Calls Try.prog 50 #[.agg #[.int .i64 p]] w fun e w' => e = .returned (.int .i64 p) ∧ Keeps (fun _ => False) w w' := by
  go_enter Try.func50, Try.ntmps50
  go_wp2
  go_ret
  exact ⟨rfl, (Keeps.refl _ w).alloc _⟩
set_option maxHeartbeats 1600000 in
set_option maxRecDepth 1000000 in
theorem patience0 {w : World} {mb : Nat} {p : Int} (hm : w.cell? ⟨mb, 0, none⟩ = some (.iface 51 (.agg #[.int .i64 p]))) :
    Calls Try.prog 12 #[.pointer (some ⟨mb, 0, none⟩)] w fun e w' => e = .returned (.int .i64 p) ∧ Keeps (fun _ => False) w w' := by
  have hi := isNone_no hm
  have hme : ∀ w : World, (method 178 51 (.agg #[.int .i64 p]) "braid/cm.patience").run Try.prog w = .ok (33, .agg #[.int .i64 p]) w := fun _ => by kernel_rfl
  go_enter Try.func12, Try.ntmps12
  go_wp2_with (first | (go_at_call 13; refine hi.mono ?_; rintro e w1 ⟨rfl, rfl⟩) | (go_at_call 33; refine (limPat _ _).mono ?_; rintro e w2 ⟨rfl, k2⟩))
  go_ret
  exact ⟨rfl, k2⟩
set_option maxHeartbeats 1600000 in
set_option maxRecDepth 1000000 in
theorem patience1 {w : World} {mb : Nat} {p : Int} (hm : w.cell? ⟨mb, 0, none⟩ = some (.iface 52 (.agg #[.int .i64 p]))) :
    Calls Try.prog 12 #[.pointer (some ⟨mb, 0, none⟩)] w fun e w' => e = .returned (.int .i64 p) ∧ Keeps (fun _ => False) w w' := by
  have hi := isNone_no hm
  have hme : ∀ w : World, (method 178 52 (.agg #[.int .i64 p]) "braid/cm.patience").run Try.prog w = .ok (33, .agg #[.int .i64 p]) w := fun _ => by kernel_rfl
  go_enter Try.func12, Try.ntmps12
  go_wp2_with (first | (go_at_call 13; refine hi.mono ?_; rintro e w1 ⟨rfl, rfl⟩) | (go_at_call 33; refine (limPat _ _).mono ?_; rintro e w2 ⟨rfl, k2⟩))
  go_ret
  exact ⟨rfl, k2⟩
set_option maxHeartbeats 1600000 in
set_option maxRecDepth 1000000 in
theorem patience2 {w : World} {mb : Nat} {p : Int} (hm : w.cell? ⟨mb, 0, none⟩ = some (.iface 53 (.agg #[.int .i64 p]))) :
    Calls Try.prog 12 #[.pointer (some ⟨mb, 0, none⟩)] w fun e w' => e = .returned (.int .i64 p) ∧ Keeps (fun _ => False) w w' := by
  have hi := isNone_no hm
  have hme : ∀ w : World, (method 178 53 (.agg #[.int .i64 p]) "braid/cm.patience").run Try.prog w = .ok (33, .agg #[.int .i64 p]) w := fun _ => by kernel_rfl
  go_enter Try.func12, Try.ntmps12
  go_wp2_with (first | (go_at_call 13; refine hi.mono ?_; rintro e w1 ⟨rfl, rfl⟩) | (go_at_call 33; refine (limPat _ _).mono ?_; rintro e w2 ⟨rfl, k2⟩))
  go_ret
  exact ⟨rfl, k2⟩
set_option maxHeartbeats 1600000 in
set_option maxRecDepth 1000000 in
theorem patience3 {w : World} {mb : Nat} {p : Int} (hm : w.cell? ⟨mb, 0, none⟩ = some (.iface 54 (.agg #[.int .i64 p]))) :
    Calls Try.prog 12 #[.pointer (some ⟨mb, 0, none⟩)] w fun e w' => e = .returned (.int .i64 p) ∧ Keeps (fun _ => False) w w' := by
  have hi := isNone_no hm
  have hme : ∀ w : World, (method 178 54 (.agg #[.int .i64 p]) "braid/cm.patience").run Try.prog w = .ok (33, .agg #[.int .i64 p]) w := fun _ => by kernel_rfl
  go_enter Try.func12, Try.ntmps12
  go_wp2_with (first | (go_at_call 13; refine hi.mono ?_; rintro e w1 ⟨rfl, rfl⟩) | (go_at_call 33; refine (limPat _ _).mono ?_; rintro e w2 ⟨rfl, k2⟩))
  go_ret
  exact ⟨rfl, k2⟩
set_option maxHeartbeats 1600000 in
set_option maxRecDepth 1000000 in
theorem patience4 {w : World} {mb : Nat} {p : Int} (hm : w.cell? ⟨mb, 0, none⟩ = some (.iface 56 (.agg #[.int .i64 p]))) :
    Calls Try.prog 12 #[.pointer (some ⟨mb, 0, none⟩)] w fun e w' => e = .returned (.int .i64 p) ∧ Keeps (fun _ => False) w w' := by
  have hi := isNone_no hm
  have hme : ∀ w : World, (method 178 56 (.agg #[.int .i64 p]) "braid/cm.patience").run Try.prog w = .ok (50, .agg #[.int .i64 p]) w := fun _ => by kernel_rfl
  go_enter Try.func12, Try.ntmps12
  go_wp2_with (first | (go_at_call 13; refine hi.mono ?_; rintro e w1 ⟨rfl, rfl⟩) | (go_at_call 50; refine (oraPat _ _).mono ?_; rintro e w2 ⟨rfl, k2⟩))
  go_ret
  exact ⟨rfl, k2⟩
theorem patience_any {w : World} {mb k : Nat} {p : Int} (h : Mg w mb k p) : Calls Try.prog 12 #[.pointer (some ⟨mb, 0, none⟩)] w fun e w' => e = .returned (.int .i64 p) ∧ Keeps (fun _ => False) w w' := by
  obtain ⟨hk, _, hm⟩ := h
  match k, hk with
  | 0, _ => exact patience0 hm
  | 1, _ => exact patience1 hm
  | 2, _ => exact patience2 hm
  | 3, _ => exact patience3 hm
  | 4, _ => exact patience4 hm
/-- A kind's own rule: how long it waits; none: abort. -/
def rulv (k : Nat) (c : Cf) : Option Int :=
  match k with
  | 0 => if 8 ≤ c.tries then none else some (1 + lowz c.tries.toNat c.draw)
  | 1 => if outr c = true then none else some 4
  | 2 => if outr c = true then none else some (1 + lowz (min c.tries 7).toNat c.draw)
  | 3 => if c.born < c.enemy ∨ c.flag = true then none else some 4
  | _ => if lowz 4 c.draw % 2 = 0 then none else some ((lowz 4 c.draw + 1) / 2 + if c.draw < 0 then 8 else 0)
theorem judge_rul {k : Nat} (hk : k < 5) (p : Int) (c : Cf) : judgev k p c = match rulv k c with | none => .ab | some n => if k < 4 then cutv p n c.waited else .wt n := by
  match k, hk with
  | 0, _ => simp only [judgev, rulv]; split <;> simp
  | 1, _ => simp only [judgev, rulv]; split <;> simp
  | 2, _ => simp only [judgev, rulv]; split <;> simp
  | 3, _ => simp only [judgev, rulv]; split <;> simp
  | 4, _ => simp only [judgev, rulv]; split <;> simp
theorem rul_form {k : Nat} (hk : k < 5) {c : Cf} (h0 : 0 ≤ c.tries) {n : Int} (h : rulv k c = some n) : 1 ≤ n ∧ n ≤ lng k := by
  match k, hk with
  | 0, _ =>
    simp only [rulv] at h
    split at h
    · cases h
    · cases h
      have a := lowz_nn c.tries.toNat c.draw
      have b := lowz_le7 (n := c.tries.toNat) (by omega) c.draw
      simp only [lng]; omega
  | 1, _ =>
    simp only [rulv] at h
    split at h
    · cases h
    · cases h; simp [lng]
  | 2, _ =>
    simp only [rulv] at h
    split at h
    · cases h
    · cases h
      have a := lowz_nn (min c.tries 7).toNat c.draw
      have b := lowz_le7 (n := (min c.tries 7).toNat) (by omega) c.draw
      simp only [lng]; omega
  | 3, _ =>
    simp only [rulv] at h
    split at h
    · cases h
    · cases h; simp [lng]
  | 4, _ =>
    simp only [rulv] at h
    split at h
    · cases h
    · cases h
      have a := lowz_nn 4 c.draw
      have b : lowz 4 c.draw < 16 := lowz_lt 4 c.draw
      simp only [lng]; split <;> omega
theorem rul_waited {k : Nat} (hk : k < 5) (c : Cf) (x : Int) : rulv k { c with waited := x } = rulv k c := by
  match k, hk with
  | 0, _ | 1, _ | 2, _ | 3, _ | 4, _ => rfl
theorem cut_wt {p n t : Int} (h : 1 ≤ p - t) : cutv p n t = .wt (min n (p - t)) := if_neg (by omega)
theorem cut_out {p n t : Int} (h : p - t < 1) : cutv p n t = .out := if_pos h
end Go.Proofs.Ytmcchconnfoffaa
