import Derived.Test.YteomlhcllmlkpaaGreatDoorTxN
import Derived.Test.YteomlhcllmlkpaaGreatDoorTxO
namespace Go.Proofs.YteomlhcllmlkpaaGreatDoor
open Go.RowKit
attribute [local go_sem] Oper.semAt_some run_store_nf run_store_f
section
variable {w W : World} {ρ : Nat → Nat} {c : Sc} {ab sb : Nat}
theorem hlog {m : Mm} {n : Nat} (h : m.log.length = n) (hn : n ≤ 10) : (m.log.length + 1) * 56 ≤ 140737488355328 := by omega
set_option maxRecDepth 1000000 in
theorem st1 (h : Hd w ρ c ab sb hx1 0 (fun _ => none) hs0 hm1 W) : Calls Tryz.prog 10 #[.pointer (some ⟨ab, 0, none⟩)] W fun e W' => (∃ r : Ro, r.told = false ∧ e = .returned (.tuple #[.agg r.cells.toArray, .int .i64 0])) ∧ ∃ ρ', Hd w ρ' c ab sb hx2 0 (fun _ => none) hs0 hm2 W' := by
  refine (h.step rfl (k := 51) rfl (fun _ _ => rfl) ((point_goes (o := 0) (HI0.mem 0 1).wf rfl (by decide) rfl (hlog (n := 0) rfl (by decide))).k W)).mono ?_
  rintro e W' ⟨rfl, hh⟩
  exact ⟨⟨_, rfl, rfl⟩, hh⟩
set_option maxRecDepth 1000000 in
theorem st2 (h : Hd w ρ c ab sb hx2 0 (fun _ => none) hs0 hm3 W) (hb : c.bare) : Calls Tryz.prog 10 #[.pointer (some ⟨ab, 0, none⟩)] W fun e W' => (∃ r : Ro, r.told = false ∧ e = .returned (.tuple #[.agg r.cells.toArray, .int .i64 0])) ∧ ∃ ρ', Hd w ρ' c ab sb hx3 0 (fun _ => none) hs0 hm4 W' := by
  refine (h.step rfl (k := 78) rfl (fun _ _ => rfl) ((see_goes (l := 0) (HI2.mem 1 1).wf rfl (by decide) rfl (hlog (n := 1) rfl (by decide)) (by decide) rfl rfl hb ⟨by decide, by decide⟩).k W)).mono ?_
  rintro e W' ⟨rfl, hh⟩
  exact ⟨⟨_, rfl, rfl⟩, hh⟩
set_option maxRecDepth 1000000 in
theorem st3 (h : Hd w ρ c ab sb hx3 0 (fun _ => none) hs0 hm5 W) (hb : c.bare) : Calls Tryz.prog 10 #[.pointer (some ⟨ab, 0, none⟩)] W fun e W' => (∃ r : Ro, r.told = false ∧ e = .returned (.tuple #[.agg r.cells.toArray, .int .i64 0])) ∧ ∃ ρ', Hd w ρ' c ab sb hx4 1 hf1 hs1 hm6 W' := by
  refine (h.step rfl (k := 54) rfl (fun _ _ => rfl) ((acq_goes HI5 (o := 0) (l := 0) (b := 0) rfl (by decide) rfl (by decide) rfl (by decide) (by decide) (by decide) (by decide) rfl (by decide) (by decide) (by decide) rfl (hlog (n := 2) rfl (by decide)) hb ⟨by decide, by decide⟩ rfl (by decide)).k W)).mono ?_
  rintro e W' ⟨rfl, hh⟩
  exact ⟨⟨_, rfl, rfl⟩, hh⟩
set_option maxRecDepth 1000000 in
theorem st4 (h : Hd w ρ c ab sb hx4 1 hf1 hs1 hm7 W) : Calls Tryz.prog 10 #[.pointer (some ⟨ab, 0, none⟩)] W fun e W' => (∃ r : Ro, r.told = true ∧ e = .returned (.tuple #[.agg r.cells.toArray, .int .i64 0])) ∧ ∃ ρ', Hd w ρ' c ab sb hx5 1 hf1 hs1 hm8 W' := by
  have f0 : ∀ k, k = 0 ∨ k = c.gb → ρ k = 0 ∧ k ≠ ab ∧ k ≠ c.om := fun k hk => hk.elim (fun e => by
    have := h.h0; have := h.la; have := h.lo
    subst e
    exact ⟨h.z 0 h.h0, by omega, by omega⟩) (fun e => by subst e; exact h.rg)
  refine (h.step rfl (k := 119) rfl (fun _ _ => rfl) (mine_goes h.mg h.tr rfl (HI6.mem 3 1) (by decide) rfl (hlog (n := 3) rfl (by decide)) (by decide) rfl (v := 0) rfl (by decide) f0)).mono ?_
  rintro e W' ⟨rfl, hh⟩
  exact ⟨⟨_, rfl, rfl⟩, hh⟩
set_option maxRecDepth 1000000 in
theorem st5 (h : Hd w ρ c ab sb hx6 1 hf1 hs2 hm9 W) : Calls Tryz.prog 10 #[.pointer (some ⟨ab, 0, none⟩)] W fun e W' => (∃ r : Ro, r.fin = 1 ∧ e = .returned (.tuple #[.agg r.cells.toArray, .int .i64 0])) ∧ ∃ ρ', Hd w ρ' c ab sb hx7 1 hf1 hs2 hm10 W' := by
  refine (h.step rfl (k := 61) rfl (fun _ _ => rfl) ((commit_goes HI9 (by decide) (by decide) rfl (hlog (n := 4) rfl (by decide)) (by decide)).k W)).mono ?_
  rintro e W' ⟨rfl, hh⟩
  exact ⟨⟨_, rfl, rfl⟩, hh⟩
end
end Go.Proofs.YteomlhcllmlkpaaGreatDoor
