import Derived.Test.YtagplkgjdaojnaaTabH
namespace Go.Proofs.Ytagplkgjdaojnaa
open Go.RowKit
attribute [local go_sem] Oper.semAt_some

/-- What a step does. -/
inductive Stp (rs : List Rd) (kind ob ver : Int) : List Rd → Int → Int → Prop
  | held : kind = 2 → hld rs ob → Stp rs kind ob ver rs 0 70
  | adds : kind = 2 → ¬ hld rs ob → Stp rs kind ob ver (add rs ob ver) (rs.length : Int) 0
  | none : kind ≠ 2 → ¬ hld rs ob → Stp rs kind ob ver rs 0 71
  | out (j f : Nat) (r : Rd) : kind ≠ 2 → rs[j]? = some r → r.fate = 1 → r.ob = ob → (f = 2 ∧ kind ≠ 6 ∨ f = 3 ∧ kind = 6) → Stp rs kind ob ver (rs.set j (r.to f)) (j : Int) 0
theorem Stp.len {rs rs' : List Rd} {kind ob ver n e : Int} (h : Stp rs kind ob ver rs' n e) : rs'.length ≤ rs.length + 1 ∧ rs.length ≤ rs'.length := by
  cases h <;> simp [add]
theorem hld_dec (rs : List Rd) (ob : Int) : hld rs ob ∨ ¬ hld rs ob := Classical.em _

set_option maxHeartbeats 1600000 in
set_option maxRecDepth 1000000 in
theorem names_walk (w : World) : Calls Try.prog 3 #[] w fun e w' => e = .returned (.bool true) ∧ Below w.heap.size w w' := by
  go_enter Try.func3, Try.ntmps3
  go_wp2_with fail
  refine (new_any _).mono ?_
  rintro e w1 ⟨rfl, h1, k1⟩
  have n1 : ¬ hld [] 3 := by rintro ⟨j, r, h, _⟩; simp at h
  have A1 := add_ok h1 (ob := 3) (ver := 4) (by constructor <;> decide) (by constructor <;> decide) n1 (by simp)
  simp only [List.length_nil] at A1
  go_wp2_with fail
  refine A1.mono ?_
  rintro e w2 ⟨rfl, T2, h2, L2⟩
  have A2 := add_no h2 (ob := 3) 5 (by constructor <;> decide) ⟨0, ⟨3, 4, 1⟩, rfl, rfl, rfl⟩
  have A3 := fateOf_any h2 0
  have e3 : fto (add [] 3 4) 0 = (1, 0) := by decide
  rw [L2.tb] at A2 A3
  rw [e3] at A3
  simp only at A2 A3
  have K2 : Keeps (fun _ => False) w w2 := k1.trans' L2.kp (fun _ _ e => e) (fun i hi e => by
    rcases e with e | e | e | e
    · simp only at e; omega
    · cases e
    · cases e
    · cases e)
  clear h1 k1 n1 A1 h2 L2
  go_wp2_with fail
  refine A2.mono ?_
  rintro e w3 ⟨rfl, rfl⟩
  clear A2
  go_wp2_with fail
  refine A3.mono ?_
  rintro e w4 ⟨rfl, rfl⟩
  clear A3
  go_wp2_with fail
  go_ret
  exact ⟨rfl, K2.below (Nat.le_refl _) (fun _ _ e => e)⟩

set_option maxHeartbeats 1600000 in
set_option maxRecDepth 1000000 in
theorem step_any {w : World} {T : Tk} {rs : List Rd} (h : TV w T rs) {kind ob ver : Int} (h1 : I64 ob) (h2 : I64 ver) (hn : rs.length ≤ 4398046511200) : Calls Try.prog 14 #[.pointer (some ⟨T.tb, 0, none⟩), .int .i64 kind, .int .i64 ob, .int .i64 ver] w fun e w' => ∃ rs' n er T', e = .returned (.tuple #[.int .i64 n, .int .i64 er]) ∧ Stp rs kind ob ver rs' n er ∧ TV w' T' rs' ∧ Lf w w' T T' := by
  by_cases c2 : kind = 2
  · have hc : Calls Try.prog 9 #[.pointer (some ⟨T.tb, 0, none⟩), .int .i64 ob, .int .i64 ver] w fun e w' => ∃ rs' n er T', e = .returned (.tuple #[.int .i64 n, .int .i64 er]) ∧ Stp rs kind ob ver rs' n er ∧ TV w' T' rs' ∧ Lf w w' T T' := by
      rcases hld_dec rs ob with hh | hh
      · refine (add_no h ver h1 hh).mono ?_
        rintro e w' ⟨rfl, rfl⟩
        exact ⟨rs, 0, 70, T, rfl, .held c2 hh, h, Lf.refl _ _⟩
      · refine (add_ok h h1 h2 hh hn).mono ?_
        rintro e w' ⟨rfl, T', h', l'⟩
        exact ⟨_, _, 0, T', rfl, .adds c2 hh, h', l'⟩
    clear h
    subst c2
    go_enter Try.func14, Try.ntmps14
    go_wp2_with ((go_at_call 9; refine hc.mono ?_; rintro e w1 ⟨rs', n, er, T', rfl, hS, hT, hL⟩))
    refine bodyPost_ret (v := .tuple #[.int .i64 n, .int .i64 er]) (by simp [results, Try.f14, go_sem]) rfl ⟨rs', n, er, T', rfl, hS, hT, hL⟩
  · have key : ∀ (f : Nat) (fn : Nat), (f = 2 ∧ kind ≠ 6 ∨ f = 3 ∧ kind = 6) → (hld rs ob → ∃ j r, rs[j]? = some r ∧ r.fate = 1 ∧ r.ob = ob ∧ Calls Try.prog fn #[.pointer (some ⟨T.tb, 0, none⟩), .int .i64 ob] w fun e w' => e = .returned (.tuple #[ev (r.en j), .int .i64 0]) ∧ ∃ T', TV w' T' (rs.set j (r.to f)) ∧ Lf w w' T T') → (¬ hld rs ob → Calls Try.prog fn #[.pointer (some ⟨T.tb, 0, none⟩), .int .i64 ob] w fun e w' => e = .returned (.tuple #[ev0, .int .i64 71]) ∧ Keeps (fun _ => False) w w') →
        Calls Try.prog fn #[.pointer (some ⟨T.tb, 0, none⟩), .int .i64 ob] w fun e w' => ∃ o v n er rs' T', e = .returned (.tuple #[.agg #[.int .i64 o, .int .i64 v, .int .i64 n], .int .i64 er]) ∧ Stp rs kind ob ver rs' n er ∧ TV w' T' rs' ∧ Lf w w' T T' := fun f fn hf ho hx => by
      rcases hld_dec rs ob with hh | hh
      · obtain ⟨j, r, r1, r2, r3, r4⟩ := ho hh
        refine r4.mono ?_
        rintro e w' ⟨rfl, T', h', l'⟩
        exact ⟨_, _, _, _, _, T', rfl, .out j f r c2 r1 r2 r3 hf, h', l'⟩
      · refine (hx hh).mono ?_
        rintro e w' ⟨rfl, k'⟩
        exact ⟨_, _, _, _, _, T, rfl, .none c2 hh, h.new k', Lf.new k'⟩
    have hb2 : (kind == 2) = false := by simpa using c2
    by_cases c6 : kind = 6
    · have hc := key 3 11 (.inr ⟨rfl, c6⟩) (fun ⟨j, r, r1, r2, r3⟩ => ⟨j, r, r1, r2, r3, r3 ▸ upgrade_ok h r1 r2 hn⟩) (fun hh => upgrade_no h h1 hh)
      have hb6 : (kind == 6) = true := by simpa using c6
      have HC6 : Hid (kind = 6) := c6
      clear h key c2 c6
      go_enter Try.func14, Try.ntmps14
      go_wp2_with ((go_at_call 11; refine hc.mono ?_; rintro e w1 ⟨o, v, n, er, rs', T', rfl, hS, hT, hL⟩))
      have kA := ((Keeps.refl (fun _ => False) w1).alloc (.cells #[.int .i64 o, .int .i64 v, .int .i64 n] 36))
      refine bodyPost_ret (v := .tuple #[.int .i64 n, .int .i64 er]) (by simp [results, Try.f14, go_sem]) rfl ⟨rs', n, er, T', rfl, hS, hT.new kA, hL.trans (Lf.new kA)⟩
    · have hc := key 2 12 (.inl ⟨rfl, c6⟩) (fun ⟨j, r, r1, r2, r3⟩ => ⟨j, r, r1, r2, r3, r3 ▸ release_ok h r1 r2 hn⟩) (fun hh => release_no h h1 hh)
      have hb6 : (kind == 6) = false := by simpa using c6
      clear h key c2 c6
      go_enter Try.func14, Try.ntmps14
      go_wp2_with ((go_at_call 12; refine hc.mono ?_; rintro e w1 ⟨o, v, n, er, rs', T', rfl, hS, hT, hL⟩))
      have kA := ((Keeps.refl (fun _ => False) w1).alloc (.cells #[.int .i64 o, .int .i64 v, .int .i64 n] 36))
      refine bodyPost_ret (v := .tuple #[.int .i64 n, .int .i64 er]) (by simp [results, Try.f14, go_sem]) rfl ⟨rs', n, er, T', rfl, hS, hT.new kA, hL.trans (Lf.new kA)⟩
end Go.Proofs.Ytagplkgjdaojnaa
