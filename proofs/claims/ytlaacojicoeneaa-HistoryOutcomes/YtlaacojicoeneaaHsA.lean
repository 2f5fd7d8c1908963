import Derived.Test.YtlaacojicoeneaaHsSt
namespace Go.Proofs.Ytlaacojicoeneaa
open Go.RowKit
theorem results_cell1 {fn : Func} {p : Tmp} {ty : TypeId} (h : fn.results = #[.cell p ty]) (tmps : Array Value) (P : Program) (w : World) :
    (results fn tmps).run P w = ((asAddr (tmps.getD p undef)).run P w).andThen fun a w₁ => (loadVar ty a).run P w₁ := by
  simp only [results, h]
  simp [Sem.run_bind, Result.andThen]
def sil (r : Rw) : Bool := r.fin == 0 && !r.told && !r.puts
/-- Is a kind one of an attempt's rows? -/
def ofA (k : Int) : Bool := decide (2 < k) && decide (k < 17)
def ofD (k : Int) : Bool := k != 0 && k != 1 && k != 2 && k != 17
/-- Is an end an outcome? -/
def dec (n : Int) : Bool := n == 1 || n == 2 || n == 3
def comm (r : Rw) : Bool := r.kind == 15 && r.done
/-- May an attempt's row end so? -/
def endP (r : Rw) : Bool := if r.fin = 1 then comm r else if r.fin = 2 ∨ r.fin = 3 then r.kind == 16 else if r.fin = 0 ∨ r.fin = 4 ∨ r.fin = 5 then !comm r else false
def endD (r : Rw) : Bool := if decide (r.fin < 0) || decide (5 < r.fin) || (r.fin != 0 && !ofD r.kind) then false else if comm r != (r.fin == 1) then false else (r.fin != 2 && r.fin != 3) || r.kind == 16
/-- May an attempt's row tell, put and release so? n: the count. -/
def readP (r : Rw) (n : Int) : Bool :=
  if (r.told || r.puts) && decide (r.object < 0) then false
  else if r.kind = 4 then !r.told && decide (-1 ≤ r.entry) && decide (r.entry < n)
  else if r.told = false then true
  else if r.phase = 1 then decide (-1 ≤ r.entry) && decide (r.entry ≤ n)
  else if r.phase = 2 then decide (-1 ≤ r.entry) && decide (r.entry < n)
  else false
def readD (r : Rw) (n : Int) : Bool := if ofD r.kind then readP r n else !r.told && !r.puts
section
variable (w : World)
set_option maxHeartbeats 600000 in
set_option maxRecDepth 100000 in
theorem silent_any (r : Rw) : Calls Try.prog 51 #[.agg r.cells.toArray] w fun e w' => e = .returned (.bool (sil r)) ∧ Keeps (fun _ => False) w w' := by
  obtain ⟨w0, e0, k0, hb, -⟩ := rw_box w r
  obtain ⟨-, c0, c1, c2, c3, c4, c5, c6, c7, c8, c11, c13, c17, c21, c25⟩ := hb
  clear c0 c1 c2 c3 c4 c5 c6 c7 c8 c11 c13
  go_enter Try.func51, Try.ntmps51
  refine wp_seq_k (fun KK hKK => ?_)
  have hKH : Hid _ := hKK
  clear hKK
  go_wp2_with fail
  refine hKH.out _ _ ?_
  clear hKH KK
  rw [← e0]
  clear e0
  unfold sil
  generalize r.fin = fn at *
  generalize r.told = tl at *
  generalize r.puts = pt at *
  cases h1 : (fn == 0) <;> cases tl <;> cases pt <;> (go_wp2; go_ret; exact ⟨rfl, k0⟩)
set_option maxHeartbeats 600000 in
set_option maxRecDepth 100000 in
theorem whoOf_any (r : Rw) : Calls Try.prog 52 #[.agg r.cells.toArray] w fun e w' => e = .returned (.agg #[.int .i64 r.job, .int .i64 r.try_, .int .i64 r.no]) ∧ Keeps (fun _ => False) w w' := by
  obtain ⟨w0, e0, k0, hb, hz⟩ := rw_box w r
  have m1 : CL (w0.alloc (.cells #[.int .i64 0, .int .i64 0, .int .i64 0] 105)) (w.heap.size + 1) [.int .i64 0, .int .i64 0, .int .i64 0] := by rw [← hz]; exact CL.made w0 _ _
  have k1 : Keeps (fun _ => False) w (w0.alloc (.cells #[.int .i64 0, .int .i64 0, .int .i64 0] 105)) := k0.alloc _
  have c2 := ((Keeps.refl (fun _ => False) w0).alloc (.cells #[.int .i64 0, .int .i64 0, .int .i64 0] 105)).cell hb.c2 (fun e => e)
  have c3 := ((Keeps.refl (fun _ => False) w0).alloc (.cells #[.int .i64 0, .int .i64 0, .int .i64 0] 105)).cell hb.c3 (fun e => e)
  have c4 := ((Keeps.refl (fun _ => False) w0).alloc (.cells #[.int .i64 0, .int .i64 0, .int .i64 0] 105)).cell hb.c4 (fun e => e)
  clear hb hz k0
  go_enter Try.func52, Try.ntmps52
  refine wp_seq_k (fun KK hKK => ?_)
  have hKH : Hid _ := hKK
  clear hKK
  go_wp2_with fail
  refine hKH.out _ _ ?_
  clear hKH KK
  rw [← e0]
  clear e0
  generalize w0.alloc (.cells #[.int .i64 0, .int .i64 0, .int .i64 0] 105) = W1 at *
  have d0 := m1.c 0 _ rfl
  have d1 := m1.c 1 _ rfl
  have d2 := m1.c 2 _ rfl
  have y0 := m1.z 0 (by decide)
  have y1 := m1.z 1 (by decide)
  have y2 := m1.z 2 (by decide)
  clear m1
  generalize r.job = jb at *
  generalize r.try_ = ty at *
  generalize r.no = nn at *
  go_wp2
  refine bodyPost_ret (v := .agg #[.int .i64 jb, .int .i64 ty, .int .i64 nn]) (by rw [results_cell1 rfl]; go_simp) rfl ⟨rfl, ?_⟩
  exact ((k1.setCell (fun h => absurd h (by simp)) _).setCell (fun h => absurd h (by simp)) _).setCell (fun h => absurd h (by simp)) _
set_option maxHeartbeats 600000 in
set_option maxRecDepth 100000 in
theorem ofAttempt_any (k : Int) : Calls Try.prog 53 #[.int .i64 k] w fun e w' => e = .returned (.bool (ofA k)) ∧ w' = w := by
  unfold ofA
  cases h1 : decide (2 < k) <;> cases h2 : decide (k < 17) <;>
  (go_enter Try.func53, Try.ntmps53
   go_wp2
   go_ret
   exact ⟨rfl, rfl⟩)
set_option maxHeartbeats 600000 in
set_option maxRecDepth 100000 in
theorem decides_any (k : Int) : Calls Try.prog 35 #[.int .i64 k] w fun e w' => e = .returned (.bool (dec k)) ∧ w' = w := by
  unfold dec
  cases h1 : (k == 1) <;> cases h2 : (k == 2) <;> cases h3 : (k == 3) <;>
  (go_enter Try.func35, Try.ntmps35
   go_wp2
   go_ret
   exact ⟨rfl, rfl⟩)
set_option maxHeartbeats 600000 in
set_option maxRecDepth 100000 in
theorem outcome_any (k : Int) : Calls Try.prog 34 #[.int .i64 k] w fun e w' => e = .returned (.bool (dec k)) ∧ w' = w := by
  unfold dec
  cases h1 : (k == 1) <;> cases h2 : (k == 2) <;> cases h3 : (k == 3) <;>
  (go_enter Try.func34, Try.ntmps34
   go_wp2
   go_ret
   exact ⟨rfl, rfl⟩)
set_option maxHeartbeats 600000 in
set_option maxRecDepth 100000 in
theorem of_any (k : Int) : Calls Try.prog 43 #[.int .i64 k] w fun e w' => e = .returned (.bool (ofD k)) ∧ w' = w := by
  unfold ofD
  cases h1 : (k != 0) <;> cases h2 : (k != 1) <;> cases h3 : (k != 2) <;> cases h4 : (k != 17) <;>
  (go_enter Try.func43, Try.ntmps43
   go_wp2
   go_ret
   exact ⟨rfl, rfl⟩)
set_option maxHeartbeats 600000 in
set_option maxRecDepth 100000 in
theorem endFits_any (r : Rw) : Calls Try.prog 54 #[.agg r.cells.toArray] w fun e w' => e = .returned (.bool (endP r)) ∧ Keeps (fun _ => False) w w' := by
  obtain ⟨w0, e0, k0, hb, -⟩ := rw_box w r
  obtain ⟨-, c0, c1, c2, c3, c4, c5, c6, c7, c8, c11, c13, c17, c21, c25⟩ := hb
  clear c0 c1 c2 c3 c4 c6 c7 c8 c11 c17 c21
  go_enter Try.func54, Try.ntmps54
  refine wp_seq_k (fun KK hKK => ?_)
  have hKH : Hid _ := hKK
  clear hKK
  go_wp2_with fail
  refine hKH.out _ _ ?_
  clear hKH KK
  rw [← e0]
  clear e0
  unfold endP comm
  generalize r.kind = kd at *
  generalize r.done = dn at *
  generalize r.fin = fn at *
  by_cases g : fn = 0 ∨ fn = 1 ∨ fn = 2 ∨ fn = 3 ∨ fn = 4 ∨ fn = 5
  · rcases g with rfl | rfl | rfl | rfl | rfl | rfl
    iterate 2
      cases h1 : (kd == 15)
      · go_wp2; go_ret; exact ⟨rfl, k0⟩
      · cases dn <;> (go_wp2; go_ret; exact ⟨rfl, k0⟩)
    iterate 2
      cases h1 : (kd == 15)
      · cases h2 : (kd == 16) <;> (go_wp2; go_ret; exact ⟨rfl, k0⟩)
      · cases dn <;> cases h2 : (kd == 16) <;> (go_wp2; go_ret; exact ⟨rfl, k0⟩)
    iterate 2
      cases h1 : (kd == 15)
      · go_wp2; go_ret; exact ⟨rfl, k0⟩
      · cases dn <;> (go_wp2; go_ret; exact ⟨rfl, k0⟩)
  · have b0 : (fn == 0) = false := beq_eq_false_iff_ne.2 (by omega)
    have b1 : (fn == 1) = false := beq_eq_false_iff_ne.2 (by omega)
    have b2 : (fn == 2) = false := beq_eq_false_iff_ne.2 (by omega)
    have b3 : (fn == 3) = false := beq_eq_false_iff_ne.2 (by omega)
    have b4 : (fn == 4) = false := beq_eq_false_iff_ne.2 (by omega)
    have b5 : (fn == 5) = false := beq_eq_false_iff_ne.2 (by omega)
    rw [if_neg (by omega), if_neg (by omega), if_neg (by omega)]
    clear g
    cases h1 : (kd == 15)
    · go_wp2; go_ret; exact ⟨rfl, k0⟩
    · cases dn <;> (go_wp2; go_ret; exact ⟨rfl, k0⟩)
set_option maxHeartbeats 600000 in
set_option maxRecDepth 100000 in
theorem ended_any (r : Rw) : Calls Try.prog 28 #[.agg r.cells.toArray] w fun e w' => e = .returned (.bool (endD r)) ∧ Keeps (fun _ => False) w w' := by
  obtain ⟨w0, e0, k0, hb, -⟩ := rw_box w r
  obtain ⟨-, c0, c1, c2, c3, c4, c5, c6, c7, c8, c11, c13, c17, c21, c25⟩ := hb
  clear c0 c1 c2 c3 c4 c6 c7 c8 c11 c17 c21
  go_enter Try.func28, Try.ntmps28
  refine wp_seq_k (fun KK hKK => ?_)
  have hKH : Hid _ := hKK
  clear hKK
  go_wp2_with fail
  refine hKH.out _ _ ?_
  clear hKH KK
  rw [← e0]
  clear e0
  unfold endD comm
  generalize r.kind = kd at *
  generalize r.done = dn at *
  generalize r.fin = fn at *
  have hof := of_any w0 kd
  by_cases g : fn = 0 ∨ fn = 1 ∨ fn = 2 ∨ fn = 3 ∨ fn = 4 ∨ fn = 5
  · by_cases g0 : fn = 0
    · subst g0
      clear hof
      cases h1 : (kd == 15)
      · go_wp2; go_ret; exact ⟨rfl, k0⟩
      · cases dn <;> (go_wp2; go_ret; exact ⟨rfl, k0⟩)
    cases ho : ofD kd
    · rw [ho] at hof
      rcases g with rfl | rfl | rfl | rfl | rfl | rfl
      · exact absurd rfl g0
      all_goals (go_wp2_with (go_at_call 43; refine hof.mono ?_; rintro e w9 ⟨rfl, rfl⟩); go_ret; exact ⟨rfl, k0⟩)
    · rw [ho] at hof
      rcases g with rfl | rfl | rfl | rfl | rfl | rfl
      · exact absurd rfl g0
      · cases h1 : (kd == 15)
        · go_wp2_with (go_at_call 43; refine hof.mono ?_; rintro e w9 ⟨rfl, rfl⟩)
          go_ret; exact ⟨rfl, k0⟩
        · cases dn <;> (go_wp2_with (go_at_call 43; refine hof.mono ?_; rintro e w9 ⟨rfl, rfl⟩); go_ret; exact ⟨rfl, k0⟩)
      iterate 2
        cases h1 : (kd == 15)
        · cases h2 : (kd == 16) <;> (go_wp2_with (go_at_call 43; refine hof.mono ?_; rintro e w9 ⟨rfl, rfl⟩); go_ret; exact ⟨rfl, k0⟩)
        · cases dn
          · cases h2 : (kd == 16) <;> (go_wp2_with (go_at_call 43; refine hof.mono ?_; rintro e w9 ⟨rfl, rfl⟩); go_ret; exact ⟨rfl, k0⟩)
          · go_wp2_with (go_at_call 43; refine hof.mono ?_; rintro e w9 ⟨rfl, rfl⟩)
            go_ret; exact ⟨rfl, k0⟩
      all_goals
        cases h1 : (kd == 15)
        · go_wp2_with (go_at_call 43; refine hof.mono ?_; rintro e w9 ⟨rfl, rfl⟩)
          go_ret; exact ⟨rfl, k0⟩
        · cases dn <;> (go_wp2_with (go_at_call 43; refine hof.mono ?_; rintro e w9 ⟨rfl, rfl⟩); go_ret; exact ⟨rfl, k0⟩)
  · clear hof
    by_cases g1 : fn < 0
    · have b0 : decide (fn < 0) = true := decide_eq_true g1
      rw [if_pos (by rw [b0]; rfl)]
      clear g
      go_wp2; go_ret; exact ⟨rfl, k0⟩
    · have b0 : decide (fn < 0) = false := decide_eq_false g1
      have b1 : decide (5 < fn) = true := decide_eq_true (by omega)
      rw [if_pos (by rw [b0, b1]; rfl)]
      clear g
      go_wp2; go_ret; exact ⟨rfl, k0⟩
end
end Go.Proofs.Ytlaacojicoeneaa
