import Derived.Test.YteomlhcllmlkpaaGreatDoorTxB
namespace Go.Proofs.YteomlhcllmlkpaaGreatDoor
open Go.RowKit
attribute [local go_sem] Oper.semAt_some run_store_nf run_store_f

theorem owns_slice {w : World} {base e size : Nat} {v : Value} {n : Nat} {xs : List Value} (h : w.ownsRow base e size v n xs) : ∃ a cap, v = .slice a n cap ∧ (0 < n → ∃ g, a = some ⟨g, 0, none⟩ ∧ v.ownBlock = some g) := by
  rcases h.2 with ⟨rfl, rfl⟩ | ⟨g, cap, cur, rfl, _⟩
  · exact ⟨none, 0, rfl, fun h => by omega⟩
  · exact ⟨_, _, rfl, fun _ => ⟨g, rfl, rfl⟩⟩
/-- What Took tells. -/
def Mm.took (s : Mm) : Rw := if s.begun = false ∨ s.free = true then rw0 else ra s.log (s.log.length - 1)
/-- Where a step has had its access there is a row. -/
def Mm.had (s : Mm) : Prop := s.begun = true → s.free = false → 0 < s.log.length

set_option maxHeartbeats 3200000 in
set_option maxRecDepth 1000000 in
theorem took_any {w : World} {mb : Nat} {s : Mm} {B : List Nat} (h : MI w mb s B) (hh : s.had) (hl : s.log.length ≤ 4611686018427387903) :
    Calls Tryz.prog 92 #[.pointer (some ⟨mb, 0, none⟩)] w fun e w' => e = .returned (.agg #[.int .i64 s.took.step, .int .i64 s.took.thread, .int .i64 s.took.kind, .int .i64 s.took.cell, .int .i64 s.took.seen, .int .i64 s.took.wrote, .bool s.took.done]) ∧ Keeps (fun _ => False) w w' := by
  obtain ⟨vc, vl, h, rfl⟩ := h
  have hpq := peq mb
  have K0 : ∀ o, Keeps (fun _ => False) w (w.alloc o) := fun o => (Keeps.refl _ w).alloc o
  have f3 : ∀ o, (w.alloc o).cell? ⟨mb, 4, none⟩ = some (.bool s.begun) := fun o => (K0 o).cell h.f4 (fun e => e)
  have f5 : ∀ o, (w.alloc o).cell? ⟨mb, 5, none⟩ = some (.bool s.free) := fun o => (K0 o).cell h.f5 (fun e => e)
  cases hb : s.begun with
  | false =>
    have e : s.took = rw0 := by simp [Mm.took, hb]
    rw [e]
    rw [hb] at f3
    clear h f5 hh
    go_enter Tryz.func92, Tryz.ntmps92
    go_wp2_with fail
    (try simp only [Exit.inBlock, Exit.then])
    refine bodyPost_ret (v := .agg #[.int .i64 0, .int .i64 0, .int .i64 0, .int .i64 0, .int .i64 0, .int .i64 0, .bool false]) ?_ rfl ⟨rfl, K0 _⟩
    simp [results, Tryz.f92, go_sem]
  | true =>
    rw [hb] at f3
    cases hf : s.free with
    | true =>
      have e : s.took = rw0 := by simp [Mm.took, hf]
      rw [e]
      rw [hf] at f5
      clear h hh
      go_enter Tryz.func92, Tryz.ntmps92
      go_wp2_with fail
      (try simp only [Exit.inBlock, Exit.then])
      refine bodyPost_ret (v := .agg #[.int .i64 0, .int .i64 0, .int .i64 0, .int .i64 0, .int .i64 0, .int .i64 0, .bool false]) ?_ rfl ⟨rfl, K0 _⟩
      simp [results, Tryz.f92, go_sem]
    | false =>
      have hp := hh hb hf
      have e : s.took = ra s.log (s.log.length - 1) := by simp [Mm.took, hb, hf]
      rw [e]
      rw [hf] at f5
      obtain ⟨ag, cg, hvg, hsg⟩ := owns_slice h.rl
      obtain ⟨gg, hag, hgg⟩ := hsg hp
      have f2 : ∀ o, (w.alloc o).cell? ⟨mb, 1, none⟩ = some (.slice (some ⟨gg, 0, none⟩) s.log.length cg) := fun o => by
        have := (K0 o).cell h.f1 (fun e => e); rw [hvg, hag] at this; exact this
      have R := owns_row h.rl hgg (i := s.log.length - 1) (by omega)
      obtain ⟨w0, hw0⟩ : ∃ w0, w0 = w.alloc (.cells #[.int .i64 0, .int .i64 0, .int .i64 0, .int .i64 0, .int .i64 0, .int .i64 0, .bool false] 180) := ⟨_, rfl⟩
      have R0 : RowAt w0 gg ((s.log.length - 1) * 7) (ra s.log (s.log.length - 1)) := by rw [hw0]; exact R.keep (K0 _) (fun e => e)
      have B0 : RowAt w0 w.heap.size 0 rw0 := by rw [hw0]; constructor <;> simp [rw0]
      have Z0 : ∀ o, w0.frozen? ⟨w.heap.size, o, none⟩ = false := fun o => by rw [hw0]; simp
      have KW : Keeps (fun _ => False) w w0 := by rw [hw0]; exact K0 _
      have g2 : w0.cell? ⟨mb, 1, none⟩ = some (.slice (some ⟨gg, 0, none⟩) s.log.length cg) := by rw [hw0]; exact f2 _
      have lg : gg < w.heap.size := owns_lt' h.rl gg hgg
      have r0 := R0.r0
      have r1 := R0.r1
      have r2 := R0.r2
      have r3 := R0.r3
      have r4 := R0.r4
      have r5 := R0.r5
      have r6 := R0.r6
      have b0' := B0.r0
      have b1 := B0.r1
      have b2 := B0.r2
      have b3 := B0.r3
      have b4 := B0.r4
      have b5 := B0.r5
      have b6 := B0.r6
      simp only [rw0, Nat.zero_add] at b0' b1 b2 b3 b4 b5 b6
      have hne : (s.log.length == 0) = false := beq_eq_false_iff_ne.2 (by omega)
      have hneI : ((s.log.length : Int) == 0) = false := beq_eq_false_iff_ne.2 (by omega)
      have hpw : IntKind.i64.wrap ((s.log.length : Int) - 1) = (s.log.length : Int) - 1 := by rw [IntKind.wrap_i64]; omega
      have hpn : ((s.log.length : Int) - 1).toNat = s.log.length - 1 := by omega
      have hp0 : (0 : Int) ≤ (s.log.length : Int) - 1 := by omega
      have hp1 : (s.log.length : Int) - 1 < (s.log.length : Int) := by omega
      have hq1 : (1 : Int) ≤ (s.log.length : Int) := by omega
      have hp2 : s.log.length - 1 < s.log.length := by omega
      have hm1 : 1 ≤ s.log.length := by omega
      have nn : ¬ gg = w.heap.size := by omega
      generalize ra s.log (s.log.length - 1) = r at *
      generalize s.log.length = nl at *
      clear h hh R R0 B0 hvg hag hgg hb hf e
      go_enter Tryz.func92, Tryz.ntmps92
      go_wp2_with fail
      rw [← hw0]
      clear hw0 f2 f3 f5
      go_region
      all_goals
        (try simp only [Exit.then])
        go_wp2_with fail
        (try simp only [Exit.inBlock, Exit.then])
        refine bodyPost_ret (v := .agg #[.int .i64 r.step, .int .i64 r.thread, .int .i64 r.kind, .int .i64 r.cell, .int .i64 r.seen, .int .i64 r.wrote, .bool r.done]) ?_ rfl ⟨rfl, ?_⟩
        · simp [results, Tryz.f92, go_sem, b0', b1, b2, b3, b4, b5, b6]
        · exact (KW.trans' (keeps_set7 w0 w.heap.size (.int .i64 r.step) (.int .i64 r.thread) (.int .i64 r.kind) (.int .i64 r.cell) (.int .i64 r.seen) (.int .i64 r.wrote) (.bool r.done)) (fun _ _ e => e) (fun i hi e => by omega)).drew

section
variable {w w' : World} {ρ ρ' : Nat → Nat} {u j : Nat} {c : Sc} {ab rb n n' : Nat} {x x' : Tx} {f f' : Int → Option Nat} {s s' : Ws} {m m' : Mm} {r r' : Ro}
/-- The access goes into the row. -/
def Ro.acc (r : Ro) (q : Rw) : Ro := { r with cell := q.cell, seen := q.seen, wrote := q.wrote, done := q.done }
set_option maxHeartbeats 1600000 in
set_option maxRecDepth 1000000 in
theorem atook (h : AX w ρ u j c ab x n f s m) (hr : RX w ρ c ab rb r) (hh : m.had) (hl : m.log.length ≤ 4611686018427387903) :
    Calls Tryz.prog 77 #[.pointer (some ⟨ab, 0, none⟩), .pointer (some ⟨rb, 0, none⟩)] w fun e w' => e = .returned (.tuple #[]) ∧ AX w' ρ u j c ab x n f s m ∧ RX w' ρ c ab rb (r.acc m.took) ∧ Keeps (fun k => k = rb) w w' := by
  obtain ⟨F, hm, _⟩ := h.st.mj
  have ht := took_any hm hh hl
  have hc := h.cl
  have f0 := hc.c 0 _ rfl
  clear hc hm hh hl
  generalize m.took = q at *
  obtain ⟨q0, q1, q2, q3, q4, q5, q6⟩ := q
  go_enter Tryz.func77, Tryz.ntmps77
  go_wp2_with (go_at_call 92; refine ht.mono ?_; clear ht; rintro e w1 ⟨rfl, k1⟩)
  obtain ⟨w2, hw2⟩ : ∃ w2, w2 = w1.alloc (.cells #[.int .i64 q0, .int .i64 q1, .int .i64 q2, .int .i64 q3, .int .i64 q4, .int .i64 q5, .bool q6] 180) := ⟨_, rfl⟩
  have k2 : Keeps (fun _ => False) w w2 := by rw [hw2]; exact k1.alloc _
  have b3 : w2.cell? ⟨w1.heap.size, 3, none⟩ = some (.int .i64 q3) := by rw [hw2]; simp
  have b4 : w2.cell? ⟨w1.heap.size, 4, none⟩ = some (.int .i64 q4) := by rw [hw2]; simp
  have b5 : w2.cell? ⟨w1.heap.size, 5, none⟩ = some (.int .i64 q5) := by rw [hw2]; simp
  have b6 : w2.cell? ⟨w1.heap.size, 6, none⟩ = some (.bool q6) := by rw [hw2]; simp
  have nb : ¬ rb = w1.heap.size := by have := hr.lt; have := k1.size; omega
  have nb' : ¬ w1.heap.size = rb := fun e => nb e.symm
  have hr2 := hr.new k2
  have h2 := h.new k2
  have hq := hr2.cl
  have r10 := hq.c 10 _ rfl
  have zr10 := hq.z 10 (by show 10 < 26; decide)
  have r11 := hq.c 11 _ rfl
  have zr11 := hq.z 11 (by show 11 < 26; decide)
  have r12 := hq.c 12 _ rfl
  have zr12 := hq.z 12 (by show 12 < 26; decide)
  have r13 := hq.c 13 _ rfl
  have zr13 := hq.z 13 (by show 13 < 26; decide)
  rw [← hw2]
  clear hw2 f0
  go_region_held3 (fun w' => w'.cell? ⟨w1.heap.size, 3, none⟩ = some (.int .i64 q3) ∧ w'.cell? ⟨w1.heap.size, 4, none⟩ = some (.int .i64 q4) ∧ w'.cell? ⟨w1.heap.size, 5, none⟩ = some (.int .i64 q5) ∧ w'.cell? ⟨w1.heap.size, 6, none⟩ = some (.bool q6)) (go_keep) (fail)
  go_end0
  have kk : Keeps (fun k => k = rb) w2 _ := (((((Keeps.refl _ w2).setA 10 (.int .i64 q3)).setA 11 (.int .i64 q4)).setA 12 (.int .i64 q5)).setA 13 (.bool q6)).drew
  exact ⟨rfl, h2.far kk hr.rr hr.n1 hr.n2, hr2.self ((((hq.set (o := 10) (by show 10 < 26; decide) _).set (o := 11) (by show 11 < 26; decide) _).set (o := 12) (by show 12 < 26; decide) _).set (o := 13) (by show 13 < 26; decide) _).drew, k2.trans' kk (fun _ _ e => e.elim) (fun _ _ e => e)⟩
set_option maxHeartbeats 1600000 in
set_option maxRecDepth 1000000 in
theorem must_int (w : World) (v : Int) : Calls Tryz.prog 75 #[.int .i64 v, .int .i64 0] w fun e w' => e = .returned (.int .i64 v) ∧ w' = w := by
  go_enter Tryz.func75, Tryz.ntmps75
  go_wp2
  go_ret
  exact ⟨rfl, rfl⟩
set_option maxHeartbeats 1600000 in
set_option maxRecDepth 1000000 in
theorem must_bool (w : World) (v : Bool) : Calls Tryz.prog 81 #[.bool v, .int .i64 0] w fun e w' => e = .returned (.bool v) ∧ w' = w := by
  go_enter Tryz.func81, Tryz.ntmps81
  go_wp2
  go_ret
  exact ⟨rfl, rfl⟩
theorem results_cell1x {fn : Func} {p : Tmp} {ty : TypeId} (h : fn.results = #[.cell p ty]) (tmps : Array Value) (P : Program) (w : World) :
    (results fn tmps).run P w = ((asAddr (tmps.getD p undef)).run P w).andThen fun a w₁ => (loadVar ty a).run P w₁ := by
  simp only [results, h]
  simp [Sem.run_bind, Result.andThen]
set_option maxHeartbeats 1600000 in
set_option maxRecDepth 1000000 in
theorem must_val (w : World) (v : Vl) : Calls Tryz.prog 71 #[vv v, .int .i64 0] w fun e w' => e = .returned (vv v) ∧ Keeps (fun _ => False) w w' := by
  obtain ⟨a, b, d⟩ := v
  show Calls Tryz.prog 71 #[.agg #[.int .i64 a, .int .i64 b, .bool d], .int .i64 0] w fun e w' => e = .returned (.agg #[.int .i64 a, .int .i64 b, .bool d]) ∧ Keeps (fun _ => False) w w'
  go_enter Tryz.func71, Tryz.ntmps71
  go_wp2
  refine bodyPost_ret (v := .agg #[.int .i64 a, .int .i64 b, .bool d]) ?_ rfl ⟨rfl, ((Keeps.refl _ w).alloc _).alloc _⟩
  rw [results_cell1x rfl]
  go_simp
set_option maxHeartbeats 1600000 in
set_option maxRecDepth 1000000 in
theorem must_loc (w : World) (a b d : Int) : Calls Tryz.prog 47 #[.agg #[.int .i64 a, .int .i64 b, .int .i64 d], .int .i64 0] w fun e w' => e = .returned (.agg #[.int .i64 a, .int .i64 b, .int .i64 d]) ∧ Keeps (fun _ => False) w w' := by
  go_enter Tryz.func47, Tryz.ntmps47
  go_wp2
  refine bodyPost_ret (v := .agg #[.int .i64 a, .int .i64 b, .int .i64 d]) ?_ rfl ⟨rfl, ((Keeps.refl _ w).alloc _).alloc _⟩
  rw [results_cell1x rfl]
  go_simp
end
end Go.Proofs.YteomlhcllmlkpaaGreatDoor
