import Derived.Test.YtaikngpgmcpecaaGreatME
import Derived.Laws.ResultCell
namespace Go.Proofs.YtaikngpgmcpecaaGreat
open Go.RowKit
section
variable {w w' : World} {ρ ρ' : Nat → Nat} {u j q rb wb mb : Nat} {s s' : Ws} {m m' : Mm} {k : Nat}
set_option maxHeartbeats 1600000 in
set_option maxRecDepth 1000000 in
theorem Locator_ok (h : St w ρ u j wb mb s m) {i : Nat} (hi : i < s.locs.length) :
    Calls Tryz.prog 57 #[.pointer (some ⟨wb, 0, none⟩), .int .i64 (i : Int)] w fun e w' => e = .returned (.tuple #[.agg #[.int .i64 ((s.lo i).owner : Int), .int .i64 ((s.lo i).old : Int), .int .i64 ((s.lo i).new : Int)], .int .i64 0]) ∧ Keeps (fun _ => False) w w' := by
  obtain ⟨w0, hw0⟩ : ∃ w0, w0 = w.alloc (.cells #[.int .i64 0, .int .i64 0, .int .i64 0] 103) := ⟨_, rfl⟩
  have K0 : Keeps (fun _ => False) w w0 := by rw [hw0]; exact (Keeps.refl _ w).alloc _
  have b0 : w0.cell? ⟨w.heap.size, 0, none⟩ = some (.int .i64 0) := by rw [hw0]; simp
  have b1 : w0.cell? ⟨w.heap.size, 1, none⟩ = some (.int .i64 0) := by rw [hw0]; simp
  have b2 : w0.cell? ⟨w.heap.size, 2, none⟩ = some (.int .i64 0) := by rw [hw0]; simp
  have bz : ∀ o, w0.frozen? ⟨w.heap.size, o, none⟩ = false := by intro o; rw [hw0]; simp
  have z0 := bz 0
  have z1 := bz 1
  have z2 := bz 2
  have h0 := (h.new K0).1
  obtain ⟨vo, va, vl, vn, hw⟩ := h0.wj
  obtain ⟨gl, hgl, rl, ll, l0, l1, l2, l3⟩ := hw.loc hi
  have ngl : ¬ gl = w.heap.size := fun e => by rw [e, h.bnd _ (Nat.le_refl _)] at rl; omega
  have ha := locator_ok hw hi hgl
  have hq := leq gl (i * 4)
  generalize s.lo i = L at *
  clear h hw h0 bz
  go_enter Tryz.func57, Tryz.ntmps57
  go_wp2_with fail
  rw [← hw0]
  clear hw0
  refine ha.mono ?_
  rintro e w' ⟨rfl, rfl⟩
  go_wp2_with fail
  (try simp only [Exit.inBlock, Exit.then])
  refine bodyPost_ret (v := .tuple #[.agg #[.int .i64 (L.owner : Int), .int .i64 (L.old : Int), .int .i64 (L.new : Int)], .int .i64 0]) ?_ rfl ⟨rfl, ?_⟩
  · rw [results_cell_tmp rfl]
    go_simp
  · exact K0.trans' (keeps_set3 _ w.heap.size _ _ _) (fun _ _ e => e) (fun i hi e => by omega)
set_option maxHeartbeats 1600000 in
set_option maxRecDepth 1000000 in
theorem Locator_no (h : St w ρ u j wb mb s m) {i : Int} (hi : i < 0 ∨ (s.locs.length : Int) ≤ i) :
    Calls Tryz.prog 57 #[.pointer (some ⟨wb, 0, none⟩), .int .i64 i] w fun e w' => e = .returned (.tuple #[.agg #[.int .i64 0, .int .i64 0, .int .i64 0], .int .i64 52]) ∧ Keeps (fun _ => False) w w' := by
  obtain ⟨w0, hw0⟩ : ∃ w0, w0 = w.alloc (.cells #[.int .i64 0, .int .i64 0, .int .i64 0] 103) := ⟨_, rfl⟩
  have K0 : Keeps (fun _ => False) w w0 := by rw [hw0]; exact (Keeps.refl _ w).alloc _
  have b0 : w0.cell? ⟨w.heap.size, 0, none⟩ = some (.int .i64 0) := by rw [hw0]; simp
  have b1 : w0.cell? ⟨w.heap.size, 1, none⟩ = some (.int .i64 0) := by rw [hw0]; simp
  have b2 : w0.cell? ⟨w.heap.size, 2, none⟩ = some (.int .i64 0) := by rw [hw0]; simp
  have bz : ∀ o, w0.frozen? ⟨w.heap.size, o, none⟩ = false := by intro o; rw [hw0]; simp
  have z0 := bz 0
  have z1 := bz 1
  have z2 := bz 2
  have h0 := (h.new K0).1
  obtain ⟨vo, va, vl, vn, hw⟩ := h0.wj
  have ha := locator_no hw hi
  have hq := leq0
  clear h hw h0 bz
  go_enter Tryz.func57, Tryz.ntmps57
  go_wp2_with fail
  rw [← hw0]
  clear hw0
  refine ha.mono ?_
  rintro e w' ⟨rfl, rfl⟩
  go_wp2_with fail
  (try simp only [Exit.inBlock, Exit.then])
  refine bodyPost_ret (v := .tuple #[.agg #[.int .i64 0, .int .i64 0, .int .i64 0], .int .i64 52]) ?_ rfl ⟨rfl, ?_⟩
  · rw [results_cell_tmp rfl]
    go_simp
  · exact K0.trans' (keeps_set3 _ w.heap.size _ _ _) (fun _ _ e => e) (fun i hi e => by omega)
set_option maxHeartbeats 1600000 in
set_option maxRecDepth 1000000 in
theorem Owner_ok (h : St w ρ u j wb mb s m) {i : Nat} (hi : i < s.atts.length) :
    Calls Tryz.prog 55 #[.pointer (some ⟨wb, 0, none⟩), .int .i64 (i : Int)] w fun e w' => e = .returned (.tuple #[.agg #[.int .i64 (s.att i).thread, .int .i64 (s.att i).stamp, .int .i64 (s.att i).prio], .int .i64 0]) ∧ Keeps (fun _ => False) w w' := by
  obtain ⟨w0, hw0⟩ : ∃ w0, w0 = w.alloc (.cells #[.int .i64 0, .int .i64 0, .int .i64 0] 54) := ⟨_, rfl⟩
  have K0 : Keeps (fun _ => False) w w0 := by rw [hw0]; exact (Keeps.refl _ w).alloc _
  have b0 : w0.cell? ⟨w.heap.size, 0, none⟩ = some (.int .i64 0) := by rw [hw0]; simp
  have b1 : w0.cell? ⟨w.heap.size, 1, none⟩ = some (.int .i64 0) := by rw [hw0]; simp
  have b2 : w0.cell? ⟨w.heap.size, 2, none⟩ = some (.int .i64 0) := by rw [hw0]; simp
  have bz : ∀ o, w0.frozen? ⟨w.heap.size, o, none⟩ = false := by intro o; rw [hw0]; simp
  have z0 := bz 0
  have z1 := bz 1
  have z2 := bz 2
  have h0 := (h.new K0).1
  obtain ⟨vo, va, vl, vn, hw⟩ := h0.wj
  obtain ⟨gl, hgl, rl, ll, l0, l1, l2, l3, l4⟩ := hw.att hi
  have ngl : ¬ gl = w.heap.size := fun e => by rw [e, h.bnd _ (Nat.le_refl _)] at rl; omega
  have ha := attempt_ok hw hi hgl
  have hq := aeq gl (i * 5)
  generalize s.att i = L at *
  clear h hw h0 bz
  go_enter Tryz.func55, Tryz.ntmps55
  go_wp2_with fail
  rw [← hw0]
  clear hw0
  refine ha.mono ?_
  rintro e w' ⟨rfl, rfl⟩
  go_wp2_with fail
  (try simp only [Exit.inBlock, Exit.then])
  refine bodyPost_ret (v := .tuple #[.agg #[.int .i64 L.thread, .int .i64 L.stamp, .int .i64 L.prio], .int .i64 0]) ?_ rfl ⟨rfl, ?_⟩
  · rw [results_cell_tmp rfl]
    go_simp
  · exact K0.trans' (keeps_set3 _ w.heap.size _ _ _) (fun _ _ e => e) (fun i hi e => by omega)
set_option maxHeartbeats 1600000 in
set_option maxRecDepth 1000000 in
theorem Owner_no (h : St w ρ u j wb mb s m) {i : Int} (hi : i < 0 ∨ (s.atts.length : Int) ≤ i) :
    Calls Tryz.prog 55 #[.pointer (some ⟨wb, 0, none⟩), .int .i64 i] w fun e w' => e = .returned (.tuple #[.agg #[.int .i64 0, .int .i64 0, .int .i64 0], .int .i64 51]) ∧ Keeps (fun _ => False) w w' := by
  obtain ⟨w0, hw0⟩ : ∃ w0, w0 = w.alloc (.cells #[.int .i64 0, .int .i64 0, .int .i64 0] 54) := ⟨_, rfl⟩
  have K0 : Keeps (fun _ => False) w w0 := by rw [hw0]; exact (Keeps.refl _ w).alloc _
  have b0 : w0.cell? ⟨w.heap.size, 0, none⟩ = some (.int .i64 0) := by rw [hw0]; simp
  have b1 : w0.cell? ⟨w.heap.size, 1, none⟩ = some (.int .i64 0) := by rw [hw0]; simp
  have b2 : w0.cell? ⟨w.heap.size, 2, none⟩ = some (.int .i64 0) := by rw [hw0]; simp
  have bz : ∀ o, w0.frozen? ⟨w.heap.size, o, none⟩ = false := by intro o; rw [hw0]; simp
  have z0 := bz 0
  have z1 := bz 1
  have z2 := bz 2
  have h0 := (h.new K0).1
  obtain ⟨vo, va, vl, vn, hw⟩ := h0.wj
  have ha := attempt_no hw hi
  have hq := aeq0
  clear h hw h0 bz
  go_enter Tryz.func55, Tryz.ntmps55
  go_wp2_with fail
  rw [← hw0]
  clear hw0
  refine ha.mono ?_
  rintro e w' ⟨rfl, rfl⟩
  go_wp2_with fail
  (try simp only [Exit.inBlock, Exit.then])
  refine bodyPost_ret (v := .tuple #[.agg #[.int .i64 0, .int .i64 0, .int .i64 0], .int .i64 51]) ?_ rfl ⟨rfl, ?_⟩
  · rw [results_cell_tmp rfl]
    go_simp
  · exact K0.trans' (keeps_set3 _ w.heap.size _ _ _) (fun _ _ e => e) (fun i hi e => by omega)
set_option maxHeartbeats 1600000 in
set_option maxRecDepth 1000000 in
/-- The version that is current with a status. -/
theorem Current_2 (h : St w ρ u j wb mb s m) {i : Nat} (hi : i < s.locs.length) :
    Calls Tryz.prog 60 #[.pointer (some ⟨wb, 0, none⟩), .int .i64 (i : Int), .int .i64 2] w fun e w' => e = .returned (.tuple #[.int .i64 ((s.lo i).new : Int), .int .i64 0]) ∧ w = w' := by
  obtain ⟨vo, va, vl, vn, hw⟩ := h.wj
  obtain ⟨gl, hgl, rl, ll, l0, l1, l2, l3⟩ := hw.loc hi
  have ha := locator_ok hw hi hgl
  have hq := leq gl (i * 4)
  generalize s.lo i = L at *
  clear h hw
  go_enter Tryz.func60, Tryz.ntmps60
  go_wp2_with fail
  refine ha.mono ?_
  rintro e w' ⟨rfl, rfl⟩
  go_wp2_with fail
  go_ret2
  exact ⟨rfl, rfl⟩
set_option maxHeartbeats 1600000 in
set_option maxRecDepth 1000000 in
theorem Current_13 (h : St w ρ u j wb mb s m) {i : Nat} {v : Int} (hv : v = 1 ∨ v = 3) (hi : i < s.locs.length) :
    Calls Tryz.prog 60 #[.pointer (some ⟨wb, 0, none⟩), .int .i64 (i : Int), .int .i64 v] w fun e w' => e = .returned (.tuple #[.int .i64 ((s.lo i).old : Int), .int .i64 0]) ∧ w = w' := by
  obtain ⟨vo, va, vl, vn, hw⟩ := h.wj
  obtain ⟨gl, hgl, rl, ll, l0, l1, l2, l3⟩ := hw.loc hi
  have ha := locator_ok hw hi hgl
  have hq := leq gl (i * 4)
  generalize s.lo i = L at *
  clear h hw
  rcases hv with e | e <;> subst e <;>
  · go_enter Tryz.func60, Tryz.ntmps60
    go_wp2_with fail
    refine ha.mono ?_
    rintro e w' ⟨rfl, rfl⟩
    go_wp2_with fail
    go_ret2
    exact ⟨rfl, rfl⟩
end
end Go.Proofs.YtaikngpgmcpecaaGreat
namespace Go.Proofs.YtaikngpgmcpecaaGreat
open Go.RowKit
section
variable {w : World} {ρ : Nat → Nat} {D : Nat → Prop} {pb wb mb qb rb : Nat} {s : Ws} {m : Mm}
set_option maxHeartbeats 1600000 in
set_option maxRecDepth 1000000 in
theorem Current_bad (h : St w ρ 1 2 wb mb s m) {i : Nat} {v : Int} (h1 : v ≠ 1) (h2 : v ≠ 2) (h3 : v ≠ 3) (hi : i < s.locs.length) :
    Calls Tryz.prog 60 #[.pointer (some ⟨wb, 0, none⟩), .int .i64 (i : Int), .int .i64 v] w fun e w' => e = .returned (.tuple #[.int .i64 0, .int .i64 54]) ∧ w = w' := by
  obtain ⟨vo, va, vl, vn, hw⟩ := h.wj
  obtain ⟨gl, hgl, rl, ll, l0, l1, l2, l3⟩ := hw.loc hi
  have ha := locator_ok hw hi hgl
  have hq := leq gl (i * 4)
  have e1 : (v == 1) = false := by simpa using h1
  have e2 : (v == 2) = false := by simpa using h2
  have e3 : (v == 3) = false := by simpa using h3
  generalize s.lo i = L at *
  clear h hw
  go_enter Tryz.func60, Tryz.ntmps60
  go_wp2_with fail
  refine ha.mono ?_
  rintro e w' ⟨rfl, rfl⟩
  go_wp2_with fail
  go_ret2
  exact ⟨rfl, rfl⟩
set_option maxHeartbeats 1600000 in
set_option maxRecDepth 1000000 in
theorem Current_no (h : St w ρ 1 2 wb mb s m) {i : Int} (hi : i < 0 ∨ (s.locs.length : Int) ≤ i) (v : Int) :
    Calls Tryz.prog 60 #[.pointer (some ⟨wb, 0, none⟩), .int .i64 i, .int .i64 v] w fun e w' => e = .returned (.tuple #[.int .i64 0, .int .i64 52]) ∧ w = w' := by
  obtain ⟨vo, va, vl, vn, hw⟩ := h.wj
  have ha := locator_no hw hi
  have hq := leq0
  clear h hw
  go_enter Tryz.func60, Tryz.ntmps60
  go_wp2_with fail
  refine ha.mono ?_
  rintro e w' ⟨rfl, rfl⟩
  go_wp2_with fail
  go_ret2
  exact ⟨rfl, rfl⟩
/-- Two looks, with one answer. -/
def Lk (w : World) (f g : Nat) (wb qb : Nat) (xs : Value → Array Value) (v : Value) (er : Int) : Prop :=
  (∀ W, Keeps (fun _ => False) w W → Calls Tryz.prog f (xs (.pointer (some ⟨wb, 0, none⟩))) W fun e w' => e = .returned (.tuple #[v, .int .i64 er]) ∧ Keeps (fun _ => False) W w') ∧
  (∀ W, Keeps (fun _ => False) w W → Calls Tryz.prog g (xs (.pointer (some ⟨qb, 0, none⟩))) W fun e w' => e = .returned (.tuple #[v, .int .i64 er]) ∧ Keeps (fun _ => False) W w')
theorem eqk {P : Program} {f : Nat} {xs : Array Value} {w : World} {v : Value} (h : Calls P f xs w fun e w' => e = .returned v ∧ w = w') : Calls P f xs w fun e w' => e = .returned v ∧ Keeps (fun _ => False) w w' := h.mono (by rintro e w' ⟨h, rfl⟩; exact ⟨h, Keeps.refl _ _⟩)
theorem lk_oc (h : PP w ρ D wb mb qb rb s m) (i : Int) : ∃ v er, Lk w 50 62 wb qb (fun p => #[p, .int .i64 i]) v er ∧ ∃ n, v = .int .i64 n := by
  rcases nat_or i s.objs.length with hi | ⟨x, rfl, hx⟩
  · exact ⟨_, _, ⟨fun W K => eqk (OCell_no (h.new K).hp.st hi), fun W K => by
      obtain ⟨sv, σ, B, hw, -⟩ := (h.new K).hp.di
      exact robjcell_no hw (inn_no hi)⟩, ⟨_, rfl⟩⟩
  · exact ⟨_, _, ⟨fun W K => eqk (OCell_ok (h.new K).hp.st hx), fun W K => by
      obtain ⟨sv, σ, B, hw, -⟩ := (h.new K).hp.di
      exact robjcell_ok hw hx⟩, ⟨_, rfl⟩⟩
theorem lk_sc (h : PP w ρ D wb mb qb rb s m) (i : Int) : ∃ v er, Lk w 63 64 wb qb (fun p => #[p, .int .i64 i]) v er ∧ ∃ n, v = .int .i64 n := by
  rcases nat_or i s.atts.length with hi | ⟨x, rfl, hx⟩
  · exact ⟨_, _, ⟨fun W K => eqk (SCell_no (h.new K).hp.st hi), fun W K => by
      obtain ⟨sv, σ, B, hw, -⟩ := (h.new K).hp.di
      exact rstcell_no hw (inn_no hi)⟩, ⟨_, rfl⟩⟩
  · exact ⟨_, _, ⟨fun W K => eqk (SCell_ok (h.new K).hp.st hx), fun W K => by
      obtain ⟨sv, σ, B, hw, -⟩ := (h.new K).hp.di
      exact rstcell_ok hw hx⟩, ⟨_, rfl⟩⟩
theorem lk_fc (h : PP w ρ D wb mb qb rb s m) (i : Int) : ∃ v er, Lk w 65 66 wb qb (fun p => #[p, .int .i64 i]) v er ∧ ∃ n, v = .int .i64 n := by
  rcases nat_or i s.atts.length with hi | ⟨x, rfl, hx⟩
  · exact ⟨_, _, ⟨fun W K => eqk (FCell_no (h.new K).hp.st hi), fun W K => by
      obtain ⟨sv, σ, B, hw, -⟩ := (h.new K).hp.di
      exact rflcell_no hw (inn_no hi)⟩, ⟨_, rfl⟩⟩
  · exact ⟨_, _, ⟨fun W K => eqk (FCell_ok (h.new K).hp.st hx), fun W K => by
      obtain ⟨sv, σ, B, hw, -⟩ := (h.new K).hp.di
      exact rflcell_ok hw hx⟩, ⟨_, rfl⟩⟩
theorem lk_ow (h : PP w ρ D wb mb qb rb s m) (i : Int) : ∃ v er, Lk w 55 56 wb qb (fun p => #[p, .int .i64 i]) v er ∧ ∃ a b c : Int, v = .agg #[.int .i64 a, .int .i64 b, .int .i64 c] := by
  rcases nat_or i s.atts.length with hi | ⟨x, rfl, hx⟩
  · exact ⟨_, _, ⟨fun W K => (Owner_no (h.new K).hp.st hi), fun W K => by
      obtain ⟨sv, σ, B, hw, -⟩ := (h.new K).hp.di
      exact rOwner_no hw (inn_no hi)⟩, ⟨_, _, _, rfl⟩⟩
  · exact ⟨_, _, ⟨fun W K => (Owner_ok (h.new K).hp.st hx), fun W K => by
      obtain ⟨sv, σ, B, hw, -⟩ := (h.new K).hp.di
      exact rOwner_ok hw hx⟩, ⟨_, _, _, rfl⟩⟩
theorem lk_lo (h : PP w ρ D wb mb qb rb s m) (i : Int) : ∃ v er, Lk w 57 58 wb qb (fun p => #[p, .int .i64 i]) v er ∧ ∃ a b c : Int, v = .agg #[.int .i64 a, .int .i64 b, .int .i64 c] := by
  rcases nat_or i s.locs.length with hi | ⟨x, rfl, hx⟩
  · exact ⟨_, _, ⟨fun W K => (Locator_no (h.new K).hp.st hi), fun W K => by
      obtain ⟨sv, σ, B, hw, -⟩ := (h.new K).hp.di
      exact rLocator_no hw (inn_no hi)⟩, ⟨_, _, _, rfl⟩⟩
  · exact ⟨_, _, ⟨fun W K => (Locator_ok (h.new K).hp.st hx), fun W K => by
      obtain ⟨sv, σ, B, hw, -⟩ := (h.new K).hp.di
      exact rLocator_ok hw hx⟩, ⟨_, _, _, rfl⟩⟩
theorem lk_ve (h : PP w ρ D wb mb qb rb s m) (i : Int) : ∃ v er, Lk w 45 59 wb qb (fun p => #[p, .int .i64 i]) v er ∧ ∃ (a b : Int) (c : Bool), v = .agg #[.int .i64 a, .int .i64 b, .bool c] := by
  rcases nat_or i s.vals.length with hi | ⟨x, rfl, hx⟩
  · exact ⟨_, _, ⟨fun W K => Version_no (h.new K).hp.st hi, fun W K => by
      obtain ⟨sv, σ, B, hw, -⟩ := (h.new K).hp.di
      exact rVersion_no hw (inn_no (by rw [← h.iv.vl]; exact hi))⟩, ⟨_, _, _, rfl⟩⟩
  · exact ⟨_, _, ⟨fun W K => Version_ok (h.new K).hp.st hx, fun W K => by
      obtain ⟨sv, σ, B, hw, -⟩ := (h.new K).hp.di
      exact rVersion_ok hw h.iv.vl hx⟩, ⟨_, _, _, rfl⟩⟩
theorem lk_cu (h : PP w ρ D wb mb qb rb s m) (i st : Int) : ∃ v er, Lk w 60 61 wb qb (fun p => #[p, .int .i64 i, .int .i64 st]) v er ∧ ∃ n, v = .int .i64 n := by
  rcases nat_or i s.locs.length with hi | ⟨x, rfl, hx⟩
  · exact ⟨_, _, ⟨fun W K => eqk (Current_no (h.new K).hp.st hi st), fun W K => by
      obtain ⟨sv, σ, B, hw, -⟩ := (h.new K).hp.di
      exact rCurrent_no hw (inn_no hi) st⟩, ⟨_, rfl⟩⟩
  · by_cases h2 : st = 2
    · subst h2
      exact ⟨_, _, ⟨fun W K => eqk (Current_2 (h.new K).hp.st hx), fun W K => by
        obtain ⟨sv, σ, B, hw, -⟩ := (h.new K).hp.di
        exact rCurrent_new hw hx rfl⟩, ⟨_, rfl⟩⟩
    · by_cases h13 : st = 1 ∨ st = 3
      · exact ⟨_, _, ⟨fun W K => eqk (Current_13 (h.new K).hp.st h13 hx), fun W K => by
          obtain ⟨sv, σ, B, hw, -⟩ := (h.new K).hp.di
          exact rCurrent_old hw hx h13⟩, ⟨_, rfl⟩⟩
      · exact ⟨_, _, ⟨fun W K => eqk (Current_bad (h.new K).hp.st (by omega) h2 (by omega) hx), fun W K => by
          obtain ⟨sv, σ, B, hw, -⟩ := (h.new K).hp.di
          exact rCurrent_bad hw hx (by omega) h2 (by omega)⟩, ⟨_, rfl⟩⟩
end
end Go.Proofs.YtaikngpgmcpecaaGreat
namespace Go.Proofs.YtaikngpgmcpecaaGreat
open Go.RowKit

/-- Values in memory, wherever. -/
def VA (w : World) (a : Option Addr) (vs : List Vl) : Prop :=
  vs.length = 0 ∨ ∃ b off, a = some ⟨b, off, none⟩ ∧ ∀ i v, vs[i]? = some v → w.cell? ⟨b, off + i * 3, none⟩ = some (.int .i64 v.num) ∧ w.cell? ⟨b, off + i * 3 + 1, none⟩ = some (.int .i64 v.next) ∧ w.cell? ⟨b, off + i * 3 + 2, none⟩ = some (.bool v.dead)
theorem VA.new {w w' : World} {a : Option Addr} {vs : List Vl} (h : VA w a vs) (k : Keeps (fun _ => False) w w') : VA w' a vs := by
  rcases h with h | ⟨b, off, rfl, h⟩
  · exact .inl h
  · exact .inr ⟨b, off, rfl, fun i v hi => ⟨k.cell (h i v hi).1 (fun e => e), k.cell (h i v hi).2.1 (fun e => e), k.cell (h i v hi).2.2 (fun e => e)⟩⟩
theorem va_own {w : World} {base n : Nat} {v : Value} {vs : List Vl} (h : w.ownsRow base 37 3 v n (fl vc3 vs)) (hn : vs.length = n) : ∃ a cap, v = .slice a n cap ∧ VA w a vs ∧ ∀ g o, a = some ⟨g, o, none⟩ → base ≤ g ∧ v.ownBlock = some g := by
  rcases h.2 with ⟨h1, h0⟩ | ⟨g, cap, cur, h1, hb, _⟩
  · exact ⟨none, 0, by rw [h1, h0], .inl (by omega), fun _ _ e => by cases e⟩
  · refine ⟨_, _, h1, .inr ⟨g, 0, rfl, fun i x hi => ?_⟩, fun g' o e => by cases e; exact ⟨hb, by rw [h1]; rfl⟩⟩
    have q : ∀ {k : Nat} {y : Value}, (vc3 x)[k]? = some y → w.cell? ⟨g, i * 3 + k, none⟩ = some y := fun {k y} e => by
      have hk : k < 3 := by
        rcases Nat.lt_or_ge k 3 with l | l
        · exact l
        · rw [List.getElem?_eq_none (by rw [vc3_len]; exact l)] at e; cases e
      exact owns_cell h (by rw [h1]; rfl) (by rw [fl_get vc3_len vs i k hk, hi]; exact e)
    simp only [Nat.zero_add]
    exact ⟨q (k := 0) rfl, q (k := 1) rfl, q (k := 2) rfl⟩
theorem VA.at {w : World} {a : Option Addr} {vs : List Vl} (h : VA w a vs) {i : Nat} (hi : i < vs.length) : ∃ b off, a = some ⟨b, off, none⟩ ∧ w.cell? ⟨b, off + i * 3, none⟩ = some (.int .i64 (vs.getD i vl0).num) ∧ w.cell? ⟨b, off + i * 3 + 1, none⟩ = some (.int .i64 (vs.getD i vl0).next) ∧ w.cell? ⟨b, off + i * 3 + 2, none⟩ = some (.bool (vs.getD i vl0).dead) := by
  obtain ⟨b, off, e, h⟩ := h.resolve_left (by omega)
  exact ⟨b, off, e, h i _ (getD_get hi)⟩

set_option maxHeartbeats 1600000 in
set_option maxRecDepth 1000000 in
/-- Two lists of the same values. -/
theorem same_eq {w : World} {a b : Option Addr} {vs : List Vl} (ha : VA w a vs) (hb : VA w b vs) (hn : vs.length ≤ 1000000) (ca cb : Nat) :
    Calls Tryz.prog 25 #[.slice a vs.length ca, .slice b vs.length cb] w fun e w' => e = .returned (.bool true) ∧ Keeps (fun _ => False) w w' := by
  go_enter Tryz.func25, Tryz.ntmps25
  go_wp2_with fail
  go_loopw [5] (fun iv wr => ∃ i : Nat, i ≤ vs.length ∧ iv = .int .i64 (i : Int) ∧ Keeps (fun _ => False) w wr) (fun iv _ => vs.length - (intOf iv).toNat)
  case atStart => exact ⟨0, Nat.zero_le _, rfl, Keeps.refl _ w⟩
  case round =>
    obtain ⟨i, hi, rfl, hk⟩ := hrel
    by_cases hlt : i < vs.length
    · have hltI : (i : Int) < (vs.length : Int) := by omega
      obtain ⟨b1, o1, rfl, x0, x1, x2⟩ := (ha.new hk).at hlt
      obtain ⟨b2, o2, rfl, y0, y1, y2⟩ := (hb.new hk).at hlt
      have x0' := ks_cell x0
      have x1' := ks_cell x1
      have x2' := ks_cell x2
      have y0' := ks_cell y0
      have y1' := ks_cell y1
      have y2' := ks_cell y2
      have hNE : Nonempty (KS wr) := ⟨⟨wr, Keeps.refl _ wr⟩⟩
      generalize vs.getD i vl0 = v at *
      clear ha hb x0 x1 x2 y0 y1 y2
      go_wp2_with fail
      refine wp_region_ks (by kernel_rfl) (by kernel_rfl) ?_
      repeat (go_big_quiet_step (fail))
      refine wpQuiet_nil ?_
      rintro _ ⟨U, rfl⟩
      have KU := hk.trans U.property
      clear x0' x1' x2' y0' y1' y2' hNE
      generalize U.val = wu at *
      go_wp2_with fail
      go_roundw
      case rel => exact ⟨i + 1, by omega, by go_num, KU⟩
      case measure => simp [intOf]; omega
    · have hltI : ¬ (i : Int) < (vs.length : Int) := by omega
      clear ha hb
      go_wp2_with fail
      go_ret
      exact ⟨rfl, hk⟩
end Go.Proofs.YtaikngpgmcpecaaGreat
