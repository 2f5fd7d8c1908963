import Derived.Test.YtekalkjghfghhacCelThenB
namespace Go.Proofs.Ytekalkjghfghhac
open Go.RowKit Go.Shelf
attribute [local go_sem] Oper.semAt_some

theorem peqn : ∀ w : World, (binOp .eql 23 (.pointer none) (.pointer none)).run Try.prog w = .ok (.bool true) w := fun w => by kernel_rfl

set_option maxHeartbeats 800000 in
set_option maxRecDepth 1000000 in
theorem size_nil (w : World) : Calls Try.prog 14 #[.pointer none] w fun e w' => e = .returned (.int .i64 0) ∧ w' = w := by
  have hp := peqn
  go_enter Try.func14, Try.ntmps14
  go_wp2
  go_ret
  exact ⟨rfl, rfl⟩
set_option maxHeartbeats 800000 in
set_option maxRecDepth 1000000 in
theorem has_nil (w : World) (c : Int) : Calls Try.prog 33 #[.pointer none, .int .i64 c] w fun e w' => e = .returned (.bool false) ∧ w' = w := by
  by_cases h0 : 0 ≤ c
  · have h0' : decide (0 ≤ c) = true := by simp [h0]
    have h1 : decide (c < 0) = false := by simp; omega
    have hs := size_nil w
    clear h0
    go_enter Try.func33, Try.ntmps33
    go_wp2_with (go_at_call 14; refine hs.mono ?_; rintro e w' ⟨rfl, rfl⟩)
    go_ret
    exact ⟨rfl, rfl⟩
  · have h0' : decide (0 ≤ c) = false := by simp [h0]
    go_enter Try.func33, Try.ntmps33
    go_wp2_with fail
    go_ret
    exact ⟨rfl, rfl⟩
set_option maxHeartbeats 800000 in
set_option maxRecDepth 1000000 in
theorem make_nil (w : World) (x : Int) : Calls Try.prog 12 #[.pointer none, .int .i64 x] w fun e w' => e = .returned (.tuple #[.int .i64 0, .int .i64 33]) ∧ w' = w := by
  have hp := peqn
  go_enter Try.func12, Try.ntmps12
  go_wp2
  go_ret2
  exact ⟨rfl, rfl⟩
set_option maxHeartbeats 800000 in
set_option maxRecDepth 1000000 in
theorem begin_nil (w : World) (st th : Int) : Calls Try.prog 8 #[.pointer none, .int .i64 st, .int .i64 th] w fun e w' => e = .returned (.int .i64 32) ∧ w' = w := by
  have hp := peqn
  go_enter Try.func8, Try.ntmps8
  go_wp2
  go_ret
  exact ⟨rfl, rfl⟩
set_option maxHeartbeats 800000 in
set_option maxRecDepth 1000000 in
theorem peek_nil (w : World) (c : Int) : Calls Try.prog 13 #[.pointer none, .int .i64 c] w fun e w' => e = .returned (.tuple #[.int .i64 0, .int .i64 30]) ∧ w' = w := by
  have hh := has_nil w c
  go_enter Try.func13, Try.ntmps13
  go_wp2_with (go_at_call 33; refine hh.mono ?_; rintro e w' ⟨rfl, rfl⟩)
  go_ret2
  exact ⟨rfl, rfl⟩
set_option maxHeartbeats 1600000 in
set_option maxRecDepth 1000000 in
theorem access_nil (w : World) (c kind : Int) (fv : Value) :
    Calls Try.prog 34 #[.pointer none, .int .i64 kind, .int .i64 c, fv] w fun e w' =>
      e = .returned (.tuple #[.agg #[.int .i64 0, .int .i64 0, .int .i64 0, .int .i64 0, .int .i64 0, .int .i64 0, .bool false], .int .i64 30]) ∧ Keeps (fun _ => False) w w' := by
  have K0 : ∀ o, Keeps (fun _ => False) w (w.alloc o) := fun o => (Keeps.refl _ w).alloc _
  go_enter Try.func34, Try.ntmps34
  go_wp2_with (go_at_call 33; refine (has_nil _ _).mono ?_; rintro e w' ⟨rfl, rfl⟩)
  (try simp only [Exit.inBlock, Exit.then])
  refine bodyPost_ret (v := .tuple #[.agg #[.int .i64 0, .int .i64 0, .int .i64 0, .int .i64 0, .int .i64 0, .int .i64 0, .bool false], .int .i64 30]) ?_ rfl ⟨rfl, ?_⟩
  · rw [results_cell_tmp rfl]
    go_simp
  · exact K0 _
set_option maxHeartbeats 1600000 in
set_option maxRecDepth 1000000 in
theorem load_nil (w : World) (c : Int) : Calls Try.prog 15 #[.pointer none, .int .i64 c] w fun e w' => e = .returned (.tuple #[.int .i64 0, .int .i64 30]) ∧ Keeps (fun _ => False) w w' := by
  go_enter Try.func15, Try.ntmps15
  go_wp2_with (go_at_call 34; refine (access_nil _ _ _ _).mono ?_; rintro e w' ⟨rfl, k'⟩)
  go_ret2
  exact ⟨rfl, k'.alloc _⟩
set_option maxHeartbeats 1600000 in
set_option maxRecDepth 1000000 in
theorem swap_nil (w : World) (c old next : Int) : Calls Try.prog 18 #[.pointer none, .int .i64 c, .int .i64 old, .int .i64 next] w fun e w' => e = .returned (.tuple #[.bool false, .int .i64 30]) ∧ Keeps (fun _ => False) w w' := by
  have hmf : ∀ (fn : Fn) (first cap : Array Value) (w : World), (Instr.makeFunc fn first cap).run Try.prog w = .ok (.func fn first cap) w := fun _ _ _ _ => rfl
  go_enter Try.func18, Try.ntmps18
  go_wp2_with (go_at_call 34; refine (access_nil _ _ _ _).mono ?_; rintro e w' ⟨rfl, k'⟩)
  go_ret2
  exact ⟨rfl, (((Keeps.refl _ w).alloc _).alloc _).trans k' |>.alloc _⟩
set_option maxHeartbeats 1600000 in
set_option maxRecDepth 1000000 in
theorem add_nil (w : World) (c u : Int) : Calls Try.prog 19 #[.pointer none, .int .i64 c, .int .i64 u] w fun e w' => e = .returned (.tuple #[.int .i64 0, .int .i64 30]) ∧ Keeps (fun _ => False) w w' := by
  have hmf : ∀ (fn : Fn) (first cap : Array Value) (w : World), (Instr.makeFunc fn first cap).run Try.prog w = .ok (.func fn first cap) w := fun _ _ _ _ => rfl
  go_enter Try.func19, Try.ntmps19
  go_wp2_with (go_at_call 34; refine (access_nil _ _ _ _).mono ?_; rintro e w' ⟨rfl, k'⟩)
  go_ret2
  exact ⟨rfl, ((Keeps.refl _ w).alloc _).trans k' |>.alloc _⟩
set_option maxHeartbeats 1600000 in
set_option maxRecDepth 1000000 in
theorem then_nil (w : World) (c step : Int) :
    Calls Try.prog 17 #[.pointer none, .int .i64 c, .int .i64 step] w fun e w' => e = .returned (.tuple #[.int .i64 0, .int .i64 30]) ∧ Keeps (fun _ => False) w w' := by
  have K0 : ∀ o o' o'', Keeps (fun _ => False) w (((w.alloc o).alloc o').alloc o'') := fun o o' o'' => (((Keeps.refl _ w).alloc o).alloc o').alloc o''
  have hh := fun W => callsIn_wide (n := 4).2 (has_nil W c)
  refine callsIn_wide (n := 5).1 ?_
  refine callsIn_of_wp_marks Try.func17 rfl trivial ?_
  simp only [Try.ntmps17, List.size_toArray, List.length_cons, List.length_nil, Nat.reduceAdd, Nat.reduceSub, Array.replicate_succ, Array.replicate_zero, List.push_toArray, List.append_toArray, List.nil_append, List.cons_append]
  gi_wp2_with (refine ⟨trivial, ?_⟩; gi_at_call 33; refine (hh _).mono ?_; rintro e w' ⟨rfl, rfl⟩)
  have b1 := ((Boxed.new (w.alloc (.cells #[.int .i64 c] 3)) 2 (.int .i64 0)).alloc (.cells #[.int .i64 30] 29)).cell
  have b2 := (Boxed.new ((w.alloc (.cells #[.int .i64 c] 3)).alloc (.cells #[.int .i64 0] 2)) 29 (.int .i64 30)).cell
  simp only [World.size_alloc] at b1 b2
  refine ⟨.tuple #[.int .i64 0, .int .i64 30], ?_, rfl, K0 _ _ _⟩
  simp [results, Try.f17, go_sem, b1, b2]
set_option maxHeartbeats 1600000 in
set_option maxRecDepth 1000000 in
theorem took_nil (w : World) : Calls Try.prog 20 #[.pointer none] w fun e w' => e = .returned (.agg #[.int .i64 0, .int .i64 0, .int .i64 0, .int .i64 0, .int .i64 0, .int .i64 0, .bool false]) ∧ Keeps (fun _ => False) w w' := by
  have hp := peqn
  go_enter Try.func20, Try.ntmps20
  go_wp2
  (try simp only [Exit.inBlock, Exit.then])
  refine bodyPost_ret (v := .agg #[.int .i64 0, .int .i64 0, .int .i64 0, .int .i64 0, .int .i64 0, .int .i64 0, .bool false]) ?_ rfl ⟨rfl, (Keeps.refl _ w).alloc _⟩
  simp [results, Try.f20, go_sem]

set_option maxRecDepth 100000 in
set_option maxHeartbeats 3200000 in
/-- The iterator of a nil memory gives nothing. -/
theorem tail1_nil (n : Nat) (l B1 B2 : Nat) (J : List NR → World → Prop) (W : World) (hB1 : W.cell? ⟨B1, 0, none⟩ = some (.pointer none)) (h0 : J [] W) :
    CallsIn Fence.wide n Try.prog 36 #[.func (.yield l) #[] #[], .pointer (some ⟨B1, 0, none⟩), .pointer (some ⟨B2, 0, none⟩)] W fun e W' => (∃ v, e = .returned v) ∧ J [] W' := by
  have hp := peqn
  refine callsIn_of_wp Try.func36 rfl trivial ?_
  simp only [Try.ntmps36, List.size_toArray, List.length_cons, List.length_nil, Nat.reduceAdd, Nat.reduceSub, Array.replicate_succ, Array.replicate_zero, List.push_toArray, List.append_toArray, List.nil_append, List.cons_append]
  gi_wp2
  refine bodyPost_ret (results_none rfl _ _ _) rfl ?_
  exact ⟨⟨_, rfl⟩, h0⟩
theorem tail_stops_nil (n B1 B2 : Nat) (w : World) (hB1 : w.cell? ⟨B1, 0, none⟩ = some (.pointer none)) :
    SeqStopsK Fence.wide n Try.prog 36 #[.pointer (some ⟨B1, 0, none⟩), .pointer (some ⟨B2, 0, none⟩)] encs (Below w.heap.size) (fun ys => ys = []) (fun _ => False) 0 w := fun l J _ W hW _ _ _ h0 =>
  (tail1_nil n l B1 B2 J W ((hW.cell (p := ⟨B1, 0, none⟩) (World.block_lt_of_cell? _ _ hB1)).trans hB1) h0).mono fun _ _ ⟨e, h⟩ => ⟨e, .inl ⟨_, rfl, h⟩⟩

set_option maxRecDepth 100000 in
set_option maxHeartbeats 3200000 in
theorem log_nil (w : World) :
    Calls Try.prog 11 #[.pointer none] w fun e W' => e = .returned (.slice none 0 0) ∧ Keeps (fun _ => False) w W' := by
  have ht := fun (w : World) => callsIn_wide (n := 4).2 (tail_any w none 0)
  refine callsIn_wide (n := 5).1 ?_
  refine callsIn_of_wp_marks Try.func11 rfl trivial ?_
  simp only [Try.ntmps11, List.size_toArray, List.length_cons, List.length_nil, Nat.reduceAdd, Nat.reduceSub, Array.replicate_succ, Array.replicate_zero, List.push_toArray, List.append_toArray, List.nil_append, List.cons_append]
  gi_wp2_with (refine ⟨trivial, ?_⟩; gi_at_call 16; refine (ht _).mono ?_; rintro e w' ⟨rfl, rfl⟩)
  have K0 : Keeps (fun _ => False) w (((w.alloc (.cells #[.slice none 0 0] 34)).alloc (.cells #[.pointer none] 23)).alloc (.cells #[.int .i64 0] 3)) := (((Keeps.refl _ w).alloc _).alloc _).alloc _
  have bO := ((Boxed.new w 34 (.slice none 0 0)).alloc (.cells #[.pointer none] 23)).alloc (.cells #[.int .i64 0] 3)
  have bM := (Boxed.new (w.alloc (.cells #[.slice none 0 0] 34)) 23 (.pointer none)).alloc (.cells #[.int .i64 0] 3)
  obtain ⟨w3, hw3⟩ : ∃ w3, w3 = ((w.alloc (.cells #[.slice none 0 0] 34)).alloc (.cells #[.pointer none] 23)).alloc (.cells #[.int .i64 0] 3) := ⟨_, rfl⟩
  have s3 : w3.heap.size = w.heap.size + 3 := by rw [hw3]; simp
  rw [World.size_alloc] at bM
  (try rw [World.size_alloc])
  rw [← hw3] at K0 bO bM ⊢
  clear hw3
  have B0 : Below w.heap.size w w3 := K0.below (Nat.le_refl _) (fun _ _ e => e)
  refine wpIn_rangeFunc_ownH (α := NR) rfl (by omega) (gf := 36) (lb := #[.pointer (some ⟨w.heap.size + 1, 0, none⟩), .pointer (some ⟨w.heap.size + 1 + 1, 0, none⟩)]) rfl trivial (enters_of Try.func36 (by kernel_rfl) rfl)
    (tail_stops_nil 4 (w.heap.size + 1) (w.heap.size + 1 + 1) w3 bM.cell) belowK_t (belowK_b (Nat.le_refl _)) (Below.refl _ _) (fun _ => rfl)
    (fun _ W => Boxed W w.heap.size 34 (.slice none 0 0) ∧ (Below w.heap.size w W ∧ Below w3.heap.size w3 W))
    (fun _ _ _ => False)
    (OwnFrom.and (Own.from (boxed_own w.heap.size 34 (fun _ => .slice none 0 0)) _) (OwnFrom.and (ownFrom_below (Nat.le_refl _) (by omega)) (ownFrom_below (Nat.le_refl _) (Nat.le_refl _))))
    (fun _ _ _ _ _ hs _ _ => hs)
    ⟨bO, B0, Below.refl _ _⟩
    (fun _ _ _ => True) (fun _ _ _ _ _ _ _ _ _ => trivial) ?assign ?body ?done ?stop
  case assign =>
    rintro l pre x W K ⟨hv, hB, hB3⟩ hK
    obtain ⟨i, r⟩ := x
    simp only [encs]
    gi_wp2
    exact hK _ _ ((KeepsOthers.alloc _ _).from _) ((Below.refl _ W).alloc hB3.size _) ⟨hv.alloc _, hB.trans ((Below.refl _ W).alloc hB.size _), hB3.trans ((Below.refl _ W).alloc hB3.size _)⟩ trivial
  case body =>
    intro l pre x a' W _ _ _ _ h
    omega
  case done =>
    rintro D ys W hD rfl ⟨hv, hB, _⟩ hK
    have hc := hv.cell
    gi_wp2
    refine ⟨by simp, .inl ⟨_, _, rfl, run_takeDeferred hK, ?_⟩⟩
    have b := hB.trans (belowK_b (w := w) (Nat.le_refl _) W D _ (.deferred none) (by omega) hK rfl rfl)
    exact ⟨_, results_tmp rfl _ _ _, rfl, b.os, b.tape, b.output, b.size, fun k hk _ => b.block k hk⟩
  case stop =>
    rintro D c pre W _ h _ _
    exact h.elim
end Go.Proofs.Ytekalkjghfghhac
