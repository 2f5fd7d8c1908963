import Derived.Test.YtaikngpgmcpecaaGreatCelTail
namespace Go.Proofs.YtaikngpgmcpecaaGreat
open Go.RowKit Go.Shelf
attribute [local go_sem] Oper.semAt_some

set_option maxHeartbeats 800000 in
set_option maxRecDepth 1000000 in
theorem tail_any (w : World) (p : Option Addr) (from_ : Int) : Calls Tryz.prog 36 #[.pointer p, .int .i64 from_] w fun e w' =>
    e = .returned (.func (.func 85) #[] #[.pointer (some ⟨w.heap.size, 0, none⟩), .pointer (some ⟨w.heap.size + 1, 0, none⟩)]) ∧ w' = (w.alloc (.cells #[.pointer p] 28)).alloc (.cells #[.int .i64 from_] 3) := by
  have hmf : ∀ (fn : Fn) (first cap : Array Value) (w : World), (Instr.makeFunc fn first cap).run Tryz.prog w = .ok (.func fn first cap) w := fun _ _ _ _ => rfl
  go_enter Tryz.func36, Tryz.ntmps36
  go_wp2
  go_ret
  exact ⟨rfl, rfl⟩

theorem RowsAt.below {n : Nat} {a : Option Addr} {L : List Rw} {W W' : World} (h : RowsAt W a L) (k : Below n W W') (hn : n = W.heap.size) : RowsAt W' a L := by
  rcases h with h | ⟨g, rfl, hg, h⟩
  · exact .inl h
  · exact .inr ⟨g, rfl, Nat.lt_of_lt_of_le hg k.size, fun i hi => (h i hi).below k (by omega)⟩

/-- Tail's value gives the rows from a number on, or a part of them. -/
theorem tail_stops (n : Nat) (hn : 1 ≤ n) (B1 B2 mb : Nat) (from_ : Int) (st : Nat) (hst : (st : Int) = max from_ 0) (a : Option Addr) (cap : Nat) (L : List Rw) (hL : L.length ≤ 4611686018427387904) (Kp : World → World → Prop) (hKp : ∀ W W', Kp W W' → KR a L.length W W')
    (w : World) (hB1 : w.cell? ⟨B1, 0, none⟩ = some (.pointer (some ⟨mb, 0, none⟩))) (hB2 : w.cell? ⟨B2, 0, none⟩ = some (.int .i64 from_)) (hl : w.cell? ⟨mb, 1, none⟩ = some (.slice a L.length cap)) (hr : RowsAt w a L) :
    SeqStopsK Fence.wide n Tryz.prog 85 #[.pointer (some ⟨B1, 0, none⟩), .pointer (some ⟨B2, 0, none⟩)] encs Kp (fun ys => ys = upto (nrs L st) (L.length - st)) (fun pre => ∃ k, 0 < k ∧ k ≤ L.length - st ∧ pre = upto (nrs L st) k) (L.length - st) w := fun l J Jx W hW _ _ hY h0 =>
  tail1_in n hn l B1 B2 mb from_ st hst a cap L hL Kp hKp J Jx hY W ((hW.cell (p := ⟨B1, 0, none⟩) (World.block_lt_of_cell? _ _ hB1)).trans hB1) ((hW.cell (p := ⟨B2, 0, none⟩) (World.block_lt_of_cell? _ _ hB2)).trans hB2) ((hW.cell (p := ⟨mb, 1, none⟩) (World.block_lt_of_cell? _ _ hl)).trans hl) (hr.below hW rfl) h0

theorem upto_all (L : List Rw) : (upto (nrs L 0) (L.length - 0)).map (·.2) = L := by
  apply List.ext_getElem
  · simp [upto]
  · intro i h1 h2
    simp [upto, nrs, ra, List.getD_eq_getElem?_getD, h2]

set_option maxRecDepth 100000 in
set_option maxHeartbeats 3200000 in
theorem log_in {w : World} {mb : Nat} {s : Mm} {F : List Nat} (h : MI w mb s F) (hlog : s.log.length * 56 ≤ 140737488355328) :
    CallsIn Fence.wide 5 Tryz.prog 8 #[.pointer (some ⟨mb, 0, none⟩)] w fun e W' => ∃ v, e = .returned v ∧ W'.ownsRow w.heap.size 88 7 v s.log.length (fl rcells s.log) ∧ Below w.heap.size w W' := by
  obtain ⟨i0, hi0, hz0, hz1, hz2⟩ := info_parts rowInfo
  have ht := fun (w : World) => callsIn_wide (n := 4).2 (tail_any w (some ⟨mb, 0, none⟩) 0)
  refine callsIn_of_wp_marks Tryz.func8 rfl trivial ?_
  simp only [Tryz.ntmps8, List.size_toArray, List.length_cons, List.length_nil, Nat.reduceAdd, Nat.reduceSub, Array.replicate_succ, Array.replicate_zero, List.push_toArray, List.append_toArray, List.nil_append, List.cons_append]
  gi_wp2_with (refine ⟨trivial, ?_⟩; gi_at_call 36; refine (ht _).mono ?_; rintro e w' ⟨rfl, rfl⟩)
  obtain ⟨vc, vl, h, rfl⟩ := h
  obtain ⟨a, cap, rfl, hrows, hown⟩ := h.rows
  have lm := h.lt
  have B0 : Below w.heap.size w (((w.alloc (.cells #[.slice none 0 0] 40)).alloc (.cells #[.pointer (some ⟨mb, 0, none⟩)] 28)).alloc (.cells #[.int .i64 0] 3)) := (((Below.refl _ w).alloc (Nat.le_refl _) _).alloc (by simp) _).alloc (by simp; omega) _
  have bO := ((Boxed.new w 40 (.slice none 0 0)).alloc (.cells #[.pointer (some ⟨mb, 0, none⟩)] 28)).alloc (.cells #[.int .i64 0] 3)
  have bM := (Boxed.new (w.alloc (.cells #[.slice none 0 0] 40)) 28 (.pointer (some ⟨mb, 0, none⟩))).alloc (.cells #[.int .i64 0] 3)
  have bI := Boxed.new ((w.alloc (.cells #[.slice none 0 0] 40)).alloc (.cells #[.pointer (some ⟨mb, 0, none⟩)] 28)) 3 (.int .i64 0)
  obtain ⟨w3, hw3⟩ : ∃ w3, w3 = ((w.alloc (.cells #[.slice none 0 0] 40)).alloc (.cells #[.pointer (some ⟨mb, 0, none⟩)] 28)).alloc (.cells #[.int .i64 0] 3) := ⟨_, rfl⟩
  have s3 : w3.heap.size = w.heap.size + 3 := by rw [hw3]; simp
  rw [World.size_alloc] at bM
  rw [World.size_alloc, World.size_alloc] at bI
  (try rw [World.size_alloc])
  rw [← hw3] at B0 bO bM bI ⊢
  clear hw3
  have hf1 : w3.cell? ⟨mb, 1, none⟩ = some (.slice a s.log.length cap) := (B0.cell (p := ⟨mb, 1, none⟩) lm).trans h.f1
  have hR3 := hrows.below B0 rfl
  have hag : ∀ g, a = some ⟨g, 0, none⟩ → g < w.heap.size := fun g e => owns_lt' h.rl g (hown g e)
  have hKp : ∀ W W', Below w.heap.size W W' → KR a s.log.length W W' := fun W W' k g e o u _ hc => (k.cell (p := ⟨g, o, none⟩) (hag g e)).trans hc
  clear h hrows hown
  refine wpIn_rangeFunc_ownH rfl (by omega) (gf := 85) (lb := #[.pointer (some ⟨w.heap.size + 1, 0, none⟩), .pointer (some ⟨w.heap.size + 1 + 1, 0, none⟩)]) rfl trivial (enters_of Tryz.func85 (by kernel_rfl) rfl)
    (tail_stops 4 (by omega) (w.heap.size + 1) (w.heap.size + 1 + 1) mb 0 0 rfl a cap s.log (by omega) (Below w.heap.size) hKp w3 bM.cell bI.cell hf1 hR3) belowK_t (belowK_b (by omega)) (Below.refl _ _) (fun _ => rfl)
    (fun pre W => (∃ v, Boxed W w.heap.size 40 v ∧ W.ownsRow w.heap.size 88 7 v pre.length (fl rcells (pre.map (·.2))) ∧ True) ∧ Below w.heap.size w W)
    (fun _ _ _ => False)
    (OwnFrom.and (Own.from (holdsRow_own w.heap.size w.heap.size 40 88 7 (fun pre : List NR => pre.length) (fun pre => fl rcells (pre.map (·.2))) (fun _ _ => True)) _) (ownFrom_below (Nat.le_refl _) (by omega)))
    (fun _ _ _ _ _ hs _ _ => hs)
    ⟨⟨_, bO, World.ownsRow_nil _ _ _ _, trivial⟩, B0⟩
    (fun x a' W => ∃ Bx, w.heap.size < Bx ∧ RowAt W Bx 0 x.2 ∧ a' = { tmps := #[.pointer (some ⟨mb, 0, none⟩), undef, .slice none 0 0, .pointer (some ⟨w.heap.size, 0, none⟩), undef, .pointer (some ⟨Bx, 0, none⟩), .pointer (some ⟨mb, 0, none⟩), .func (.func 85) #[] #[.pointer (some ⟨w.heap.size + 1, 0, none⟩), .pointer (some ⟨w.heap.size + 1 + 1, 0, none⟩)], .int .i64 (x.1 : Int), .agg #[.int .i64 x.2.step, .int .i64 x.2.thread, .int .i64 x.2.kind, .int .i64 x.2.cell, .int .i64 x.2.seen, .int .i64 x.2.wrote, .bool x.2.done], undef, undef, undef, undef, undef], defers := [] })
    (fun x a' _ W W' row hs hg hr => by
      obtain ⟨Bx, h1, R, e⟩ := hs
      have k : ∀ {p : Addr} {v : Value}, W.cell? p = some v → W'.cell? p = some v := fun hc => cell_kept hc hg (fun r e => (hr r e).2)
      exact ⟨Bx, h1, ⟨k R.r0, k R.r1, k R.r2, k R.r3, k R.r4, k R.r5, k R.r6⟩, e⟩) ?assign ?body ?done ?stop
  case assign =>
    rintro l pre x W K ⟨⟨v, hv, hrow, _⟩, hB⟩ hK
    obtain ⟨i, r⟩ := x
    simp only [encs]
    gi_wp2
    refine hK _ _ ((KeepsOthers.alloc _ _).from _) ((Below.refl _ W).alloc hB.size _) ⟨⟨v, hv.alloc _, hrow.alloc _, trivial⟩, hB.trans ((Below.refl _ W).alloc hB.size _)⟩ ⟨W.heap.size, hv.lt, ?_, rfl⟩
    constructor <;> simp
  case body =>
    rintro l pre x a' W hl _ ⟨⟨v, hv, hrow, _⟩, hB⟩ ⟨Bx, hBx, R, rfl⟩ hlt
    have hc := hv.cell
    have hpl2 : pre.length < s.log.length := by omega
    have r0 := R.r0
    have r1 := R.r1
    have r2 := R.r2
    have r3 := R.r3
    have r4 := R.r4
    have r5 := R.r5
    have r6 := R.r6
    simp only [Nat.zero_add] at r0 r1 r2 r3 r4 r5 r6
    have h63 : pre.length + 1 ≤ maxLen := by unfold maxLen; omega
    have h56 : (pre.length + 1) * 56 ≤ 140737488355328 := by omega
    gi_wp2_with (gi_at_builtin; refine wpListIn_append_own _ rfl _ _ 40 rfl w.heap.size 88 i0 _ 7 56 underRows hi0 hz0 hz1 hz2 rfl (by decide) _ _ _ rfl (hrow.alloc _) ⟨W.heap.size, 0, none⟩ 1 1 (rcells x.2) rfl rfl (World.news_of_block (cs := #[.int .i64 x.2.step, .int .i64 x.2.thread, .int .i64 x.2.kind, .int .i64 x.2.cell, .int .i64 x.2.seen, .int .i64 x.2.wrote, .bool x.2.done]) (t := 88) (fr := (0, 0)) (heap_alloc_new W _)) (by simp [rcells, Value.oneCell']) h63 h56 (by have := hB.size; simp; omega) ?_; intro v' w1 hown' hgrow _; obtain ⟨g', cap', rfl⟩ := ownsRow_succ hown'; obtain ⟨hv1, hv2, hr2, hk2, hb2⟩ := hv.appended (by decide) hrow hB.size (Nat.le_refl _) hown' hgrow; have hc1 := hv1.cell; have hf1 := hv1.frozen)
    exact ⟨hk2.from _, hb2, ⟨_, hv2, by rw [List.map_append, List.length_append, fl_append]; exact ⟨hr2, trivial⟩⟩, hB.trans hb2⟩
  case done =>
    rintro D ys W hD rfl ⟨⟨v, hv, hrow, _⟩, hB⟩ hK
    have hc := hv.cell
    rw [upto_all, upto_length, Nat.sub_zero] at hrow
    gi_wp2
    refine ⟨by simp, .inl ⟨_, _, rfl, run_takeDeferred hK, ?_⟩⟩
    exact ⟨_, results_tmp rfl _ _ _, v, rfl, ownsRow_putObj hrow _ hK rfl, hB.trans (belowK_b (w := w) (Nat.le_refl _) W D _ _ (by omega) hK rfl rfl)⟩
  case stop =>
    rintro D c pre W _ _ h _
    exact h.elim
theorem log_any {w : World} {mb : Nat} {s : Mm} {F : List Nat} (h : MI w mb s F) (hlog : s.log.length * 56 ≤ 140737488355328) :
    Calls Tryz.prog 8 #[.pointer (some ⟨mb, 0, none⟩)] w fun e W' => ∃ v, e = .returned v ∧ W'.ownsRow w.heap.size 88 7 v s.log.length (fl rcells s.log) ∧ Keeps (fun _ => False) w W' :=
  (callsIn_wide.1 (log_in h hlog)).mono fun _ _ ⟨v, e, ho, b⟩ => ⟨v, e, ho, b.os, b.tape, b.output, b.size, fun k hk _ => b.block k hk⟩
end Go.Proofs.YtaikngpgmcpecaaGreat
