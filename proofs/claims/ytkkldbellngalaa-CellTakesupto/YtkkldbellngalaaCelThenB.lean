import Derived.Test.YtkkldbellngalaaCelThenA
namespace Go.Proofs.Ytkkldbellngalaa
open Go.RowKit Go.Shelf
attribute [local go_sem] Oper.semAt_some

set_option maxHeartbeats 800000 in
set_option maxRecDepth 1000000 in
theorem back_any (w : World) (p : Option Addr) (step : Int) : Calls Try.prog 50 #[.pointer p, .int .i64 step] w fun e w' =>
    e = .returned (.func (.func 53) #[] #[.pointer (some ⟨w.heap.size, 0, none⟩), .pointer (some ⟨w.heap.size + 1, 0, none⟩)]) ∧ w' = (w.alloc (.cells #[.pointer p] 25)).alloc (.cells #[.int .i64 step] 3) := by
  have hmf : ∀ (fn : Fn) (first cap : Array Value) (w : World), (Instr.makeFunc fn first cap).run Try.prog w = .ok (.func fn first cap) w := fun _ _ _ _ => rfl
  go_enter Try.func50, Try.ntmps50
  go_wp2
  go_ret
  exact ⟨rfl, rfl⟩

/-- back's value gives the rows up to a step, the newest first, or a part of them. -/
theorem back_stops (n : Nat) (hn : 1 ≤ n) (B1 B2 mb : Nat) (step : Int) (a : Option Addr) (cap : Nat) (L : List Rw) (hL : L.length ≤ 4611686018427387903) (hR : Rises L)
    (w : World) (l3 : ∀ g, a = some ⟨g, 0, none⟩ → g < w.heap.size) (hB1 : w.cell? ⟨B1, 0, none⟩ = some (.pointer (some ⟨mb, 0, none⟩))) (hB2 : w.cell? ⟨B2, 0, none⟩ = some (.int .i64 step)) (hl : w.cell? ⟨mb, 1, none⟩ = some (.slice a L.length cap)) (hr : RowsAt w a L) :
    SeqStopsK Fence.wide n Try.prog 53 #[.pointer (some ⟨B1, 0, none⟩), .pointer (some ⟨B2, 0, none⟩)] benc (Below w.heap.size) (fun ys => ∃ N, Upto L step N ∧ ys = upto (brs L N) N) (fun pre => ∃ N, Upto L step N ∧ ∃ k, 0 < k ∧ k ≤ N ∧ pre = upto (brs L N) k) L.length w := fun l J Jx W hW hJ _ hY h0 =>
  back1_in n hn l B1 B2 mb step a cap L hL hR w.heap.size J Jx hY W hJ hW.size (World.block_lt_of_cell? _ _ hB1) (World.block_lt_of_cell? _ _ hl) l3 ((hW.cell (p := ⟨B1, 0, none⟩) (World.block_lt_of_cell? _ _ hB1)).trans hB1) ((hW.cell (p := ⟨B2, 0, none⟩) (World.block_lt_of_cell? _ _ hB2)).trans hB2) ((hW.cell (p := ⟨mb, 1, none⟩) (World.block_lt_of_cell? _ _ hl)).trans hl) (hr.below hW rfl) h0

theorem lastOf_none {L : List Rw} {c d : Int} : ∀ {N : Nat}, N ≤ L.length → (∀ i, i < N → (ra L i).cell ≠ c) → lastOf c d (L.take N) = d
  | 0, _, _ => by simp [lastOf]
  | N + 1, h, hn => by rw [take_snoc (by omega), lastOf_snoc, if_neg (hn N (by omega)), lastOf_none (by omega) (fun i hi => hn i (by omega))]
theorem lastOf_hit {L : List Rw} {c d : Int} {i : Nat} (hc : (ra L i).cell = c) : ∀ {N : Nat}, N ≤ L.length → i < N → (∀ j, i < j → j < N → (ra L j).cell ≠ c) → lastOf c d (L.take N) = (ra L i).wrote
  | 0, _, h, _ => by omega
  | N + 1, h, hi, hn => by
    rw [take_snoc (by omega), lastOf_snoc]
    by_cases e : i = N
    · subst e; rw [if_pos hc]
    · rw [if_neg (hn N (by omega) (by omega)), lastOf_hit hc (by omega) (by omega) (fun j h1 h2 => hn j h1 (by omega))]
theorem brs_mem {L : List Rw} {N k i : Nat} (h : i < k) (_ : k ≤ N) : ra L (N - 1 - i) ∈ upto (brs L N) k := List.mem_map.2 ⟨i, by simpa using h, rfl⟩

set_option maxRecDepth 100000 in
set_option maxHeartbeats 3200000 in
theorem then_in {w : World} {mb : Nat} {s : Mm} {F : List Nat} (h : MI w mb s F) (hlog : s.log.length ≤ 4611686018427387903) (hR : Rises s.log) {c : Nat} (hc : c < s.cells.length) (step : Int) :
    CallsIn Fence.wide 5 Try.prog 38 #[.pointer (some ⟨mb, 0, none⟩), .int .i64 (c : Int), .int .i64 step] w fun e W' =>
      ∃ N, Upto s.log step N ∧ e = .returned (.tuple #[.int .i64 (lastOf c (ca s.cells c).1 (s.log.take N)), .int .i64 0]) ∧ Below w.heap.size w W' := by
  have hb := fun (W : World) => callsIn_wide (n := 4).2 (back_any W (some ⟨mb, 0, none⟩) step)
  have hh := fun (W : World) (k : Keeps (fun _ => False) w W) => callsIn_wide (n := 4).2 (has_any (h.new k) (c : Int))
  rw [there_ok hc] at hh
  refine callsIn_of_wp_marks Try.func38 rfl trivial ?_
  simp only [Try.ntmps38, List.size_toArray, List.length_cons, List.length_nil, Nat.reduceAdd, Nat.reduceSub, Array.replicate_succ, Array.replicate_zero, List.push_toArray, List.append_toArray, List.nil_append, List.cons_append]
  gi_wp2_with (first | (refine ⟨trivial, ?_⟩; gi_at_call 47; refine (hh _ ((((Keeps.refl _ _).alloc _).alloc _).alloc _)).mono ?_; rintro e w' ⟨rfl, rfl⟩) | (refine ⟨trivial, ?_⟩; gi_at_call 50; refine (hb _).mono ?_; rintro e w' ⟨rfl, rfl⟩))
  obtain ⟨vc, vl, h, rfl⟩ := h
  obtain ⟨a, cap, rfl, hrows, hown⟩ := h.rows
  obtain ⟨ac, capc, rfl, hsl⟩ := h.slice
  obtain ⟨gc, rfl, hgc⟩ := hsl (by omega)
  have lm := h.lt
  have bC := ((((Boxed.new w 3 (.int .i64 (c : Int))).alloc (.cells #[.int .i64 0] 2)).alloc (.cells #[.int .i64 0] 31)).alloc (.cells #[.pointer (some ⟨mb, 0, none⟩)] 25)).alloc (.cells #[.int .i64 step] 3)
  have b1 := (((Boxed.new (w.alloc (.cells #[.int .i64 (c : Int)] 3)) 2 (.int .i64 0)).alloc (.cells #[.int .i64 0] 31)).alloc (.cells #[.pointer (some ⟨mb, 0, none⟩)] 25)).alloc (.cells #[.int .i64 step] 3)
  have b2 := ((Boxed.new ((w.alloc (.cells #[.int .i64 (c : Int)] 3)).alloc (.cells #[.int .i64 0] 2)) 31 (.int .i64 0)).alloc (.cells #[.pointer (some ⟨mb, 0, none⟩)] 25)).alloc (.cells #[.int .i64 step] 3)
  have bM := (Boxed.new (((w.alloc (.cells #[.int .i64 (c : Int)] 3)).alloc (.cells #[.int .i64 0] 2)).alloc (.cells #[.int .i64 0] 31)) 25 (.pointer (some ⟨mb, 0, none⟩))).alloc (.cells #[.int .i64 step] 3)
  have bS := Boxed.new ((((w.alloc (.cells #[.int .i64 (c : Int)] 3)).alloc (.cells #[.int .i64 0] 2)).alloc (.cells #[.int .i64 0] 31)).alloc (.cells #[.pointer (some ⟨mb, 0, none⟩)] 25)) 3 (.int .i64 step)
  obtain ⟨w3, hw3⟩ : ∃ w3, w3 = ((((w.alloc (.cells #[.int .i64 (c : Int)] 3)).alloc (.cells #[.int .i64 0] 2)).alloc (.cells #[.int .i64 0] 31)).alloc (.cells #[.pointer (some ⟨mb, 0, none⟩)] 25)).alloc (.cells #[.int .i64 step] 3) := ⟨_, rfl⟩
  have s3 : w3.heap.size = w.heap.size + 5 := by rw [hw3]; simp
  have B0 : Below w.heap.size w w3 := by rw [hw3]; exact ((((((Keeps.refl (fun _ => False) w).alloc _).alloc _).alloc _).alloc _).alloc _).below (Nat.le_refl _) (fun _ _ e => e)
  simp only [World.size_alloc] at b1 b2 bM bS ⊢
  rw [← hw3] at bC b1 b2 bM bS ⊢
  clear hw3
  have hf1 : w3.cell? ⟨mb, 1, none⟩ = some (.slice a s.log.length cap) := (B0.cell (p := ⟨mb, 1, none⟩) lm).trans h.f1
  have hR3 := hrows.below B0 rfl
  have hag : ∀ g, a = some ⟨g, 0, none⟩ → g < w.heap.size := fun g e => owns_lt' h.rl g (hown g e)
  have f0 := h.f0
  have lgc : gc < w.heap.size := owns_lt' h.rc gc hgc
  have cc := (h.cell hgc hc).1
  have hcI : (c : Int) < (s.cells.length : Int) := by omega
  clear h hrows hown hsl hb hh
  have bk : ∀ {A B : World} {row : Option Nat} {b t : Nat} {v : Value}, Boxed A b t v → A.grownBy B row → (∀ r, row = some r → w3.heap.size ≤ r ∧ ∃ o : Obj, A.heap[r]? = some o ∧ o.isCells = false) → Boxed B b t v := fun hb hg hr =>
    hb.kept hg (fun e' => by obtain ⟨_, o, ho, hc⟩ := hr _ e'.symm; rw [show _ = _ from hb] at ho; cases ho; cases hc)
  refine wpIn_rangeFunc_ownH (α := Rw) rfl (by omega) (gf := 53) (lb := #[.pointer (some ⟨w.heap.size + 1 + 1 + 1, 0, none⟩), .pointer (some ⟨w.heap.size + 1 + 1 + 1 + 1, 0, none⟩)]) rfl trivial (enters_of Try.func53 (by kernel_rfl) rfl)
    (back_stops 4 (by omega) (w.heap.size + 1 + 1 + 1) (w.heap.size + 1 + 1 + 1 + 1) mb step a cap s.log hlog hR w3 (fun g e => by have := hag g e; omega) bM.cell bS.cell hf1 hR3) belowK_t (belowK_b (Nat.le_refl _)) (Below.refl _ _) (fun _ => rfl)
    (fun pre W => Boxed W w.heap.size 3 (.int .i64 (c : Int)) ∧ Boxed W (w.heap.size + 1) 2 (.int .i64 0) ∧ Boxed W (w.heap.size + 1 + 1) 31 (.int .i64 0) ∧ (∀ r ∈ pre, r.cell ≠ (c : Int)) ∧ Below w.heap.size w W ∧ w3.heap.size ≤ W.heap.size)
    (fun cd pre W => cd = .ret ∧ ∃ p r, pre = p ++ [r] ∧ r.cell = (c : Int) ∧ (∀ x ∈ p, x.cell ≠ (c : Int)) ∧ Boxed W (w.heap.size + 1) 2 (.int .i64 r.wrote) ∧ Boxed W (w.heap.size + 1 + 1) 31 (.int .i64 0) ∧ Below w.heap.size w W)
    (fun pre A B row hs hg hr => ⟨bk hs.1 hg hr, bk hs.2.1 hg hr, bk hs.2.2.1 hg hr, hs.2.2.2.1, hs.2.2.2.2.1.grown hg (by have := hs.2.2.2.2.1.size; omega) (fun k e => by have := (hr k e).1; omega), Nat.le_trans hs.2.2.2.2.2 hg.size⟩)
    (fun cd pre A B row hs hg hr => by
      obtain ⟨e, p, r, h1, h2, h3, h4, h5, h6⟩ := hs
      exact ⟨e, p, r, h1, h2, h3, bk h4 hg hr, bk h5 hg hr, h6.grown hg (by have := h6.size; omega) (fun k e => by have := (hr k e).1; omega)⟩)
    ⟨bC, b1, b2, (fun r hr => by cases hr), B0, Nat.le_refl _⟩
    (fun x a' W => ∃ Bx, w.heap.size + 4 < Bx ∧ RowAt W Bx 0 x ∧ a' = { tmps := #[.pointer (some ⟨mb, 0, none⟩), .int .i64 (c : Int), .int .i64 step, undef, .pointer (some ⟨w.heap.size, 0, none⟩), undef, .pointer (some ⟨w.heap.size + 1, 0, none⟩), .pointer (some ⟨w.heap.size + 1 + 1, 0, none⟩), .pointer (some ⟨Bx, 0, none⟩), .pointer (some ⟨mb, 0, none⟩), .int .i64 (c : Int), .bool true, .bool false, .pointer (some ⟨mb, 0, none⟩), .int .i64 step, .func (.func 53) #[] #[.pointer (some ⟨w.heap.size + 1 + 1 + 1, 0, none⟩), .pointer (some ⟨w.heap.size + 1 + 1 + 1 + 1, 0, none⟩)], .agg #[.int .i64 x.step, .int .i64 x.thread, .int .i64 x.kind, .int .i64 x.cell, .int .i64 x.seen, .int .i64 x.wrote, .bool x.done], undef, undef, undef, undef, undef, undef, undef, undef, undef, undef, undef, undef, undef, undef], defers := [] })
    (fun x a' _ W W' row hs hg hr => by
      obtain ⟨Bx, h1, R, e⟩ := hs
      have k : ∀ {p : Addr} {v : Value}, W.cell? p = some v → W'.cell? p = some v := fun hc => cell_kept hc hg (fun r e => (hr r e).2)
      exact ⟨Bx, h1, ⟨k R.r0, k R.r1, k R.r2, k R.r3, k R.r4, k R.r5, k R.r6⟩, e⟩) ?assign ?body ?done ?stop
  case assign =>
    rintro l pre x W K ⟨hC, h1, h2, hne, hB, hsz⟩ hK
    simp only [benc]
    gi_wp2
    refine hK _ _ ((KeepsOthers.alloc _ _).from _) ((Below.refl _ W).alloc hsz _) ⟨hC.alloc _, h1.alloc _, h2.alloc _, hne, hB.trans ((Below.refl _ W).alloc hB.size _), Nat.le_trans hsz (by simp)⟩ ⟨W.heap.size, by omega, ?_, rfl⟩
    constructor <;> simp
  case body =>
    rintro l pre x a' W hl _ ⟨hC, h1, h2, hne, hB, hsz⟩ ⟨Bx, hBx, R, rfl⟩ hlt
    have c0 := hC.cell
    have c1 := h1.cell
    have c2 := h2.cell
    have z1 := h1.frozen
    have z2 := h2.frozen
    have r3 := R.r3
    have r5 := R.r5
    simp only [Nat.zero_add] at r3 r5
    clear R
    by_cases hx : x.cell = (c : Int)
    · have hx' : (x.cell == (c : Int)) = true := by simp [hx]
      have HX : Hid (x.cell = (c : Int)) := hx
      have q2 : ∀ v, (W.setCell ⟨w.heap.size + 1, 0, none⟩ v).cell? ⟨w.heap.size + 1 + 1, 0, none⟩ = some (.int .i64 0) := fun v => (h2.other (by omega) v).cell
      clear hx
      gi_wp2
      refine ⟨((KeepsOthers.setCell _ _ _).trans (KeepsOthers.setCell _ _ _)).from _, rfl, pre, x, rfl, HX.out, hne, ?_, ?_, ?_⟩
      · exact (h1.set _).other (by omega) _
      · exact (h2.other (by omega) _).set _
      · exact (hB.setCell (p := ⟨w.heap.size + 1, 0, none⟩) (by show w.heap.size ≤ w.heap.size + 1; omega) _).setCell (p := ⟨w.heap.size + 1 + 1, 0, none⟩) (by show w.heap.size ≤ w.heap.size + 1 + 1; omega) _
    · have hx' : (x.cell == (c : Int)) = false := by simp [hx]
      have HX : Hid (x.cell ≠ (c : Int)) := hx
      clear hx
      gi_wp2
      exact ⟨KeepsFrom.refl _ _, Below.refl _ _, hC, h1, h2, fun r hr => (List.mem_append.1 hr).elim (hne r) (fun e => by simp at e; rw [e]; exact HX.out), hB, hsz⟩
  case done =>
    rintro D ys W hD ⟨N, hU, rfl⟩ ⟨hC, h1, h2, hne, hB, hsz⟩ hK
    have hv : lastOf c (ca s.cells c).1 (s.log.take N) = (ca s.cells c).1 := lastOf_none hU.1 (fun i hi => by
      have := hne _ (brs_mem (L := s.log) (N := N) (k := N) (i := N - 1 - i) (by omega) (Nat.le_refl _))
      rwa [show N - 1 - (N - 1 - i) = i by omega] at this)
    have c0 := hC.cell
    have c1 := h1.cell
    have c2 := h2.cell
    have z1 := h1.frozen
    have z2 := h2.frozen
    have g0 := (hB.cell (p := ⟨mb, 0, none⟩) lm).trans f0
    have gg := (hB.cell (p := ⟨gc, c * 2, none⟩) lgc).trans cc
    have HV : Hid (lastOf c (ca s.cells c).1 (s.log.take N) = (ca s.cells c).1) := hv
    have HU : Hid (Upto s.log step N) := hU
    clear hv hne hU
    gi_wp2
    refine wpIn_wide.2 ?_
    go_region
    all_goals
      (try simp only [Exit.then])
      gi_wp2
      have x1 : Boxed (World.drew ((W.setCell ⟨w.heap.size + 1, 0, none⟩ (.int .i64 (ca s.cells c).1)).setCell ⟨w.heap.size + 1 + 1, 0, none⟩ (.int .i64 0))) (w.heap.size + 1) 2 (.int .i64 (ca s.cells c).1) := (h1.set (.int .i64 (ca s.cells c).1)).other (B' := w.heap.size + 1 + 1) (by omega) (.int .i64 0)
      have x2 : Boxed (World.drew ((W.setCell ⟨w.heap.size + 1, 0, none⟩ (.int .i64 (ca s.cells c).1)).setCell ⟨w.heap.size + 1 + 1, 0, none⟩ (.int .i64 0))) (w.heap.size + 1 + 1) 31 (.int .i64 0) := (h2.other (B' := w.heap.size + 1) (by omega) (.int .i64 (ca s.cells c).1)).set (.int .i64 0)
      have hK' : (World.drew ((W.setCell ⟨w.heap.size + 1, 0, none⟩ (.int .i64 (ca s.cells c).1)).setCell ⟨w.heap.size + 1 + 1, 0, none⟩ (.int .i64 0))).heap[D]? = some (.deferred (some [])) := ((KeepsOthers.setCell W ⟨w.heap.size + 1, 0, none⟩ (.int .i64 (ca s.cells c).1)).trans (KeepsOthers.setCell _ ⟨w.heap.size + 1 + 1, 0, none⟩ (.int .i64 0))).same D _ hK rfl
      have hB1 := (hB.setCell (p := ⟨w.heap.size + 1, 0, none⟩) (by show w.heap.size ≤ w.heap.size + 1; omega) (.int .i64 (ca s.cells c).1)).setCell (p := ⟨w.heap.size + 1 + 1, 0, none⟩) (by show w.heap.size ≤ w.heap.size + 1 + 1; omega) (.int .i64 0)
      have hB' : Below w.heap.size w (World.drew ((W.setCell ⟨w.heap.size + 1, 0, none⟩ (.int .i64 (ca s.cells c).1)).setCell ⟨w.heap.size + 1 + 1, 0, none⟩ (.int .i64 0))) := ⟨hB1.os, hB1.tape, hB1.output, hB1.size, hB1.block⟩
      refine ⟨by simp, .inl ⟨_, _, rfl, run_takeDeferred hK', ?_⟩⟩
      have k1 := cell_kept x1.cell (grownBy_putObj' _ D (.deferred none)) (fun r e => by cases e; exact ⟨_, hK', rfl⟩)
      have k2 := cell_kept x2.cell (grownBy_putObj' _ D (.deferred none)) (fun r e => by cases e; exact ⟨_, hK', rfl⟩)
      refine ⟨.tuple #[.int .i64 (ca s.cells c).1, .int .i64 0], ?_, N, HU.out, by rw [HV.out], hB'.trans (belowK_b (w := w) (Nat.le_refl _) _ D _ _ (by omega) hK' rfl rfl)⟩
      simp [results, Try.f38, go_sem, k1, k2]
  case stop =>
    rintro D cd pre W hD ⟨N, hU, k, hk0, hk, rfl⟩ ⟨rfl, p, r, hp, hrc, hne, h1, h2, hB⟩ hK
    have e1 : upto (brs s.log N) k = upto (brs s.log N) (k - 1) ++ [brs s.log N (k - 1)] := by
      rw [← upto_succ, show k - 1 + 1 = k by omega]
    obtain ⟨e2, e3⟩ := List.append_inj' (e1.symm.trans hp) rfl
    have e4 : r = ra s.log (N - k) := by
      simp only [List.cons.injEq, and_true] at e3
      rw [← e3]; unfold brs; congr 1; omega
    have hv : lastOf c (ca s.cells c).1 (s.log.take N) = r.wrote := by
      rw [e4]
      refine lastOf_hit (by rw [← e4]; exact hrc) hU.1 (by omega) (fun j h1 h2 => ?_)
      have := hne _ (e2 ▸ brs_mem (L := s.log) (N := N) (k := k - 1) (i := N - 1 - j) (by omega) (by omega))
      rwa [show N - 1 - (N - 1 - j) = j by omega] at this
    gi_wp2
    refine ⟨by simp, .inl ⟨_, _, rfl, run_takeDeferred hK, ?_⟩⟩
    have k1 := cell_kept h1.cell (grownBy_putObj' _ D (.deferred none)) (fun r e => by cases e; exact ⟨_, hK, rfl⟩)
    have k2 := cell_kept h2.cell (grownBy_putObj' _ D (.deferred none)) (fun r e => by cases e; exact ⟨_, hK, rfl⟩)
    refine ⟨.tuple #[.int .i64 r.wrote, .int .i64 0], ?_, N, hU, by rw [hv], hB.trans (belowK_b (w := w) (Nat.le_refl _) W D _ _ (by omega) hK rfl rfl)⟩
    simp [results, Try.f38, go_sem, k1, k2]

/-- Then, of a cell that is there. -/
theorem then_any {w : World} {mb : Nat} {s : Mm} {F : List Nat} (h : MI w mb s F) (hlog : s.log.length ≤ 4611686018427387903) (hR : Rises s.log) {c : Nat} (hc : c < s.cells.length) (step : Int) :
    Calls Try.prog 38 #[.pointer (some ⟨mb, 0, none⟩), .int .i64 (c : Int), .int .i64 step] w fun e W' =>
      ∃ N, Upto s.log step N ∧ e = .returned (.tuple #[.int .i64 (lastOf c (ca s.cells c).1 (s.log.take N)), .int .i64 0]) ∧ Keeps (fun _ => False) w W' :=
  (callsIn_wide.1 (then_in h hlog hR hc step)).mono fun _ _ ⟨N, hU, e, b⟩ => ⟨N, hU, e, b.os, b.tape, b.output, b.size, fun k hk _ => b.block k hk⟩

set_option maxHeartbeats 1600000 in
set_option maxRecDepth 1000000 in
/-- Then, of no cell. -/
theorem then_not {w : World} {mb : Nat} {s : Mm} {F : List Nat} (h : MI w mb s F) {c : Int} (hc : s.there c = false) (step : Int) :
    Calls Try.prog 38 #[.pointer (some ⟨mb, 0, none⟩), .int .i64 c, .int .i64 step] w fun e w' => e = .returned (.tuple #[.int .i64 0, .int .i64 30]) ∧ Keeps (fun _ => False) w w' := by
  have K0 : ∀ o o' o'', Keeps (fun _ => False) w (((w.alloc o).alloc o').alloc o'') := fun o o' o'' => (((Keeps.refl _ w).alloc o).alloc o').alloc o''
  have hh := fun o o' o'' => callsIn_wide (n := 4).2 (has_any (h.new (K0 o o' o'')) c)
  rw [hc] at hh
  refine callsIn_wide (n := 5).1 ?_
  refine callsIn_of_wp_marks Try.func38 rfl trivial ?_
  simp only [Try.ntmps38, List.size_toArray, List.length_cons, List.length_nil, Nat.reduceAdd, Nat.reduceSub, Array.replicate_succ, Array.replicate_zero, List.push_toArray, List.append_toArray, List.nil_append, List.cons_append]
  gi_wp2_with (refine ⟨trivial, ?_⟩; gi_at_call 47; refine (hh _ _ _).mono ?_; rintro e w' ⟨rfl, rfl⟩)
  have b1 := ((Boxed.new (w.alloc (.cells #[.int .i64 c] 3)) 2 (.int .i64 0)).alloc (.cells #[.int .i64 30] 31)).cell
  have b2 := (Boxed.new ((w.alloc (.cells #[.int .i64 c] 3)).alloc (.cells #[.int .i64 0] 2)) 31 (.int .i64 30)).cell
  simp only [World.size_alloc] at b1 b2
  refine ⟨.tuple #[.int .i64 0, .int .i64 30], ?_, rfl, K0 _ _ _⟩
  simp [results, Try.f38, go_sem, b1, b2]
end Go.Proofs.Ytkkldbellngalaa
