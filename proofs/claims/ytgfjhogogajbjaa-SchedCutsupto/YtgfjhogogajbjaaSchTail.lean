import Derived.Test.YtgfjhogogajbjaaSchF
namespace Go.Proofs.Ytgfjhogogajbjaa
open Go.RowKit Go.Shelf
attribute [local go_sem] Oper.semAt_some

/-- The last stretch. -/
def lc (f : Nat → Int) (m : Nat) {M : Nat} (pre : List (Fin M)) : Cu := (pre.getLast?.map fun x => cut f m x).getD ⟨-1, 0, 0⟩
theorem lc_snoc (f : Nat → Int) (m : Nat) {M : Nat} (pre : List (Fin M)) (x : Fin M) : lc f m (pre ++ [x]) = cut f m x := by simp [lc]
/-- A stretch in block b. -/
structure CA (W : World) (b : Nat) (c : Cu) : Prop where
  c0 : W.cell? ⟨b, 0, none⟩ = some (.int .i64 c.th)
  c1 : W.cell? ⟨b, 1, none⟩ = some (.int .i64 (c.fr : Int))
  c2 : W.cell? ⟨b, 2, none⟩ = some (.int .i64 (c.len : Int))
  z0 : W.frozen? ⟨b, 0, none⟩ = false
  z1 : W.frozen? ⟨b, 1, none⟩ = false
  z2 : W.frozen? ⟨b, 2, none⟩ = false
theorem CA.kept {A B : World} {row : Option Nat} {b : Nat} {c : Cu} (h : CA A b c) (hg : A.grownBy B row) (hr : ∀ r, row = some r → ∃ o : Obj, A.heap[r]? = some o ∧ o.isCells = false) : CA B b c :=
  ⟨cell_kept h.c0 hg hr, cell_kept h.c1 hg hr, cell_kept h.c2 hg hr, (frozen_kept h.c0 hg hr).trans h.z0, (frozen_kept h.c1 hg hr).trans h.z1, (frozen_kept h.c2 hg hr).trans h.z2⟩
theorem CA.keeps {S : Nat → Prop} {A B : World} {b : Nat} {c : Cu} (h : CA A b c) (k : Keeps S A B) (hb : ¬ S b) : CA B b c :=
  have hl := World.block_lt_of_cell? _ _ h.c0
  ⟨k.cell h.c0 hb, k.cell h.c1 hb, k.cell h.c2 hb, (k.frozen (p := ⟨b, 0, none⟩) hl hb).trans h.z0, (k.frozen (p := ⟨b, 1, none⟩) hl hb).trans h.z1, (k.frozen (p := ⟨b, 2, none⟩) hl hb).trans h.z2⟩

/-- A stretch is written. -/
def put3 (A : World) (b : Nat) (c : Cu) : World := ((A.setCell ⟨b, 0, none⟩ (.int .i64 c.th)).setCell ⟨b, 1, none⟩ (.int .i64 (c.fr : Int))).setCell ⟨b, 2, none⟩ (.int .i64 (c.len : Int))
theorem CA.put {A : World} {b : Nat} {c0 : Cu} (h : CA A b c0) (c : Cu) : CA (put3 A b c) b c where
  c0 := by
    unfold put3
    rw [World.cell?_setCell_other (h := by simp), World.cell?_setCell_other (h := by simp)]
    exact World.cell?_setCell_same (h := h.c0) ..
  c1 := by
    unfold put3
    rw [World.cell?_setCell_other (h := by simp)]
    exact World.cell?_setCell_same (h := (World.cell?_setCell_other (h := by simp) ..).trans h.c1) ..
  c2 := by
    unfold put3
    exact World.cell?_setCell_same (h := (World.cell?_setCell_other (h := by simp) ..).trans ((World.cell?_setCell_other (h := by simp) ..).trans h.c2)) ..
  z0 := by unfold put3; rw [World.frozen?_setCell, World.frozen?_setCell, World.frozen?_setCell]; exact h.z0
  z1 := by unfold put3; rw [World.frozen?_setCell, World.frozen?_setCell, World.frozen?_setCell]; exact h.z1
  z2 := by unfold put3; rw [World.frozen?_setCell, World.frozen?_setCell, World.frozen?_setCell]; exact h.z2
theorem put3_keeps (A : World) (b : Nat) (c : Cu) : Keeps (fun k => k = b) A (put3 A b c) :=
  (((Keeps.refl (fun k => k = b) A).setCell (p := ⟨b, 0, none⟩) (fun _ => rfl) _).setCell (p := ⟨b, 1, none⟩) (fun _ => rfl) _).setCell (p := ⟨b, 2, none⟩) (fun _ => rfl) _
theorem put3_others (A : World) (b : Nat) (c : Cu) : KeepsOthers A (put3 A b c) := ((KeepsOthers.setCell _ _ _).trans (KeepsOthers.setCell _ _ _)).trans (KeepsOthers.setCell _ _ _)
theorem put3_below {n : Nat} {w A : World} (h : Below n w A) {b : Nat} (hb : n ≤ b) (c : Cu) : Below n w (put3 A b c) :=
  ((h.setCell (p := ⟨b, 0, none⟩) hb _).setCell (p := ⟨b, 1, none⟩) hb _).setCell (p := ⟨b, 2, none⟩) hb _

set_option maxRecDepth 100000 in
set_option maxHeartbeats 6400000 in
theorem tail_in {w : World} {a : Option Addr} {m cap nt : Nat} {z : Nat → Int} (h : NL w a m z) (hn : 1 ≤ nt ∧ nt ≤ 6) (hm : m ≤ 4096) {M : Nat} (hM : Many (nmf nt z) m M) :
    CallsIn Fence.wide 5 Try.prog 13 #[.int .i64 (nt : Int), .slice a m cap] w fun e w' => e = .returned (.tuple #[.agg #[.int .i64 (lc (nmf nt z) m (idx M M)).th, .int .i64 ((lc (nmf nt z) m (idx M M)).fr : Int), .int .i64 ((lc (nmf nt z) m (idx M M)).len : Int)], .int .i64 0]) ∧ Keeps (fun _ => False) w w' := by
  have hz : rfz (nt : Int) m = 0 := by unfold rfz; rw [if_neg (by omega), if_neg (by omega)]
  have hf := fun (w : World) => callsIn_wide (n := 4).2 (refuse_any w (nt : Int) a m cap)
  rw [hz] at hf
  have K0 : ∀ o o', Keeps (fun _ => False) w ((w.alloc o).alloc o') := fun o o' => ((Keeps.refl _ w).alloc o).alloc o'
  have hs := fun o o' => callsIn_wide (n := 4).2 (stretches_any (cap := cap) (h.new (K0 o o')) hn hm)
  refine callsIn_of_wp_marks Try.func13 rfl trivial ?_
  simp only [Try.ntmps13, List.size_toArray, List.length_cons, List.length_nil, Nat.reduceAdd, Nat.reduceSub, Array.replicate_succ, Array.replicate_zero, List.push_toArray, List.append_toArray, List.nil_append, List.cons_append]
  clear hz
  gi_wp2_with (first | (refine ⟨trivial, ?_⟩; gi_at_call 16; refine (hf _).mono ?_; rintro e w0 ⟨rfl, hw0⟩; subst hw0) | (refine ⟨trivial, ?_⟩; gi_at_call 12; refine (hs _ _).mono ?_; rintro e w3 ⟨B1, B2, a', cap', rfl, hq⟩))
  have z3 : w.heap.size + 2 ≤ w3.heap.size := by simpa using hq.keeps.size
  have q1 : w.heap.size + 2 ≤ B1 := by simpa using hq.n1
  have q2 : w.heap.size + 2 ≤ B2 := by simpa using hq.n2
  have I0 : CA w3 (w.heap.size + 1) ⟨-1, 0, 0⟩ := CA.keeps (S := fun _ => False) (A := (w.alloc _).alloc _) ⟨by simp, by simp, by simp, by simp, by simp, by simp⟩ hq.keeps (fun e => e)
  have R0 : CA w3 w.heap.size ⟨0, 0, 0⟩ := CA.keeps (S := fun _ => False) (A := (w.alloc (.cells #[.int .i64 0, .int .i64 0, .int .i64 0] 36)).alloc _) ⟨by simp, by simp, by simp, by simp, by simp, by simp⟩ hq.keeps (fun e => e)
  have bl : Below w.heap.size w w3 := ((K0 _ _).trans hq.keeps).below (Nat.le_refl _) (fun _ _ e => e)
  have hsv := hq.sv (T := fun k => k = w.heap.size ∨ k = w.heap.size + 1) (fun k e => by rcases e with rfl | rfl <;> simp <;> omega)
  clear hs hf K0 h
  refine wpIn_rangeFunc_ownH (α := Fin M) rfl (by omega) (gf := 21) (lb := #[.pointer (some ⟨B1, 0, none⟩), .pointer (some ⟨B2, 0, none⟩)]) rfl trivial (enters_of Try.func21 (by kernel_rfl) rfl)
    (cut_stops 4 (by omega) hq hm hM (Keeps (fun k => (k = w.heap.size ∨ k = w.heap.size + 1) ∨ w3.heap.size ≤ k)) hsv) keepsK_t keepsK_b (Below.refl _ _) (fun _ => rfl)
    (fun pre W => CA W (w.heap.size + 1) (lc (nmf nt z) m pre) ∧ CA W w.heap.size ⟨0, 0, 0⟩ ∧ Below w.heap.size w W ∧ w3.heap.size ≤ W.heap.size)
    (fun _ _ _ => False)
    (fun pre A B row hs hg hr => ⟨hs.1.kept hg (fun r e => (hr r e).2), hs.2.1.kept hg (fun r e => (hr r e).2), hs.2.2.1.grown hg (by have := hs.2.2.2; omega) (fun k e => by have := (hr k e).1; omega), Nat.le_trans hs.2.2.2 hg.size⟩)
    (fun _ _ _ _ _ hs _ _ => hs)
    ⟨I0, R0, bl, Nat.le_refl _⟩
    (fun x av W => ∃ Bx c, c = cut (nmf nt z) m x ∧ w.heap.size + 1 < Bx ∧ W.cell? ⟨Bx, 0, none⟩ = some (.int .i64 c.th) ∧ W.cell? ⟨Bx, 1, none⟩ = some (.int .i64 (c.fr : Int)) ∧ W.cell? ⟨Bx, 2, none⟩ = some (.int .i64 (c.len : Int)) ∧ av = { tmps := #[.int .i64 (nt : Int), .slice a m cap, undef, undef, .pointer (some ⟨w.heap.size, 0, none⟩), .int .i64 0, .int .i64 0, .pointer (some ⟨w.heap.size + 1, 0, none⟩), .pointer (some ⟨Bx, 0, none⟩), .int .i64 (nt : Int), .slice a m cap, .int .i64 0, .int .i64 0, .bool false, undef, undef, .agg #[.int .i64 (-1), .int .i64 0, .int .i64 0], .int .i64 (nt : Int), .slice a m cap, .func (.func 21) #[] #[.pointer (some ⟨B1, 0, none⟩), .pointer (some ⟨B2, 0, none⟩)], .agg #[.int .i64 c.th, .int .i64 (c.fr : Int), .int .i64 (c.len : Int)], undef, undef], defers := [] })
    (fun x av _ W W' row hs hg hr => by
      obtain ⟨Bx, c, hc, h0, h1, h2, h3, e⟩ := hs
      have k : ∀ {p : Addr} {v : Value}, W.cell? p = some v → W'.cell? p = some v := fun hc => cell_kept hc hg (fun r e => (hr r e).2)
      exact ⟨Bx, c, hc, h0, k h1, k h2, k h3, e⟩) ?assign ?body ?done ?stop
  case assign =>
    rintro l pre x W K ⟨hI, hR, hB, hsz⟩ hK
    obtain ⟨c, hc⟩ : ∃ c, Hid (c = cut (nmf nt z) m x) := ⟨_, rfl⟩
    rw [← hc.out]
    simp only [encu]
    gi_wp2
    exact hK _ _ ((KeepsOthers.alloc _ _).from _) ((Keeps.refl _ W).alloc _) ⟨hI.kept (World.grownBy_alloc W _ none) (fun _ e => by cases e), hR.kept (World.grownBy_alloc W _ none) (fun _ e => by cases e), hB.trans ((Below.refl _ W).alloc hB.size _), Nat.le_trans hsz (by simp)⟩ ⟨W.heap.size, c, hc.out, by omega, by simp, by simp, by simp, rfl⟩
  case body =>
    rintro l pre x av W hl _ ⟨hI, hR, hB, hsz⟩ ⟨Bx, c, hc, hBx, h0, h1, h2, rfl⟩ hlt
    have i0 := hI.c0
    have i1 := hI.c1
    have i2 := hI.c2
    have y0 := hI.z0
    have y1 := hI.z1
    have y2 := hI.z2
    have HC := (show Hid _ from hc)
    clear hc
    gi_wp2
    have hk := put3_keeps W (w.heap.size + 1) c
    refine ⟨(put3_others W (w.heap.size + 1) c).from _, hk.mono (fun _ _ e => .inl (.inr e)), ?_, hR.keeps hk (by simp), put3_below hB (by omega) c, Nat.le_trans hsz hk.size⟩
    rw [lc_snoc, ← HC.out]
    exact hI.put c
  case done =>
    rintro D ys W hD rfl ⟨hI, hR, hB, hsz⟩ hK
    have i0 := hI.c0
    have i1 := hI.c1
    have i2 := hI.c2
    have j0 := hR.c0
    have j1 := hR.c1
    have j2 := hR.c2
    have y0 := hR.z0
    have y1 := hR.z1
    have y2 := hR.z2
    obtain ⟨c, hcl⟩ : ∃ c, Hid (c = lc (nmf nt z) m (idx M M)) := ⟨_, rfl⟩
    rw [← hcl.out] at hI i0 i1 i2
    gi_wp2
    have hR2 := hR.put c
    have hB2 := put3_below hB (Nat.le_refl w.heap.size) c
    have hK' := (put3_others W w.heap.size c).same D _ hK rfl
    refine ⟨by simp, .inl ⟨_, _, rfl, run_takeDeferred hK', ?_⟩⟩
    have k0 := cell_kept hR2.c0 (grownBy_putObj' _ D (.deferred none)) (fun r e => by cases e; exact ⟨_, hK', rfl⟩)
    have k1 := cell_kept hR2.c1 (grownBy_putObj' _ D (.deferred none)) (fun r e => by cases e; exact ⟨_, hK', rfl⟩)
    have k2 := cell_kept hR2.c2 (grownBy_putObj' _ D (.deferred none)) (fun r e => by cases e; exact ⟨_, hK', rfl⟩)
    have b9 := hB2.trans (belowK_b (w := w) (Nat.le_refl _) _ D _ (.deferred none) (by omega) hK' rfl rfl)
    unfold put3 at k0 k1 k2
    refine ⟨.tuple #[.agg #[.int .i64 c.th, .int .i64 (c.fr : Int), .int .i64 (c.len : Int)], .int .i64 0], ?_, by rw [hcl.out], b9.os, b9.tape, b9.output, b9.size, fun k hk _ => b9.block k hk⟩
    simp [results, Try.f13, go_sem, k0, k1, k2]
  case stop => exact fun D cd pre W _ _ hf => hf.elim

theorem tail_any {w : World} {a : Option Addr} {m : Nat} {z : Nat → Int} (h : NL w a m z) (cap : Nat) {nt : Nat} (hn : 1 ≤ nt ∧ nt ≤ 6) (hm : m ≤ 4096) {M : Nat} (hM : Many (nmf nt z) m M) :
    Calls Try.prog 13 #[.int .i64 (nt : Int), .slice a m cap] w fun e w' => e = .returned (.tuple #[.agg #[.int .i64 (lc (nmf nt z) m (idx M M)).th, .int .i64 ((lc (nmf nt z) m (idx M M)).fr : Int), .int .i64 ((lc (nmf nt z) m (idx M M)).len : Int)], .int .i64 0]) ∧ Keeps (fun _ => False) w w' :=
  callsIn_wide.1 (tail_in h hn hm hM)

set_option maxHeartbeats 1600000 in
set_option maxRecDepth 1000000 in
theorem tail_no (w : World) (n : Int) (a : Option Addr) (m cap : Nat) (hz : rfz n m ≠ 0) :
    Calls Try.prog 13 #[.int .i64 n, .slice a m cap] w fun e w' => e = .returned (.tuple #[.agg #[.int .i64 0, .int .i64 0, .int .i64 0], .int .i64 (rfz n m)]) ∧ Keeps (fun _ => False) w w' := by
  have hf := fun (w : World) => callsIn_wide (n := 4).2 (refuse_any w n a m cap)
  have hzb : (rfz n m != 0) = true := by simpa using hz
  generalize rfz n m = r at *
  clear hz
  refine callsIn_wide (n := 5).1 ?_
  refine callsIn_of_wp_marks Try.func13 rfl trivial ?_
  simp only [Try.ntmps13, List.size_toArray, List.length_cons, List.length_nil, Nat.reduceAdd, Nat.reduceSub, Array.replicate_succ, Array.replicate_zero, List.push_toArray, List.append_toArray, List.nil_append, List.cons_append]
  gi_wp2_with ((refine ⟨trivial, ?_⟩; gi_at_call 16; refine (hf _).mono ?_; rintro e w0 ⟨rfl, hw0⟩; subst hw0))
  refine ⟨.tuple #[.agg #[.int .i64 0, .int .i64 0, .int .i64 0], .int .i64 r], ?_, rfl, (Keeps.refl _ w).alloc _⟩
  simp [results, Try.f13, go_sem]
end Go.Proofs.Ytgfjhogogajbjaa
