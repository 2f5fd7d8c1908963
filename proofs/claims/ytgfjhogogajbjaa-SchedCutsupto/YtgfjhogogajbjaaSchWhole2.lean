import Derived.Test.YtgfjhogogajbjaaSchWhole
namespace Go.Proofs.Ytgfjhogogajbjaa
open Go.RowKit Go.Shelf
attribute [local go_sem] Oper.semAt_some

set_option maxHeartbeats 1600000 in
set_option maxRecDepth 100000 in
/-- What Stretches gives where it is refused: nothing. -/
theorem none_stops (n : Nat) (Kp : World → World → Prop) (w : World) (S Sp : List (Fin 0) → Prop) (hS : S []) (N : Nat) (encs : Fin 0 → Array Value) :
    SeqStopsK Fence.wide n Try.prog 19 #[] encs Kp S Sp N w := fun l J Jx W _ _ _ _ h0 => by
  refine callsIn_of_wp Try.func19 rfl trivial ?_
  simp only [Try.ntmps19, List.size_toArray, List.length_cons, List.length_nil, Nat.reduceAdd, Nat.reduceSub, Array.replicate_succ, Array.replicate_zero, List.push_toArray, List.append_toArray, List.nil_append, List.cons_append]
  gi_wp2
  go_end0
  exact ⟨⟨_, rfl⟩, .inl ⟨[], hS, h0⟩⟩

set_option maxRecDepth 100000 in
set_option maxHeartbeats 6400000 in
theorem whole_no (w : World) (n : Int) (a : Option Addr) (m cap : Nat) (hz : rfz n m ≠ 0) :
    CallsIn Fence.wide 5 Try.prog 7 #[.int .i64 n, .slice a m cap] w fun e w' => e = .returned (.bool true) ∧ Keeps (fun _ => False) w w' := by
  have hnil : ∀ (fn : Fn) (first cap : Array Value) (W : World), (binOp .eql 33 (.func fn first cap) Value.nilFunc).run Try.prog W = .ok (.bool false) W := fun fn first cap W => rfl
  have hT := fun (W : World) => callsIn_wide (n := 4).2 (tail_no W n a m cap hz)
  have hS := fun (W : World) => callsIn_wide (n := 4).2 (stretches_no W n a m cap hz)
  have htk := fun (W : World) => callsIn_wide (n := 4).2 (taken_any W n a m cap)
  rw [decide_eq_false hz] at htk
  have hzb : (rfz n m != 0) = true := by simpa using hz
  generalize rfz n m = r at *
  clear hz
  have bT := ((Boxed.new w 3 (.int .i64 n)).alloc (.cells #[.slice a m cap] 25)).alloc (.cells #[.bool false] 4)
  have bP := (Boxed.new (w.alloc (.cells #[.int .i64 n] 3)) 25 (.slice a m cap)).alloc (.cells #[.bool false] 4)
  have bR := Boxed.new ((w.alloc (.cells #[.int .i64 n] 3)).alloc (.cells #[.slice a m cap] 25)) 4 (.bool false)
  have K0 : ∀ o o' o'', Keeps (fun _ => False) w (((w.alloc o).alloc o').alloc o'') := fun o o' o'' => (((Keeps.refl _ w).alloc o).alloc o').alloc o''
  simp only [World.size_alloc] at bP bR
  refine callsIn_of_wp_marks Try.func7 rfl trivial ?_
  simp only [Try.ntmps7, List.size_toArray, List.length_cons, List.length_nil, Nat.reduceAdd, Nat.reduceSub, Array.replicate_succ, Array.replicate_zero, List.push_toArray, List.append_toArray, List.nil_append, List.cons_append]
  gi_wp2_with (first | (refine ⟨trivial, ?_⟩; gi_at_call 13; refine (hT _).mono ?_; clear hT; rintro e w1 ⟨rfl, k1⟩; have c0 := k1.cell bT.cell (fun e => e); have c1 := k1.cell bP.cell (fun e => e); have d0 : ∀ o1 o2 o3 o4, ((((w1.alloc o1).alloc o2).alloc o3).alloc o4).cell? ⟨w.heap.size, 0, none⟩ = some (.int .i64 n) := (fun o1 o2 o3 o4 => (((((Keeps.refl (fun _ => False) w1).alloc o1).alloc o2).alloc o3).alloc o4).cell c0 (fun e => e)); have d1 : ∀ o1 o2 o3 o4, ((((w1.alloc o1).alloc o2).alloc o3).alloc o4).cell? ⟨w.heap.size + 1, 0, none⟩ = some (.slice a m cap) := (fun o1 o2 o3 o4 => (((((Keeps.refl (fun _ => False) w1).alloc o1).alloc o2).alloc o3).alloc o4).cell c1 (fun e => e))) | (refine ⟨trivial, ?_⟩; gi_at_call 12; refine (hS _).mono ?_; rintro e w3 ⟨rfl, k3⟩))
  have z1 : w.heap.size + 3 ≤ w1.heap.size := by simpa using k1.size
  have z3 : w1.heap.size + 4 ≤ w3.heap.size := by simpa using k3.size
  have kA := fun (o1 o2 o3 o4 : Obj) => ((((Keeps.refl (fun _ => False) w1).alloc o1).alloc o2).alloc o3).alloc o4
  have i0 := boxed_keeps bT ((k1.trans (kA _ _ _ _)).trans k3) (fun e => e)
  have i1 := boxed_keeps bP ((k1.trans (kA _ _ _ _)).trans k3) (fun e => e)
  have i2 := boxed_keeps bR ((k1.trans (kA _ _ _ _)).trans k3) (fun e => e)
  have i3 := boxed_keeps (Boxed.new (((w1.alloc (.cells #[.int .i64 0, .int .i64 0, .int .i64 0] 36)).alloc (.cells #[.int .i64 (-1), .int .i64 0, .int .i64 0] 36)).alloc (.cells #[.int .i64 0] 3)) 3 (.int .i64 0)) k3 (fun e => e)
  simp only [World.size_alloc] at i3
  have bl : Below w.heap.size w w3 := (((K0 _ _ _).trans (k1.trans (kA _ _ _ _))).trans k3).below (Nat.le_refl _) (fun _ _ e => e)
  clear hS c0 c1 d0 d1 bT bP bR K0 kA
  refine wpIn_rangeFunc_ownH (α := Fin 0) rfl (by omega) (gf := 19) (lb := #[]) rfl trivial (enters_of Try.func19 (by kernel_rfl) rfl)
    (none_stops 4 (fun _ _ => True) w3 (fun ys => ys = []) (fun _ => False) rfl 0 (fun x => x.elim0)) (fun _ _ => trivial) (fun _ _ _ _ _ _ _ _ => trivial) (Below.refl _ _) (fun x => x.elim0)
    (fun _ W => Boxed W w.heap.size 3 (.int .i64 n) ∧ Boxed W (w.heap.size + 1) 25 (.slice a m cap) ∧ Boxed W (w.heap.size + 1 + 1) 4 (.bool false) ∧ Boxed W (w1.heap.size + 1 + 1 + 1) 3 (.int .i64 0) ∧ Below w.heap.size w W ∧ w3.heap.size ≤ W.heap.size)
    (fun _ _ _ => False)
    (fun pre A B row hs hg hr => ⟨boxed_kept hs.1 hg (fun r e => (hr r e).2), boxed_kept hs.2.1 hg (fun r e => (hr r e).2), boxed_kept hs.2.2.1 hg (fun r e => (hr r e).2), boxed_kept hs.2.2.2.1 hg (fun r e => (hr r e).2), hs.2.2.2.2.1.grown hg (by have := hs.2.2.2.2.2; omega) (fun k e => by have := (hr k e).1; omega), Nat.le_trans hs.2.2.2.2.2 hg.size⟩)
    (fun _ _ _ _ _ hs _ _ => hs)
    ⟨i0, i1, i2, i3, bl, Nat.le_refl _⟩
    (fun x _ _ => x.elim0)
    (fun x => x.elim0) ?assign ?body ?done ?stop
  case assign => exact fun _ _ x => x.elim0
  case body => exact fun _ _ x => x.elim0
  case done =>
    rintro D ys W hD rfl ⟨h0, h1, h2, h3, hB0, hsz⟩ hK
    have x0 := h0.cell
    have x1 := h1.cell
    have x2 := h2.cell
    have z2 := h2.frozen
    have x3 := h3.cell
    gi_wp2_with ((refine ⟨trivial, ?_⟩; gi_at_call 10; refine (htk _).mono ?_; rintro e w9 ⟨rfl, hw9⟩; have hw9 := hw9.symm; subst hw9))
    have b6 := h2.set (.bool true)
    have hB := hB0.setCell (p := ⟨w.heap.size + 1 + 1, 0, none⟩) (by show w.heap.size ≤ w.heap.size + 1 + 1; omega) (.bool true)
    have hK' := (KeepsOthers.setCell W ⟨w.heap.size + 1 + 1, 0, none⟩ (.bool true)).same D _ hK rfl
    refine ⟨by simp, .inl ⟨_, _, rfl, run_takeDeferred hK', ?_⟩⟩
    have k1 := cell_kept b6.cell (grownBy_putObj' _ D (.deferred none)) (fun r e => by cases e; exact ⟨_, hK', rfl⟩)
    have b9 := hB.trans (belowK_b (w := w) (Nat.le_refl _) _ D _ (.deferred none) (by omega) hK' rfl rfl)
    refine ⟨.bool true, ?_, rfl, b9.os, b9.tape, b9.output, b9.size, fun k hk _ => b9.block k hk⟩
    simp [results, Try.f7, go_sem, k1]
  case stop => exact fun D cd pre W _ _ hf => hf.elim

theorem schedWhole_walk {w : World} (n : Int) (_ : I64 n) {a : Option Addr} {m : Nat} {z : Nat → Int} (h : NL w a m z) (_ : ∀ i, i < m → I64 (z i)) (_ : m ≤ 9223372036854775807) (cap : Nat) :
    Calls Try.prog 7 #[.int .i64 n, .slice a m cap] w fun e w' => e = .returned (.bool true) ∧ Below w.heap.size w w' := by
  by_cases hz : rfz n m = 0
  · have := rfz_zero hz
    obtain ⟨nt, rfl⟩ : ∃ nt : Nat, n = (nt : Int) := ⟨n.toNat, by omega⟩
    refine (callsIn_wide.1 (whole_in (cap := cap) h (nt := nt) (by omega) (by omega))).mono ?_
    rintro e w' ⟨rfl, k⟩
    exact ⟨rfl, k.below (Nat.le_refl _) (fun _ _ e => e)⟩
  · refine (callsIn_wide.1 (whole_no w n a m cap hz)).mono ?_
    rintro e w' ⟨rfl, k⟩
    exact ⟨rfl, k.below (Nat.le_refl _) (fun _ _ e => e)⟩
end Go.Proofs.Ytgfjhogogajbjaa
