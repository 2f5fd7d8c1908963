import Derived.Test.YtgfjhogogajbjaaSchWin
import Derived.Test.YtgfjhogogajbjaaSchTail
namespace Go.Proofs.Ytgfjhogogajbjaa
open Go.RowKit Go.Shelf
attribute [local go_sem] Oper.semAt_some

theorem boxed_keeps {S : Nat → Prop} {A B : World} {b t : Nat} {v : Value} (h : Boxed A b t v) (k : Keeps S A B) (hb : ¬ S b) : Boxed B b t v := (k.block b h.lt hb).trans h

/-- What stands while SchedWhole's range goes on. -/
structure WI (w : World) (H nt : Nat) (sl : Value) (tl : Cu) (W : World) (lst : Cu) (at_ n_ : Nat) : Prop where
  bt : Boxed W w.heap.size 3 (.int .i64 (nt : Int))
  bp : Boxed W (w.heap.size + 1) 25 sl
  br : Boxed W (w.heap.size + 1 + 1) 4 (.bool false)
  ct : CA W H tl
  cl : CA W (H + 1) lst
  ba : Boxed W (H + 1 + 1) 3 (.int .i64 (at_ : Int))
  bn : Boxed W (H + 1 + 1 + 1) 3 (.int .i64 (n_ : Int))
  below : Below w.heap.size w W
  size : H + 4 ≤ W.heap.size
section
variable {w : World} {H nt : Nat} {sl : Value} {tl : Cu} {A B : World} {lst : Cu} {at_ n_ : Nat}
theorem WI.kept {row : Option Nat} (h : WI w H nt sl tl A lst at_ n_) (hw : w.heap.size ≤ H) (hg : A.grownBy B row) (hr : ∀ r, row = some r → H ≤ r ∧ ∃ o : Obj, A.heap[r]? = some o ∧ o.isCells = false) : WI w H nt sl tl B lst at_ n_ :=
  have hr' : ∀ r, row = some r → ∃ o : Obj, A.heap[r]? = some o ∧ o.isCells = false := fun r e => (hr r e).2
  ⟨boxed_kept h.bt hg hr', boxed_kept h.bp hg hr', boxed_kept h.br hg hr', h.ct.kept hg hr', h.cl.kept hg hr', boxed_kept h.ba hg hr', boxed_kept h.bn hg hr', h.below.grown hg (by have := h.size; omega) (fun k e => by have := (hr k e).1; omega), Nat.le_trans h.size hg.size⟩
theorem WI.new (h : WI w H nt sl tl A lst at_ n_) (hw : w.heap.size ≤ H) (k : Keeps (fun _ => False) A B) : WI w H nt sl tl B lst at_ n_ :=
  h.kept hw (row := none) ⟨k.os, k.tape, k.output, k.size, fun i hi _ => k.block i hi (fun e => e)⟩ (fun _ e => by cases e)
/-- One stretch further. -/
def wnext (A : World) (H : Nat) (c : Cu) (at' n' : Nat) : World := (put3 (A.setCell ⟨H + 1 + 1, 0, none⟩ (.int .i64 (at' : Int))) (H + 1) c).setCell ⟨H + 1 + 1 + 1, 0, none⟩ (.int .i64 (n' : Int))
theorem WI.next (h : WI w H nt sl tl A lst at_ n_) (hw : w.heap.size + 3 ≤ H) (c : Cu) (at' n' : Nat) : WI w H nt sl tl (wnext A H c at' n') c at' n' := by
  have k1 : Keeps (fun k => k = H + 1 + 1) A (A.setCell ⟨H + 1 + 1, 0, none⟩ (.int .i64 (at' : Int))) := (Keeps.refl (fun k => k = H + 1 + 1) A).setCell (p := ⟨H + 1 + 1, 0, none⟩) (fun _ => rfl) _
  have k2 := put3_keeps (A.setCell ⟨H + 1 + 1, 0, none⟩ (.int .i64 (at' : Int))) (H + 1) c
  have k3 : Keeps (fun k => k = H + 1 + 1 + 1) (put3 (A.setCell ⟨H + 1 + 1, 0, none⟩ (.int .i64 (at' : Int))) (H + 1) c) (wnext A H c at' n') := (Keeps.refl (fun k => k = H + 1 + 1 + 1) _).setCell (p := ⟨H + 1 + 1 + 1, 0, none⟩) (fun _ => rfl) _
  have kk : Keeps (fun k => k = H + 1 ∨ k = H + 1 + 1 ∨ k = H + 1 + 1 + 1) A (wnext A H c at' n') := ((k1.mono (fun _ _ e => .inr (.inl e))).trans (k2.mono (fun _ _ e => .inl e))).trans (k3.mono (fun _ _ e => .inr (.inr e)))
  exact ⟨boxed_keeps h.bt kk (by omega), boxed_keeps h.bp kk (by omega), boxed_keeps h.br kk (by omega), h.ct.keeps kk (by omega), ((h.cl.keeps k1 (by omega)).put c).keeps k3 (by omega), boxed_keeps (boxed_keeps (h.ba.set _) k2 (by omega)) k3 (by omega), (boxed_keeps (boxed_keeps h.bn k1 (by omega)) k2 (by omega)).set _,
    ⟨kk.os.trans h.below.os, kk.tape.trans h.below.tape, kk.output.trans h.below.output, Nat.le_trans h.below.size kk.size, fun k hk => (kk.block k (Nat.lt_of_lt_of_le hk h.below.size) (by omega)).trans (h.below.block k hk)⟩, Nat.le_trans h.size kk.size⟩
theorem wnext_keeps (A : World) (H : Nat) (c : Cu) (at' n' : Nat) : Keeps (fun k => k = H + 1 ∨ k = H + 1 + 1 ∨ k = H + 1 + 1 + 1) A (wnext A H c at' n') :=
  (((Keeps.refl (fun k => k = H + 1 ∨ k = H + 1 + 1 ∨ k = H + 1 + 1 + 1) A).setCell (p := ⟨H + 1 + 1, 0, none⟩) (fun _ => .inr (.inl rfl)) _).trans ((put3_keeps _ (H + 1) c).mono (fun _ _ e => .inl e))).setCell (p := ⟨H + 1 + 1 + 1, 0, none⟩) (fun _ => .inr (.inr rfl)) _
theorem wnext_others (A : World) (H : Nat) (c : Cu) (at' n' : Nat) : KeepsOthers A (wnext A H c at' n') := ((KeepsOthers.setCell _ _ _).trans (put3_others _ _ _)).trans (KeepsOthers.setCell _ _ _)
end
theorem pos_inj {f : Nat → Int} {m M : Nat} (hM : Many f m M) {i j : Nat} (hi : i < M) (hj : j < M) (e : pos f m i = pos f m j) : i = j := by
  rcases Nat.lt_trichotomy i j with h | h | h
  · have h1 := pos_lt (hM.2.2 i hi)
    have h2 := pos_mono (f := f) (m := m) (k := i + 1) (j := j) (by omega)
    omega
  · exact h
  · have h1 := pos_lt (hM.2.2 j hj)
    have h2 := pos_mono (f := f) (m := m) (k := j + 1) (j := i) (by omega)
    omega

theorem lc_idx {f : Nat → Int} {m M k : Nat} (h0 : 0 < k) (h : k ≤ M) : lc f m (idx M k) = cut f m (k - 1) := by
  obtain ⟨j, rfl⟩ : ∃ j, k = j + 1 := ⟨k - 1, by omega⟩
  rw [idx_succ (by omega), lc_snoc]
  simp

set_option maxRecDepth 100000 in
set_option maxHeartbeats 6400000 in
theorem whole_in {w : World} {a : Option Addr} {m cap nt : Nat} {z : Nat → Int} (h : NL w a m z) (hn : 1 ≤ nt ∧ nt ≤ 6) (hm : m ≤ 4096) :
    CallsIn Fence.wide 5 Try.prog 7 #[.int .i64 (nt : Int), .slice a m cap] w fun e w' => e = .returned (.bool true) ∧ Keeps (fun _ => False) w w' := by
  obtain ⟨M, hM⟩ := many (nmf nt z) m
  have hnil : ∀ (fn : Fn) (first cap : Array Value) (W : World), (binOp .eql 33 (.func fn first cap) Value.nilFunc).run Try.prog W = .ok (.bool false) W := fun fn first cap W => rfl
  have K0 : ∀ o o' o'', Keeps (fun _ => False) w (((w.alloc o).alloc o').alloc o'') := fun o o' o'' => (((Keeps.refl _ w).alloc o).alloc o').alloc o''
  have hT := fun o o' o'' => callsIn_wide (n := 4).2 (tail_any (h.new (K0 o o' o'')) cap hn hm hM)
  have hS := fun (W : World) (k : Keeps (fun _ => False) w W) => callsIn_wide (n := 4).2 (stretches_any (cap := cap) (h.new k) hn hm)
  obtain ⟨tl, htl⟩ : ∃ tl, Hid (tl = lc (nmf nt z) m (idx M M)) := ⟨_, rfl⟩
  rw [← htl.out] at hT
  have bT := ((Boxed.new w 3 (.int .i64 (nt : Int))).alloc (.cells #[.slice a m cap] 25)).alloc (.cells #[.bool false] 4)
  have bP := (Boxed.new (w.alloc (.cells #[.int .i64 (nt : Int)] 3)) 25 (.slice a m cap)).alloc (.cells #[.bool false] 4)
  have bR := Boxed.new ((w.alloc (.cells #[.int .i64 (nt : Int)] 3)).alloc (.cells #[.slice a m cap] 25)) 4 (.bool false)
  simp only [World.size_alloc] at bP bR
  refine callsIn_of_wp_marks Try.func7 rfl trivial ?_
  simp only [Try.ntmps7, List.size_toArray, List.length_cons, List.length_nil, Nat.reduceAdd, Nat.reduceSub, Array.replicate_succ, Array.replicate_zero, List.push_toArray, List.append_toArray, List.nil_append, List.cons_append]
  gi_wp2_with (first | (refine ⟨trivial, ?_⟩; gi_at_call 13; refine (hT _ _ _).mono ?_; clear hT; rintro e w1 ⟨rfl, k1⟩; have c0 := k1.cell bT.cell (fun e => e); have c1 := k1.cell bP.cell (fun e => e); have d0 : ∀ o1 o2 o3 o4, ((((w1.alloc o1).alloc o2).alloc o3).alloc o4).cell? ⟨w.heap.size, 0, none⟩ = some (.int .i64 (nt : Int)) := (fun o1 o2 o3 o4 => (((((Keeps.refl (fun _ => False) w1).alloc o1).alloc o2).alloc o3).alloc o4).cell c0 (fun e => e)); have d1 : ∀ o1 o2 o3 o4, ((((w1.alloc o1).alloc o2).alloc o3).alloc o4).cell? ⟨w.heap.size + 1, 0, none⟩ = some (.slice a m cap) := (fun o1 o2 o3 o4 => (((((Keeps.refl (fun _ => False) w1).alloc o1).alloc o2).alloc o3).alloc o4).cell c1 (fun e => e)); have kk : ∀ o1 o2 o3 o4, Keeps (fun _ => False) w ((((w1.alloc o1).alloc o2).alloc o3).alloc o4) := (fun o1 o2 o3 o4 => (K0 _ _ _).trans (k1.trans (((((Keeps.refl (fun _ => False) w1).alloc o1).alloc o2).alloc o3).alloc o4)))) | (refine ⟨trivial, ?_⟩; gi_at_call 12; refine (hS _ (kk _ _ _ _)).mono ?_; rintro e w3 ⟨B1, B2, a', cap', rfl, hq⟩))
  have z1 : w.heap.size + 3 ≤ w1.heap.size := by simpa using k1.size
  have z3 : w1.heap.size + 4 ≤ w3.heap.size := by simpa using hq.keeps.size
  have q1 : w1.heap.size + 4 ≤ B1 := by simpa using hq.n1
  have q2 : w1.heap.size + 4 ≤ B2 := by simpa using hq.n2
  have hnl := h
  have I0 : WI w w1.heap.size nt (.slice a m cap) tl w3 ⟨-1, 0, 0⟩ 0 0 := {
    bt := boxed_keeps bT (k1.trans (((((Keeps.refl (fun _ => False) w1).alloc _).alloc _).alloc _).alloc _ |>.trans hq.keeps)) (fun e => e)
    bp := boxed_keeps bP (k1.trans (((((Keeps.refl (fun _ => False) w1).alloc _).alloc _).alloc _).alloc _ |>.trans hq.keeps)) (fun e => e)
    br := boxed_keeps bR (k1.trans (((((Keeps.refl (fun _ => False) w1).alloc _).alloc _).alloc _).alloc _ |>.trans hq.keeps)) (fun e => e)
    ct := CA.keeps (S := fun _ => False) (A := w1.alloc (.cells #[.int .i64 tl.th, .int .i64 (tl.fr : Int), .int .i64 (tl.len : Int)] 36)) ⟨by simp, by simp, by simp, by simp, by simp, by simp⟩ ((((Keeps.refl (fun _ => False) _).alloc _).alloc _).alloc _ |>.trans hq.keeps) (fun e => e)
    cl := by
      have := CA.keeps (S := fun _ => False) (b := (w1.alloc (.cells #[.int .i64 tl.th, .int .i64 (tl.fr : Int), .int .i64 (tl.len : Int)] 36)).heap.size) (c := ⟨-1, 0, 0⟩) (A := (w1.alloc (.cells #[.int .i64 tl.th, .int .i64 (tl.fr : Int), .int .i64 (tl.len : Int)] 36)).alloc (.cells #[.int .i64 (-1), .int .i64 0, .int .i64 0] 36)) ⟨by simp, by simp, by simp, by simp, by simp, by simp⟩ (((Keeps.refl (fun _ => False) _).alloc _).alloc _ |>.trans hq.keeps) (fun e => e)
      rwa [World.size_alloc] at this
    ba := by
      have := boxed_keeps ((Boxed.new ((w1.alloc (.cells #[.int .i64 tl.th, .int .i64 (tl.fr : Int), .int .i64 (tl.len : Int)] 36)).alloc (.cells #[.int .i64 (-1), .int .i64 0, .int .i64 0] 36)) 3 (.int .i64 0)).alloc (.cells #[.int .i64 0] 3)) hq.keeps (fun e => e)
      rwa [World.size_alloc, World.size_alloc] at this
    bn := by
      have := boxed_keeps (Boxed.new (((w1.alloc (.cells #[.int .i64 tl.th, .int .i64 (tl.fr : Int), .int .i64 (tl.len : Int)] 36)).alloc (.cells #[.int .i64 (-1), .int .i64 0, .int .i64 0] 36)).alloc (.cells #[.int .i64 0] 3)) 3 (.int .i64 0)) hq.keeps (fun e => e)
      rwa [World.size_alloc, World.size_alloc, World.size_alloc] at this
    below := ((kk _ _ _ _).trans hq.keeps).below (Nat.le_refl _) (fun _ _ e => e)
    size := z3 }
  have hsv := hq.sv (T := fun k => k = w.heap.size + 1 + 1 ∨ k = w1.heap.size + 1 ∨ k = w1.heap.size + 1 + 1 ∨ k = w1.heap.size + 1 + 1 + 1) (fun k e => by rcases e with rfl | rfl | rfl | rfl <;> simp <;> omega)
  clear hS c0 c1 d0 d1 kk bT bP bR K0
  refine wpIn_rangeFunc_ownH (α := Fin M) rfl (by omega) (gf := 21) (lb := #[.pointer (some ⟨B1, 0, none⟩), .pointer (some ⟨B2, 0, none⟩)]) rfl trivial (enters_of Try.func21 (by kernel_rfl) rfl)
    (cut_stops 4 (by omega) hq hm hM (Keeps (fun k => (k = w.heap.size + 1 + 1 ∨ k = w1.heap.size + 1 ∨ k = w1.heap.size + 1 + 1 ∨ k = w1.heap.size + 1 + 1 + 1) ∨ w3.heap.size ≤ k)) hsv) keepsK_t keepsK_b (Below.refl _ _) (fun _ => rfl)
    (fun pre W => pre = idx M pre.length ∧ WI w w1.heap.size nt (.slice a m cap) tl W (lc (nmf nt z) m pre) (pos (nmf nt z) m pre.length) pre.length ∧ w3.heap.size ≤ W.heap.size)
    (fun cd pre _ => cd = .ret ∧ ∃ (p : List (Fin M)) (x : Fin M), pre = p ++ [x] ∧ p = idx M p.length ∧ (x : Nat) ≠ p.length)
    (fun pre A B row hs hg hr => ⟨hs.1, hs.2.1.kept (by omega) hg (fun r e => ⟨by have := (hr r e).1; omega, (hr r e).2⟩), Nat.le_trans hs.2.2 hg.size⟩)
    (fun cd pre A B row hs hg hr => hs)
    ⟨rfl, I0, Nat.le_refl _⟩
    (fun x av W => ∃ Bx c, c = cut (nmf nt z) m x ∧ w1.heap.size + 1 + 1 + 1 < Bx ∧ CA W Bx c ∧ av = { tmps := #[.int .i64 (nt : Int), .slice a m cap, .pointer (some ⟨w.heap.size, 0, none⟩), .pointer (some ⟨w.heap.size + 1, 0, none⟩), .pointer (some ⟨w.heap.size + 1 + 1, 0, none⟩), .pointer (some ⟨w1.heap.size, 0, none⟩), .int .i64 0, .pointer (some ⟨w1.heap.size + 1, 0, none⟩), .pointer (some ⟨w1.heap.size + 1 + 1, 0, none⟩), .pointer (some ⟨w1.heap.size + 1 + 1 + 1, 0, none⟩), .func (.func 21) #[] #[.pointer (some ⟨B1, 0, none⟩), .pointer (some ⟨B2, 0, none⟩)], .pointer (some ⟨Bx, 0, none⟩), undef, .tuple #[.agg #[.int .i64 tl.th, .int .i64 (tl.fr : Int), .int .i64 (tl.len : Int)], .int .i64 0], .int .i64 (nt : Int), .slice a m cap, .tuple #[.agg #[.int .i64 tl.th, .int .i64 (tl.fr : Int), .int .i64 (tl.len : Int)], .int .i64 0], .agg #[.int .i64 tl.th, .int .i64 (tl.fr : Int), .int .i64 (tl.len : Int)], .int .i64 0, .agg #[.int .i64 (-1), .int .i64 0, .int .i64 0], .int .i64 (nt : Int), .slice a m cap, .func (.func 21) #[] #[.pointer (some ⟨B1, 0, none⟩), .pointer (some ⟨B2, 0, none⟩)], .func (.func 21) #[] #[.pointer (some ⟨B1, 0, none⟩), .pointer (some ⟨B2, 0, none⟩)], .bool false, .func (.func 21) #[] #[.pointer (some ⟨B1, 0, none⟩), .pointer (some ⟨B2, 0, none⟩)], .agg #[.int .i64 c.th, .int .i64 (c.fr : Int), .int .i64 (c.len : Int)], undef, undef, undef, undef, undef, undef, undef, undef, undef, undef, undef, undef, undef, undef, undef, undef, undef, undef, undef, undef, undef, undef, undef, undef, undef, undef, undef, undef, undef, undef, undef, undef, undef, undef, undef, undef, undef, undef, undef, undef, undef, undef, undef, undef, undef, undef, undef, undef, undef, undef, undef, undef, undef, undef, undef, undef, undef, undef, undef, undef, undef, undef, undef, undef, undef, undef, undef, undef, undef, undef, undef, undef, undef, undef, undef, undef, undef, undef, undef, undef, undef, undef, undef, undef, undef, undef, undef, undef, undef, undef, undef], defers := [] })
    (fun x av _ W W' row hs hg hr => by
      obtain ⟨Bx, c, hc, h0, h1, e⟩ := hs
      exact ⟨Bx, c, hc, h0, h1.kept hg (fun r e => (hr r e).2), e⟩) ?assign ?body ?done ?stop
  case assign =>
    rintro l pre x W K ⟨hp, hI, hsz⟩ hK
    have HP := (show Hid _ from hp)
    clear hp
    obtain ⟨c, hc⟩ : ∃ c, Hid (c = cut (nmf nt z) m x) := ⟨_, rfl⟩
    rw [← hc.out]
    simp only [encu]
    gi_wp2
    exact hK _ _ ((KeepsOthers.alloc _ _).from _) ((Keeps.refl _ W).alloc _) ⟨HP.out, hI.new (by omega) ((Keeps.refl _ W).alloc _), Nat.le_trans hsz (by simp)⟩ ⟨W.heap.size, c, hc.out, by omega, ⟨by simp, by simp, by simp, by simp, by simp, by simp⟩, rfl⟩
  case body =>
    rintro l pre x av W hl _ ⟨hp, hI, hsz⟩ ⟨Bx, c, hc, hBx, hC, rfl⟩ hlt
    have HP := (show Hid _ from hp)
    clear hp
    have hpl : pre.length ≤ 4096 := by have := hM.1; omega
    have HC := (show Hid _ from hc)
    have hok := cut_ok hM x
    rw [← hc] at hok
    have hsame : ∀ j, c.fr ≤ j → j < c.fr + c.len → nmf nt z j = c.th := fun j j1 j2 => by
      rw [hok.2.1] at j2
      rw [hc] at j1 ⊢
      exact pos_same (hM.2.2 x x.2) j j1 j2
    have HSAME := (show Hid _ from hsame)
    have hfx : c.fr = pos (nmf nt z) m x := by rw [hc]; rfl
    have htx : c.th = nmf nt z (pos (nmf nt z) m x) := by rw [hc]; rfl
    have HNL := (show Hid _ from hnl)
    have hln := lnamed_any
    clear hc hsame
    obtain ⟨th, fr, ln⟩ := c
    simp only at hok hfx htx HSAME
    have hok1 := hok.1
    have hok2 := hok.2.2
    have r6 := hI.br.cell
    have rz6 := hI.br.frozen
    have nn := hI.bn.cell
    have c0 := hC.c0
    have c1 := hC.c1
    have c2 := hC.c2
    have l0 := hI.cl.c0
    have a8 := hI.ba.cell
    have p3 := hI.bp.cell
    simp only at c0 c1 c2
    by_cases hx : (x : Nat) = pre.length
    · have HX := (show Hid _ from hx)
      have HPOS : Hid (fr + ln = pos (nmf nt z) m (pre.length + 1)) := by rw [← hx]; exact hok.2.1
      rw [hx] at hfx htx
      rw [← hfx] at a8 hI
      have W1' : IntKind.i64.wrap ((m : Int) - (fr : Int)) = (m : Int) - (fr : Int) := by rw [IntKind.wrap_i64]; omega
      have L1 : decide ((ln : Int) < 1) = false := decide_eq_false (by omega)
      have L2 : decide ((m : Int) - (fr : Int) < (ln : Int)) = false := decide_eq_false (by omega)
      have hdf : 0 < pre.length → th ≠ (lc (nmf nt z) m pre).th := fun h0 => by
        have hp := HP.out
        rw [htx]
        have e : lc (nmf nt z) m pre = cut (nmf nt z) m (pre.length - 1) := by
          have := lc_idx (f := nmf nt z) (m := m) (M := M) (k := pre.length) h0 (Nat.le_of_lt hlt)
          rwa [← hp] at this
        rw [e]
        have h1 := pos_end (hM.2.2 (pre.length - 1) (by omega))
        rw [show pre.length - 1 + 1 = pre.length by omega] at h1
        exact h1.resolve_left (by have := hM.2.2 pre.length hlt; omega)
      clear hok hfx htx hx
      generalize lc (nmf nt z) m pre = lst at *
      obtain ⟨lt, lf, ll⟩ := lst
      simp only at l0 hdf
      by_cases h0 : 0 < pre.length
      · have hdd := hdf h0
        have D2 : (th == lt) = false := by simpa using hdd
        clear hdf hdd
        have D1 : decide ((0 : Int) < (pre.length : Int)) = true := decide_eq_true (by omega)
        have D1n : decide (0 < pre.length) = true := decide_eq_true h0
        gi_wp2
        gi_loopw [12] (fun i wr => ∃ j : Nat, fr ≤ j ∧ j ≤ fr + ln ∧ i = .int .i64 (j : Int) ∧ Keeps (fun _ => False) W wr) (fun i _ => fr + ln - (intOf i).toNat)
        case atStart => exact ⟨fr, Nat.le_refl _, by omega, rfl, Keeps.refl _ _⟩
        case round =>
          obtain ⟨j, hj1, hj2, rfl, K9⟩ := hrel
          have I9 := hI.new (by omega) K9
          have C9 := hC.keeps K9 (fun e => e)
          have f8 := I9.ba.cell
          have f2 := C9.c2
          by_cases hjl : j < fr + ln
          · have E1 : decide ((j : Int) < (fr : Int) + (ln : Int)) = true := decide_eq_true (by omega)
            have E1n : decide (j < fr + ln) = true := decide_eq_true hjl
            obtain ⟨g, off, rfl, hg, hcz⟩ := HNL.out.resolve_left (by omega)
            have hjm : (j : Int) < (m : Int) := by omega
            have cj := ((I9.below.cell (p := ⟨g, off + j, none⟩) hg).trans (hcz j (by omega)))
            have hth := HSAME.out j hj1 hjl
            have hNE : Nonempty (KS wr) := ⟨⟨wr, Keeps.refl _ wr⟩⟩
            have X0 := ks_cell I9.bt.cell
            have X1 := ks_cell I9.bp.cell
            have X2 := ks_cell cj
            have X3 := ks_cell C9.c0
            have hb : (nmz nt (z j) != th) = false := by rw [show nmz nt (z j) = th from hth]; simp
            clear hth hcz
            gi_wp2
            refine wpIn_region_ks (by kernel_rfl) (by kernel_rfl) (by kernel_rfl) ?_
            repeat (go_big_quiet_step ((go_at_call 14; refine (hln _ _ _).mono ?_; rintro e w2 ⟨rfl, rfl⟩; exact ⟨rfl, ⟨_, KS.property _⟩, rfl⟩)))
            refine wpQuiet_nil ?_
            rintro _ ⟨u, rfl⟩
            have KU := u.property
            clear X0 X1 X2 X3 hNE
            generalize u.val = W6 at KU ⊢
            (try simp only [Exit.then])
            gi_wp2
            go_roundw
            case rel => exact ⟨j + 1, by omega, by omega, by go_num, K9.trans KU⟩
            case measure => simp [intOf]; omega
          · have E1 : decide ((j : Int) < (fr : Int) + (ln : Int)) = false := decide_eq_false (by omega)
            have E1n : decide (j < fr + ln) = false := decide_eq_false hjl
            have hko : KeepsOthers W wr := ⟨K9.size, fun k o h _ => (K9.block k (Array.getElem?_eq_some_iff.1 h).1 (fun e => e)).trans h⟩
            have t0 := I9.cl.c0
            have t1 := I9.cl.c1
            have t2 := I9.cl.c2
            have tz0 := I9.cl.z0
            have tz1 := I9.cl.z1
            have tz2 := I9.cl.z2
            have az := I9.ba.frozen
            have nc := I9.bn.cell
            have nz := I9.bn.frozen
            have f0 := C9.c0
            have f1 := C9.c1
            have e1 : (fr : Int) + (ln : Int) = ((fr + ln : Nat) : Int) := by omega
            have e2 : (pre.length : Int) + 1 = ((pre.length + 1 : Nat) : Int) := by omega
            have kS1 : Keeps (fun k => k = w1.heap.size + 1 + 1) wr (wr.setCell ⟨w1.heap.size + 1 + 1, 0, none⟩ (.int .i64 ((fr : Int) + (ln : Int)))) := (Keeps.refl (fun k => k = w1.heap.size + 1 + 1) wr).setCell (p := ⟨w1.heap.size + 1 + 1, 0, none⟩) (fun _ => rfl) _
            have g0 := kS1.cell f0 (by show ¬ Bx = _; omega)
            have g1 := kS1.cell f1 (by show ¬ Bx = _; omega)
            have g2 := kS1.cell f2 (by show ¬ Bx = _; omega)
            have CL1 := I9.cl.keeps kS1 (by omega)
            have s0 := CL1.c0
            have s1 := CL1.c1
            have s2 := CL1.c2
            have sz0 := CL1.z0
            have sz1 := CL1.z1
            have sz2 := CL1.z2
            have N1 := boxed_keeps (boxed_keeps I9.bn kS1 (by omega)) (put3_keeps _ (w1.heap.size + 1) ⟨th, fr, ln⟩) (by omega)
            have n1 := N1.cell
            have nz1 := N1.frozen
            unfold put3 at n1 nz1
            simp only at n1 nz1
            have WN := I9.next (by omega) ⟨th, fr, ln⟩ (fr + ln) (pre.length + 1)
            have KN := wnext_keeps wr w1.heap.size ⟨th, fr, ln⟩ (fr + ln) (pre.length + 1)
            have ON := wnext_others wr w1.heap.size ⟨th, fr, ln⟩ (fr + ln) (pre.length + 1)
            unfold wnext put3 at WN KN ON
            simp only at WN KN ON
            rw [← e1, ← e2] at WN KN ON
            have HWN := (show Hid _ from WN)
            have HKN : Hid (Keeps _ wr _) := KN
            have HON : Hid (KeepsOthers wr _) := ON
            clear WN KN ON e1 e2 N1 CL1 kS1
            gi_wp2
            have hp1 : (pre ++ [x]).length = pre.length + 1 := by simp
            refine ⟨(hko.trans HON.out).from _, (K9.mono (fun _ _ e => e.elim)).trans (HKN.out.mono (fun _ _ e => .inl (.inr e))), ?_, ?_, Nat.le_trans hsz (Nat.le_trans K9.size HKN.out.size)⟩
            · have ex : x = ⟨pre.length, hlt⟩ := Fin.ext HX.out
              rw [hp1, idx_succ hlt, ← ex]
              exact congrArg (· ++ [x]) HP.out
            · rw [hp1, lc_snoc, ← HC.out, ← HPOS.out]
              exact HWN.out
      · clear hdf
        have D1 : decide ((0 : Int) < (pre.length : Int)) = false := decide_eq_false (by omega)
        have D1n : decide (0 < pre.length) = false := decide_eq_false h0
        gi_wp2
        gi_loopw [12] (fun i wr => ∃ j : Nat, fr ≤ j ∧ j ≤ fr + ln ∧ i = .int .i64 (j : Int) ∧ Keeps (fun _ => False) W wr) (fun i _ => fr + ln - (intOf i).toNat)
        case atStart => exact ⟨fr, Nat.le_refl _, by omega, rfl, Keeps.refl _ _⟩
        case round =>
          obtain ⟨j, hj1, hj2, rfl, K9⟩ := hrel
          have I9 := hI.new (by omega) K9
          have C9 := hC.keeps K9 (fun e => e)
          have f8 := I9.ba.cell
          have f2 := C9.c2
          by_cases hjl : j < fr + ln
          · have E1 : decide ((j : Int) < (fr : Int) + (ln : Int)) = true := decide_eq_true (by omega)
            have E1n : decide (j < fr + ln) = true := decide_eq_true hjl
            obtain ⟨g, off, rfl, hg, hcz⟩ := HNL.out.resolve_left (by omega)
            have hjm : (j : Int) < (m : Int) := by omega
            have cj := ((I9.below.cell (p := ⟨g, off + j, none⟩) hg).trans (hcz j (by omega)))
            have hth := HSAME.out j hj1 hjl
            have hNE : Nonempty (KS wr) := ⟨⟨wr, Keeps.refl _ wr⟩⟩
            have X0 := ks_cell I9.bt.cell
            have X1 := ks_cell I9.bp.cell
            have X2 := ks_cell cj
            have X3 := ks_cell C9.c0
            have hb : (nmz nt (z j) != th) = false := by rw [show nmz nt (z j) = th from hth]; simp
            clear hth hcz
            gi_wp2
            refine wpIn_region_ks (by kernel_rfl) (by kernel_rfl) (by kernel_rfl) ?_
            repeat (go_big_quiet_step ((go_at_call 14; refine (hln _ _ _).mono ?_; rintro e w2 ⟨rfl, rfl⟩; exact ⟨rfl, ⟨_, KS.property _⟩, rfl⟩)))
            refine wpQuiet_nil ?_
            rintro _ ⟨u, rfl⟩
            have KU := u.property
            clear X0 X1 X2 X3 hNE
            generalize u.val = W6 at KU ⊢
            (try simp only [Exit.then])
            gi_wp2
            go_roundw
            case rel => exact ⟨j + 1, by omega, by omega, by go_num, K9.trans KU⟩
            case measure => simp [intOf]; omega
          · have E1 : decide ((j : Int) < (fr : Int) + (ln : Int)) = false := decide_eq_false (by omega)
            have E1n : decide (j < fr + ln) = false := decide_eq_false hjl
            have hko : KeepsOthers W wr := ⟨K9.size, fun k o h _ => (K9.block k (Array.getElem?_eq_some_iff.1 h).1 (fun e => e)).trans h⟩
            have t0 := I9.cl.c0
            have t1 := I9.cl.c1
            have t2 := I9.cl.c2
            have tz0 := I9.cl.z0
            have tz1 := I9.cl.z1
            have tz2 := I9.cl.z2
            have az := I9.ba.frozen
            have nc := I9.bn.cell
            have nz := I9.bn.frozen
            have f0 := C9.c0
            have f1 := C9.c1
            have e1 : (fr : Int) + (ln : Int) = ((fr + ln : Nat) : Int) := by omega
            have e2 : (pre.length : Int) + 1 = ((pre.length + 1 : Nat) : Int) := by omega
            have kS1 : Keeps (fun k => k = w1.heap.size + 1 + 1) wr (wr.setCell ⟨w1.heap.size + 1 + 1, 0, none⟩ (.int .i64 ((fr : Int) + (ln : Int)))) := (Keeps.refl (fun k => k = w1.heap.size + 1 + 1) wr).setCell (p := ⟨w1.heap.size + 1 + 1, 0, none⟩) (fun _ => rfl) _
            have g0 := kS1.cell f0 (by show ¬ Bx = _; omega)
            have g1 := kS1.cell f1 (by show ¬ Bx = _; omega)
            have g2 := kS1.cell f2 (by show ¬ Bx = _; omega)
            have CL1 := I9.cl.keeps kS1 (by omega)
            have s0 := CL1.c0
            have s1 := CL1.c1
            have s2 := CL1.c2
            have sz0 := CL1.z0
            have sz1 := CL1.z1
            have sz2 := CL1.z2
            have N1 := boxed_keeps (boxed_keeps I9.bn kS1 (by omega)) (put3_keeps _ (w1.heap.size + 1) ⟨th, fr, ln⟩) (by omega)
            have n1 := N1.cell
            have nz1 := N1.frozen
            unfold put3 at n1 nz1
            simp only at n1 nz1
            have WN := I9.next (by omega) ⟨th, fr, ln⟩ (fr + ln) (pre.length + 1)
            have KN := wnext_keeps wr w1.heap.size ⟨th, fr, ln⟩ (fr + ln) (pre.length + 1)
            have ON := wnext_others wr w1.heap.size ⟨th, fr, ln⟩ (fr + ln) (pre.length + 1)
            unfold wnext put3 at WN KN ON
            simp only at WN KN ON
            rw [← e1, ← e2] at WN KN ON
            have HWN := (show Hid _ from WN)
            have HKN : Hid (Keeps _ wr _) := KN
            have HON : Hid (KeepsOthers wr _) := ON
            clear WN KN ON e1 e2 N1 CL1 kS1
            gi_wp2
            have hp1 : (pre ++ [x]).length = pre.length + 1 := by simp
            refine ⟨(hko.trans HON.out).from _, (K9.mono (fun _ _ e => e.elim)).trans (HKN.out.mono (fun _ _ e => .inl (.inr e))), ?_, ?_, Nat.le_trans hsz (Nat.le_trans K9.size HKN.out.size)⟩
            · have ex : x = ⟨pre.length, hlt⟩ := Fin.ext HX.out
              rw [hp1, idx_succ hlt, ← ex]
              exact congrArg (· ++ [x]) HP.out
            · rw [hp1, lc_snoc, ← HC.out, ← HPOS.out]
              exact HWN.out
    · have HX := (show Hid _ from hx)
      have hne : fr ≠ pos (nmf nt z) m pre.length := fun e => hx (pos_inj hM x.2 hlt (hfx.symm.trans e))
      have hnb : ((fr : Int) != ((pos (nmf nt z) m pre.length : Nat) : Int)) = true := by simp; omega
      clear hfx htx hx hne hok
      generalize pos (nmf nt z) m pre.length = at_ at *
      generalize lc (nmf nt z) m pre = lst at *
      obtain ⟨lt, lf, ll⟩ := lst
      simp only at l0
      by_cases h0 : 0 < pre.length
      · have D1 : decide ((0 : Int) < (pre.length : Int)) = true := decide_eq_true (by omega)
        have D1n : decide (0 < pre.length) = true := decide_eq_true h0
        by_cases he : th = lt
        · have D2 : (th == lt) = true := by simpa using he
          clear he
          gi_wp2
          exact ⟨(KeepsOthers.setCell _ _ _).from _, rfl, pre, x, rfl, HP.out, HX.out⟩
        · have D2 : (th == lt) = false := by simpa using he
          clear he
          gi_wp2
          exact ⟨(KeepsOthers.setCell _ _ _).from _, rfl, pre, x, rfl, HP.out, HX.out⟩
      · have D1 : decide ((0 : Int) < (pre.length : Int)) = false := decide_eq_false (by omega)
        have D1n : decide (0 < pre.length) = false := decide_eq_false h0
        · skip
          gi_wp2
          exact ⟨(KeepsOthers.setCell _ _ _).from _, rfl, pre, x, rfl, HP.out, HX.out⟩
  case done =>
    rintro D ys W hD rfl ⟨hp, hI, hsz⟩ hK
    clear hp
    rw [idx_length (Nat.le_refl _), hM.2.1, ← htl.out] at hI
    have htk := callsIn_wide (n := 4).2 (taken_any W (nt : Int) a m cap)
    rw [decide_eq_true (by unfold rfz; rw [if_neg (by omega), if_neg (by omega)] : rfz (nt : Int) m = 0)] at htk
    have x0 := hI.bt.cell
    have x1 := hI.bp.cell
    have x2 := hI.br.cell
    have z2 := hI.br.frozen
    have x3 := hI.ct.c0
    have x4 := hI.ct.c1
    have x5 := hI.ct.c2
    have x6 := hI.cl.c0
    have x7 := hI.cl.c1
    have x8 := hI.cl.c2
    have x9 := hI.ba.cell
    gi_wp2_with ((refine ⟨trivial, ?_⟩; gi_at_call 10; refine htk.mono ?_; rintro e w9 ⟨rfl, hw9⟩; have hw9 := hw9.symm; subst hw9))
    have b6 := hI.br.set (.bool true)
    have hB := hI.below.setCell (p := ⟨w.heap.size + 1 + 1, 0, none⟩) (by show w.heap.size ≤ w.heap.size + 1 + 1; omega) (.bool true)
    have hK' := (KeepsOthers.setCell W ⟨w.heap.size + 1 + 1, 0, none⟩ (.bool true)).same D _ hK rfl
    refine ⟨by simp, .inl ⟨_, _, rfl, run_takeDeferred hK', ?_⟩⟩
    have k1 := cell_kept b6.cell (grownBy_putObj' _ D (.deferred none)) (fun r e => by cases e; exact ⟨_, hK', rfl⟩)
    have b9 := hB.trans (belowK_b (w := w) (Nat.le_refl _) _ D _ (.deferred none) (by omega) hK' rfl rfl)
    refine ⟨.bool true, ?_, rfl, b9.os, b9.tape, b9.output, b9.size, fun k hk _ => b9.block k hk⟩
    simp [results, Try.f7, go_sem, k1]
  case stop =>
    rintro D cd pre W hD ⟨k, hk0, hk, rfl⟩ ⟨rfl, p, x, e1, e2, e3⟩ hK
    exfalso
    have := idx_succ (N := M) (k := k - 1) (by omega)
    rw [show k - 1 + 1 = k by omega, e1] at this
    obtain ⟨h1, h2⟩ := List.append_inj' this rfl
    simp only [List.cons.injEq, and_true] at h2
    exact e3 (by rw [h2, h1, idx_length (by omega)])
end Go.Proofs.Ytgfjhogogajbjaa
