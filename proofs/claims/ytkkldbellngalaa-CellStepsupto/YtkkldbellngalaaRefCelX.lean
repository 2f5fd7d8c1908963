import Derived.Test.YtkkldbellngalaaRefCelW
import Derived.Test.YtkkldbellngalaaCelTailK
import Derived.Test.YtkkldbellngalaaRoundKs
namespace Go.Proofs.Ytkkldbellngalaa
open Go.RowKit Go.Shelf
attribute [local go_sem] Oper.semAt_some

/-- A block that lies as it lay. -/
theorem block_kept {A B : World} {row : Option Nat} {b : Nat} {cs : Array Value} {t : TypeId} {fr : Nat × Nat} (h : A.heap[b]? = some (.cells cs t fr)) (hg : A.grownBy B row) (hr : ∀ r, row = some r → ∃ o : Obj, A.heap[r]? = some o ∧ o.isCells = false) : B.heap[b]? = some (.cells cs t fr) :=
  (grownBy_keeps_cells hg hr h rfl).trans h
theorem block_alloc {A : World} {b : Nat} {o : Obj} (h : A.heap[b]? = some o) (o' : Obj) : (A.alloc o').heap[b]? = some o := (Below.heap_alloc A o' b (Array.getElem?_eq_some_iff.1 h).1).trans h
theorem block_set {A : World} {b : Nat} {o : Obj} (h : A.heap[b]? = some o) {b' : Nat} (hne : b ≠ b') (v : Value) : (A.setCell ⟨b', 0, none⟩ v).heap[b]? = some o := (Below.heap_setCell A ⟨b', 0, none⟩ v b hne).trans h

theorem owns_base' {w : World} {base : Nat} {e : TypeId} {size : Nat} {v : Value} {n : Nat} {xs : List Value} (h : w.ownsRow base e size v n xs) (k : Nat) (hk : v.ownBlock = some k) : base ≤ k := by
  rcases h.2 with ⟨rfl, _⟩ | ⟨g, cap, cur, rfl, hb, hg, rest⟩
  · cases hk
  · cases hk; exact hb

/-- What stands while told's range goes on. -/
structure TI (w : World) (H : Nat) (q : Oq) (L : List Rw) (a' : Option Addr) (cap' : Nat) (st k : Nat) (W : World) : Prop where
  op : W.heap[w.heap.size]? = some (.cells #[.int .i64 q.kind, .int .i64 q.c, .int .i64 q.n, .int .i64 q.x, .int .i64 q.y, .bool q.other] 38 (0, 0))
  res : Boxed W (w.heap.size + 1) 4 (.bool false)
  want : Boxed W H 47 (.slice a' L.length cap')
  at_ : Boxed W (H + 1) 3 (.int .i64 ((st + k : Nat) : Int))
  n_ : Boxed W (H + 1 + 1) 3 (.int .i64 (k : Int))
  rows : ∀ i, i < L.length → ∃ g, a' = some ⟨g, 0, none⟩ ∧ w.heap.size + 1 < g ∧ g < H ∧ RowAt W g (i * 7) (ra L i)
  below : Below w.heap.size w W
  size : H + 5 ≤ W.heap.size
theorem RowAt.kept {A B : World} {row : Option Nat} {g o : Nat} {r : Rw} (h : RowAt A g o r) (hg : A.grownBy B row) (hr : ∀ r, row = some r → ∃ o : Obj, A.heap[r]? = some o ∧ o.isCells = false) : RowAt B g o r :=
  ⟨cell_kept h.r0 hg hr, cell_kept h.r1 hg hr, cell_kept h.r2 hg hr, cell_kept h.r3 hg hr, cell_kept h.r4 hg hr, cell_kept h.r5 hg hr, cell_kept h.r6 hg hr⟩
theorem RowAt.alloc' {A : World} {g o : Nat} {r : Rw} (h : RowAt A g o r) (ob : Obj) : RowAt (A.alloc ob) g o r := h.kept (World.grownBy_alloc A ob none) (fun _ e => by cases e)
theorem boxed_kept {A B : World} {row : Option Nat} {b t : Nat} {v : Value} (hb : Boxed A b t v) (hg : A.grownBy B row) (hr : ∀ r, row = some r → ∃ o : Obj, A.heap[r]? = some o ∧ o.isCells = false) : Boxed B b t v :=
  hb.kept hg (fun e' => by obtain ⟨o, ho, hc⟩ := hr _ e'.symm; rw [show _ = _ from hb] at ho; cases ho; cases hc)
theorem TI.kept {w : World} {H : Nat} {q : Oq} {L : List Rw} {a' : Option Addr} {cap' st k : Nat} {A B : World} {row : Option Nat} (h : TI w H q L a' cap' st k A) (hw : w.heap.size ≤ H) (hg : A.grownBy B row) (hr : ∀ r, row = some r → H ≤ r ∧ ∃ o : Obj, A.heap[r]? = some o ∧ o.isCells = false) : TI w H q L a' cap' st k B :=
  have hr' : ∀ r, row = some r → ∃ o : Obj, A.heap[r]? = some o ∧ o.isCells = false := fun r e => (hr r e).2
  ⟨block_kept h.op hg hr', boxed_kept h.res hg hr', boxed_kept h.want hg hr', boxed_kept h.at_ hg hr', boxed_kept h.n_ hg hr', fun i hi => by
    obtain ⟨g, e, h1, h2, R⟩ := h.rows i hi
    exact ⟨g, e, h1, h2, R.kept hg hr'⟩, h.below.grown hg (by have := h.size; omega) (fun k e => by have := (hr k e).1; omega), Nat.le_trans h.size hg.size⟩
theorem TI.alloc {w : World} {H : Nat} {q : Oq} {L : List Rw} {a' : Option Addr} {cap' st k : Nat} {A : World} (h : TI w H q L a' cap' st k A) (hw : w.heap.size ≤ H) (o : Obj) : TI w H q L a' cap' st k (A.alloc o) :=
  h.kept hw (World.grownBy_alloc A o none) (fun _ e => by cases e)
/-- What a call of row leaves. -/
theorem TI.keeps {w : World} {H : Nat} {q : Oq} {L : List Rw} {a' : Option Addr} {cap' st k : Nat} {A B : World} (h : TI w H q L a' cap' st k A) (hw : w.heap.size ≤ H) (hk : Keeps (fun _ => False) A B) : TI w H q L a' cap' st k B :=
  h.kept hw (row := none) ⟨hk.os, hk.tape, hk.output, hk.size, fun i hi _ => hk.block i hi (fun e => e)⟩ (fun _ e => by cases e)
/-- The two counters go on. -/
theorem TI.next {w : World} {H : Nat} {q : Oq} {L : List Rw} {a' : Option Addr} {cap' st k : Nat} {A : World} (h : TI w H q L a' cap' st k A) (hw : w.heap.size + 2 ≤ H) : TI w H q L a' cap' st (k + 1) ((A.setCell ⟨H + 1, 0, none⟩ (.int .i64 ((st + (k + 1) : Nat) : Int))).setCell ⟨H + 1 + 1, 0, none⟩ (.int .i64 ((k + 1 : Nat) : Int))) where
  op := block_set (block_set h.op (by omega) _) (by omega) _
  res := (h.res.other (by omega) _).other (by omega) _
  want := (h.want.other (by omega) _).other (by omega) _
  at_ := (h.at_.set _).other (by omega) _
  n_ := (h.n_.other (by omega) _).set _
  rows i hi := by
    obtain ⟨g, e, h1, h2, R⟩ := h.rows i hi
    have k : ∀ o u, A.cell? ⟨g, o, none⟩ = some u → ((A.setCell ⟨H + 1, 0, none⟩ (.int .i64 ((st + (k + 1) : Nat) : Int))).setCell ⟨H + 1 + 1, 0, none⟩ (.int .i64 ((k + 1 : Nat) : Int))).cell? ⟨g, o, none⟩ = some u := fun o u hc =>
      (World.cell?_of_block ((Below.heap_setCell _ ⟨H + 1 + 1, 0, none⟩ _ g (by show g ≠ H + 1 + 1; omega)).trans (Below.heap_setCell A ⟨H + 1, 0, none⟩ _ g (by show g ≠ H + 1; omega)))).trans hc
    exact ⟨g, e, h1, h2, k _ _ R.r0, k _ _ R.r1, k _ _ R.r2, k _ _ R.r3, k _ _ R.r4, k _ _ R.r5, k _ _ R.r6⟩
  below := (h.below.setCell (p := ⟨H + 1, 0, none⟩) (by show w.heap.size ≤ H + 1; omega) _).setCell (p := ⟨H + 1 + 1, 0, none⟩) (by show w.heap.size ≤ H + 1 + 1; omega) _
  size := by have := h.size; simp; omega

set_option maxRecDepth 100000 in
set_option maxHeartbeats 6400000 in
theorem told_in {w : World} {mb rb : Nat} {s : Mm} {P : Nat → Prop} (h : PR w mb rb s P) (hl : (s.log.length + 1) * 56 ≤ 140737488355328) (q : Oq) :
    CallsIn Fence.wide 5 Try.prog 26 #[.pointer (some ⟨mb, 0, none⟩), .pointer (some ⟨rb, 0, none⟩), .agg #[.int .i64 q.kind, .int .i64 q.c, .int .i64 q.n, .int .i64 q.x, .int .i64 q.y, .bool q.other]] w fun e w' => e = .returned (.bool true) ∧ Keeps (fun _ => False) w w' := by
  obtain ⟨qk, qc, qn, qx, qy, qo⟩ := q
  simp only
  obtain ⟨F, B, hM, hR, _, _⟩ := h
  have K0 : ∀ o o', Keeps (fun _ => False) w ((w.alloc o).alloc o') := fun o o' => ((Keeps.refl _ w).alloc o).alloc o'
  have m2 := fun o o' => callsIn_wide (n := 4).2 (rlog_any (hR.new (K0 o o')) (by omega))
  have ht := fun (w : World) => callsIn_wide (n := 4).2 (tail_any w (some ⟨mb, 0, none⟩) qc)
  have hrow := row_any
  have hnil : ∀ (fn : Fn) (first cap : Array Value) (W : World), (binOp .eql 76 (.func fn first cap) Value.nilFunc).run Try.prog W = .ok (.bool false) W := fun fn first cap W => rfl
  refine callsIn_of_wp_marks Try.func26 rfl trivial ?_
  simp only [Try.ntmps26, List.size_toArray, List.length_cons, List.length_nil, Nat.reduceAdd, Nat.reduceSub, Array.replicate_succ, Array.replicate_zero, List.push_toArray, List.append_toArray, List.nil_append, List.cons_append]
  by_cases hc : qc < 0
  · obtain ⟨st, HS⟩ : ∃ st : Nat, Hid (st = 0) := ⟨0, rfl⟩
    gi_wp2_with (first | (refine ⟨trivial, ?_⟩; gi_at_call 25; refine (m2 _ _).mono ?_; clear m2; rintro e w1 ⟨v1, rfl, o1, k1⟩; obtain ⟨a', g', cap', rfl, hr'⟩ := owns_rows o1; have c1 := k1.cell (p := ⟨w.heap.size, 1, none⟩) (v := .int .i64 qc) (by simp) (fun e => e); have d1 : ∀ o, (w1.alloc o).cell? ⟨w.heap.size, 1, none⟩ = some (.int .i64 qc) := (fun o => ((Keeps.refl (fun _ => False) w1).alloc o).cell c1 (fun e => e)); have d3 : ∀ o o' o'', (((w1.alloc o).alloc o').alloc o'').cell? ⟨w.heap.size, 1, none⟩ = some (.int .i64 qc) := (fun o o' o'' => ((((Keeps.refl (fun _ => False) w1).alloc o).alloc o').alloc o'').cell c1 (fun e => e))) | (refine ⟨trivial, ?_⟩; gi_at_call 40; refine (ht _).mono ?_; rintro e w' ⟨rfl, rfl⟩))
    clear c1 d1 d3 ht
    obtain ⟨vc, vl, h, rfl⟩ := hM
    obtain ⟨a, cap, rfl, hrows, hown⟩ := h.rows
    have lm := h.lt
    have z1 : w.heap.size + 2 ≤ w1.heap.size := by simpa using k1.size
    have K1 : Keeps (fun _ => False) w w1 := (K0 _ _).trans k1
    have g1 : ∀ i, i < s.log.length → ∃ g, a' = some ⟨g, 0, none⟩ ∧ w.heap.size + 1 < g ∧ g < w1.heap.size ∧ RowAt w1 g (i * 7) (ra s.log i) := by
      intro i hi
      obtain ⟨rfl, R⟩ := hr' i hi
      refine ⟨g', rfl, ?_, World.block_lt_of_cell? _ _ R.r0, R⟩
      have := owns_base' o1 g' rfl
      simp at this
      omega
    have I1 : w1.heap[w.heap.size]? = some (.cells #[.int .i64 qk, .int .i64 qc, .int .i64 qn, .int .i64 qx, .int .i64 qy, .bool qo] 38 (0, 0)) := (k1.block _ (by simp; omega) (fun e => e)).trans (block_alloc (World.alloc_heap_new w _) _)
    have I2 : Boxed w1 (w.heap.size + 1) 4 (.bool false) := (k1.block _ (by simp) (fun e => e)).trans (by have := World.alloc_heap_new (w.alloc (.cells #[.int .i64 qk, .int .i64 qc, .int .i64 qn, .int .i64 qx, .int .i64 qy, .bool qo] 38)) (.cells #[.bool false] 4); rwa [World.size_alloc] at this)
    have bW := ((((Boxed.new w1 47 (.slice a' s.log.length cap')).alloc (.cells #[.int .i64 0] 3)).alloc (.cells #[.int .i64 0] 3)).alloc (.cells #[.pointer (some ⟨mb, 0, none⟩)] 25)).alloc (.cells #[.int .i64 qc] 3)
    have bA := (((Boxed.new (w1.alloc (.cells #[.slice a' s.log.length cap'] 47)) 3 (.int .i64 0)).alloc (.cells #[.int .i64 0] 3)).alloc (.cells #[.pointer (some ⟨mb, 0, none⟩)] 25)).alloc (.cells #[.int .i64 qc] 3)
    have bN := ((Boxed.new ((w1.alloc (.cells #[.slice a' s.log.length cap'] 47)).alloc (.cells #[.int .i64 0] 3)) 3 (.int .i64 0)).alloc (.cells #[.pointer (some ⟨mb, 0, none⟩)] 25)).alloc (.cells #[.int .i64 qc] 3)
    have bM := (Boxed.new (((w1.alloc (.cells #[.slice a' s.log.length cap'] 47)).alloc (.cells #[.int .i64 0] 3)).alloc (.cells #[.int .i64 0] 3)) 25 (.pointer (some ⟨mb, 0, none⟩))).alloc (.cells #[.int .i64 qc] 3)
    have bF := Boxed.new ((((w1.alloc (.cells #[.slice a' s.log.length cap'] 47)).alloc (.cells #[.int .i64 0] 3)).alloc (.cells #[.int .i64 0] 3)).alloc (.cells #[.pointer (some ⟨mb, 0, none⟩)] 25)) 3 (.int .i64 qc)
    obtain ⟨w3, hw3⟩ : ∃ w3, w3 = ((((w1.alloc (.cells #[.slice a' s.log.length cap'] 47)).alloc (.cells #[.int .i64 0] 3)).alloc (.cells #[.int .i64 0] 3)).alloc (.cells #[.pointer (some ⟨mb, 0, none⟩)] 25)).alloc (.cells #[.int .i64 qc] 3) := ⟨_, rfl⟩
    have s3 : w3.heap.size = w1.heap.size + 5 := by rw [hw3]; simp
    have K3 : Keeps (fun _ => False) w1 w3 := by rw [hw3]; exact (((((Keeps.refl (fun _ => False) w1).alloc _).alloc _).alloc _).alloc _).alloc _
    simp only [World.size_alloc] at bA bN bM bF ⊢
    rw [← hw3] at bW bA bN bM bF ⊢
    clear hw3
    have T0 : TI w w1.heap.size ⟨qk, qc, qn, qx, qy, qo⟩ s.log a' cap' st 0 w3 := ⟨(K3.block _ (by omega) (fun e => e)).trans I1, (K3.block _ (by omega) (fun e => e)).trans I2, bW, (by rw [show st + 0 = 0 by have := HS.out; omega]; exact bA), bN, fun i hi => by
      obtain ⟨g, e, h1, h2, R⟩ := g1 i hi
      exact ⟨g, e, h1, h2, R.keep K3 (fun e => e)⟩, (K1.trans K3).below (Nat.le_refl _) (fun _ _ e => e), by omega⟩
    have B0 : Below w.heap.size w w3 := T0.below
    have hf1 : w3.cell? ⟨mb, 1, none⟩ = some (.slice a s.log.length cap) := (B0.cell (p := ⟨mb, 1, none⟩) lm).trans h.f1
    have hR3 := hrows.below B0 rfl
    have hag : ∀ g, a = some ⟨g, 0, none⟩ → g < w.heap.size := fun g e => owns_lt' h.rl g (hown g e)
    have hKp : ∀ W W', Below w.heap.size W W' → KR a s.log.length W W' := fun W W' k g e o u _ hc => (k.cell (p := ⟨g, o, none⟩) (hag g e)).trans hc
    clear h hrows hown g1 I1 I2 bW bA bN o1 k1 hr' hR K0
    refine wpIn_rangeFunc_ownH (α := Fin (s.log.length - st)) rfl (by omega) (gf := 52) (lb := #[.pointer (some ⟨w1.heap.size + 1 + 1 + 1, 0, none⟩), .pointer (some ⟨w1.heap.size + 1 + 1 + 1 + 1, 0, none⟩)]) rfl trivial (enters_of Try.func52 (by kernel_rfl) rfl)
      (tail_stopsF 4 (by omega) (w1.heap.size + 1 + 1 + 1) (w1.heap.size + 1 + 1 + 1 + 1) mb qc st (by have := HS.out; omega) a cap s.log (by omega) (Below w.heap.size) hKp w3 bM.cell bF.cell hf1 hR3) belowK_t (belowK_b (by omega)) (Below.refl _ _) (fun _ => rfl)
      (fun pre W => pre = idx (s.log.length - st) pre.length ∧ TI w w1.heap.size ⟨qk, qc, qn, qx, qy, qo⟩ s.log a' cap' st pre.length W)
      (fun cd pre W => cd = .ret ∧ ((∃ (p : List (Fin (s.log.length - st))) (x : Fin (s.log.length - st)), pre = p ++ [x] ∧ p = idx (s.log.length - st) p.length ∧ (x : Nat) ≠ p.length) ∨ (Boxed W (w.heap.size + 1) 4 (.bool true) ∧ Below w.heap.size w W)))
      (fun pre A B row hs hg hr => ⟨hs.1, hs.2.kept (by omega) hg (fun r e => ⟨by have := (hr r e).1; omega, (hr r e).2⟩)⟩)
      (fun cd pre A B row hs hg hr => ⟨hs.1, hs.2.imp id (fun h => ⟨boxed_kept h.1 hg (fun r e => (hr r e).2), h.2.grown hg (by have := World.block_lt_of_cell? _ _ h.1.cell; simp at this; omega) (fun k e => by have := (hr k e).1; omega)⟩)⟩)
      ⟨rfl, T0⟩
      (fun x av W => ∃ Bx i, i = st + (x : Nat) ∧ w1.heap.size + 4 < Bx ∧ RowAt W Bx 0 (ra s.log i) ∧ av = { tmps := #[.pointer (some ⟨mb, 0, none⟩), .pointer (some ⟨rb, 0, none⟩), .agg #[.int .i64 qk, .int .i64 qc, .int .i64 qn, .int .i64 qx, .int .i64 qy, .bool qo], undef, undef, .pointer (some ⟨w.heap.size, 0, none⟩), .pointer (some ⟨w.heap.size + 1, 0, none⟩), .pointer (some ⟨w1.heap.size, 0, none⟩), .pointer (some ⟨w1.heap.size + 1, 0, none⟩), .pointer (some ⟨w1.heap.size + 1 + 1, 0, none⟩), .func (.func 52) #[] #[.pointer (some ⟨w1.heap.size + 1 + 1 + 1, 0, none⟩), .pointer (some ⟨w1.heap.size + 1 + 1 + 1 + 1, 0, none⟩)], .int .i64 (i : Int), .pointer (some ⟨Bx, 0, none⟩), .pointer (some ⟨rb, 0, none⟩), .slice a' s.log.length cap', .pointer (some ⟨w.heap.size, 1, none⟩), .int .i64 qc, .int .i64 qc, .bool true, .pointer (some ⟨mb, 0, none⟩), .pointer (some ⟨w.heap.size, 1, none⟩), .int .i64 qc, .func (.func 52) #[] #[.pointer (some ⟨w1.heap.size + 1 + 1 + 1, 0, none⟩), .pointer (some ⟨w1.heap.size + 1 + 1 + 1 + 1, 0, none⟩)], .func (.func 52) #[] #[.pointer (some ⟨w1.heap.size + 1 + 1 + 1, 0, none⟩), .pointer (some ⟨w1.heap.size + 1 + 1 + 1 + 1, 0, none⟩)], .bool false, .func (.func 52) #[] #[.pointer (some ⟨w1.heap.size + 1 + 1 + 1, 0, none⟩), .pointer (some ⟨w1.heap.size + 1 + 1 + 1 + 1, 0, none⟩)], .int .i64 (i : Int), .agg #[.int .i64 (ra s.log i).step, .int .i64 (ra s.log i).thread, .int .i64 (ra s.log i).kind, .int .i64 (ra s.log i).cell, .int .i64 (ra s.log i).seen, .int .i64 (ra s.log i).wrote, .bool (ra s.log i).done], undef, undef, undef, undef, undef, undef, undef, undef, undef, undef, undef, undef, undef, undef, undef, undef, undef, undef, undef, undef, undef, undef, undef, undef, undef, undef, undef, undef, undef, undef], defers := [] })
      (fun x av _ W W' row hs hg hr => by
        obtain ⟨Bx, i, hi, h1, R, e⟩ := hs
        exact ⟨Bx, i, hi, h1, R.kept hg (fun r e => (hr r e).2), e⟩) ?assign ?body ?done ?stop
    case assign =>
      rintro l pre x W K ⟨hp, hT⟩ hK
      obtain ⟨i, hi⟩ : ∃ i : Nat, i = st + (x : Nat) := ⟨_, rfl⟩
      simp only [encs, nrs, ← hi]
      have HI : Hid (i = st + (x : Nat)) := hi
      clear hi
      gi_wp2
      have hsz := hT.size
      refine hK _ _ ((KeepsOthers.alloc _ _).from _) ((Below.refl _ W).alloc (by omega) _) ⟨hp, hT.alloc (by omega) _⟩ ⟨W.heap.size, i, HI.out, by omega, ?_, rfl⟩
      constructor <;> simp
    case body =>
      rintro l pre x av W hl _ ⟨hp, hT⟩ ⟨Bx, i, hi, hBx, R, rfl⟩ hlt
      have HP : Hid (pre = idx (s.log.length - st) pre.length) := hp
      clear hp
      have HSZ : Hid (w1.heap.size + 5 ≤ W.heap.size) := hT.size
      have xlt := x.2
      have hmx : Try.prog.follows .mixedOrders = true := by kernel_rfl
      obtain ⟨g, rfl, hg1, hg2, RW⟩ := hT.rows (st + pre.length) (by omega)
      have cop : W.cell? ⟨w.heap.size, 2, none⟩ = some (.int .i64 qn) := by simp [World.cell?, hT.op]
      have c7 := hT.want.cell
      have c8 := hT.at_.cell
      have c9 := hT.n_.cell
      have z8 := hT.at_.frozen
      have z9 := hT.n_.frozen
      have z6 := hT.res.frozen
      have c6 := hT.res.cell
      have hwf : Fence.wide.fn 33 := trivial
      by_cases hx : i = st + pre.length
      · have HX : Hid ((x : Nat) = pre.length) := (by omega : (x : Nat) = pre.length)
        subst hx
        clear hi
        have hmI : ((st + pre.length : Nat) : Int) < (s.log.length : Int) := by omega
        have hmG : ¬ (s.log.length : Int) ≤ ((st + pre.length : Nat) : Int) := by omega
        have hge : decide (s.log.length ≤ st + pre.length) = false := decide_eq_false (by omega)
        have HT : Hid (TI w w1.heap.size ⟨qk, qc, qn, qx, qy, qo⟩ s.log (some ⟨g, 0, none⟩) cap' st pre.length W) := hT
        generalize hm : st + pre.length = m at R RW c8 hmI hmG hge ⊢
        generalize ra s.log m = r at R RW ⊢
        have p10 := R.r0
        have p11 := R.r1
        have p12 := R.r2
        have p13 := R.r3
        have p14 := R.r4
        have p15 := R.r5
        have p16 := R.r6
        have p20 := RW.r0
        have p21 := RW.r1
        have p22 := RW.r2
        have p23 := RW.r3
        have p24 := RW.r4
        have p25 := RW.r5
        have p26 := RW.r6
        simp only [Nat.zero_add] at p10 p11 p12 p13 p14 p15 p16
        clear R RW hT hKp hf1 hR3 hag T0 B0 bM bF
        gi_wp2
        have hNE : Nonempty (KS W) := ⟨⟨W, Keeps.refl _ W⟩⟩
        have C7 := ks_cell c7
        have C8 := ks_cell c8
        have P10 := ks_cell p10
        have P11 := ks_cell p11
        have P12 := ks_cell p12
        have P13 := ks_cell p13
        have P14 := ks_cell p14
        have P15 := ks_cell p15
        have P16 := ks_cell p16
        have P20 := ks_cell p20
        have P21 := ks_cell p21
        have P22 := ks_cell p22
        have P23 := ks_cell p23
        have P24 := ks_cell p24
        have P25 := ks_cell p25
        have P26 := ks_cell p26
        refine wpIn_region_ks (by kernel_rfl) (by kernel_rfl) (by kernel_rfl) ?_
        repeat (go_big_quiet_step ((go_at_call 33; refine (hrow _ r).mono ?_; rintro e w2 ⟨rfl, k2⟩; exact ⟨rfl, ⟨_, Keeps.trans (KS.property _) k2⟩, rfl⟩)))
        refine wpQuiet_nil ?_
        rintro _ ⟨u, rfl⟩
        have KU := u.property
        have T4 := HT.out.keeps (by omega) KU
        generalize u.val = W4 at *
        clear C7 C8 P10 P11 P12 P13 P14 P15 P16 P20 P21 P22 P23 P24 P25 P26 hNE p10 p11 p12 p13 p14 p15 p16 p20 p21 p22 p23 p24 p25 p26 c6 c7 c8 c9 z6 z8 z9 cop HT
        have cop : W4.cell? ⟨w.heap.size, 2, none⟩ = some (.int .i64 qn) := by simp [World.cell?, T4.op]
        have c8 : W4.cell? ⟨w1.heap.size + 1, 0, none⟩ = some (.int .i64 (m : Int)) := by rw [← hm]; exact T4.at_.cell
        have z8 := T4.at_.frozen
        have c9 := fun v => (T4.n_.other (B' := w1.heap.size + 1) (by omega) v).cell
        have z9 := fun v => (T4.n_.other (B' := w1.heap.size + 1) (by omega) v).frozen
        have cop' : ∀ v v', ((W4.setCell ⟨w1.heap.size + 1, 0, none⟩ v).setCell ⟨w1.heap.size + 1 + 1, 0, none⟩ v').cell? ⟨w.heap.size, 2, none⟩ = some (.int .i64 qn) := fun v v' => (World.cell?_of_block (a := ⟨w.heap.size, 2, none⟩) ((block_set (block_set T4.op (b' := w1.heap.size + 1) (by omega) v) (b' := w1.heap.size + 1 + 1) (by omega) v').trans T4.op.symm)).trans cop
        have HM : Hid (st + pre.length = m) := hm
        clear hm
        have R6 := fun v v' => (T4.res.other (B' := w1.heap.size + 1) (by omega) v).other (B' := w1.heap.size + 1 + 1) (by omega) v'
        have c6 := fun v v' => (R6 v v').cell
        have z6 := fun v v' => (R6 v v').frozen
        have KO : KeepsOthers W W4 := ⟨KU.size, fun k o h _ => (KU.block k (Array.getElem?_eq_some_iff.1 h).1 (fun e => e)).trans h⟩
        have hW0 := T4.below.size
        have hW1 := KU.size
        have bW : Below w.heap.size W W4 := KU.below (by have := HSZ.out; omega) (fun _ _ e => e)
        have e1 : (m : Int) + 1 = ((st + (pre.length + 1) : Nat) : Int) := by have := HM.out; omega
        have e2 : (pre.length : Int) + 1 = ((pre.length + 1 : Nat) : Int) := by omega
        have T5 := T4.next (by omega)
        rw [← e1, ← e2] at T5
        have HT5 := (show Hid _ from T5)
        clear e1 e2 T5
        by_cases hN : (pre.length : Int) + 1 = qn
        · have hNb : ((pre.length : Int) + 1 == qn) = true := by simp [hN]
          clear hN
          gi_wp2
          exact ⟨((KO.trans (KeepsOthers.setCell _ _ _)).trans (KeepsOthers.setCell _ _ _)).trans (KeepsOthers.setCell _ _ _) |>.from _, rfl, .inr ⟨(R6 _ _).set _, ((T4.below.setCell (p := ⟨w1.heap.size + 1, 0, none⟩) (by show w.heap.size ≤ w1.heap.size + 1; omega) _).setCell (p := ⟨w1.heap.size + 1 + 1, 0, none⟩) (by show w.heap.size ≤ w1.heap.size + 1 + 1; omega) _).setCell (p := ⟨w.heap.size + 1, 0, none⟩) (by show w.heap.size ≤ w.heap.size + 1; omega) _⟩⟩
        · have hNb : ((pre.length : Int) + 1 == qn) = false := by simp [hN]
          clear hN
          gi_wp2
          have hl1 : (pre ++ [x]).length = pre.length + 1 := by simp
          refine ⟨((KO.trans (KeepsOthers.setCell _ _ _)).trans (KeepsOthers.setCell _ _ _)).from _, (bW.setCell (p := ⟨w1.heap.size + 1, 0, none⟩) (by show w.heap.size ≤ w1.heap.size + 1; omega) _).setCell (p := ⟨w1.heap.size + 1 + 1, 0, none⟩) (by show w.heap.size ≤ w1.heap.size + 1 + 1; omega) _, ?_, ?_⟩
          · have ex : x = ⟨pre.length, hlt⟩ := Fin.ext HX.out
            rw [hl1, idx_succ hlt, ← ex]
            exact congrArg (· ++ [x]) HP.out
          · rw [hl1]; exact HT5
      · have HX : Hid ((x : Nat) ≠ pre.length) := fun e => hx (by omega)
        have hne : ¬ (i : Int) = ((st + pre.length : Nat) : Int) := by omega
        have hmG : ¬ (s.log.length : Int) ≤ ((st + pre.length : Nat) : Int) := by omega
        clear R RW hKp hf1 hR3 hag T0 B0 bM bF hx hi
        have hge : decide (s.log.length ≤ st + pre.length) = false := decide_eq_false (by omega)
        have hni : ¬ i = st + pre.length := by omega
        have hnb : ((i : Int) != ((st + pre.length : Nat) : Int)) = true := by simp; omega
        generalize hm : st + pre.length = m at c8 hne hmG hge hni hnb ⊢
        generalize ra s.log i = r at ⊢
        gi_wp2
        have hNE : Nonempty (KS W) := ⟨⟨W, Keeps.refl _ W⟩⟩
        have C7 := ks_cell c7
        have C8 := ks_cell c8
        refine wpIn_region_ks (by kernel_rfl) (by kernel_rfl) (by kernel_rfl) ?_
        repeat (go_big_quiet_step (fail))
        refine wpQuiet_nil ?_
        rintro _ ⟨u, rfl⟩
        have KU := u.property
        have T4 := hT.keeps (by omega) KU
        generalize u.val = W4 at *
        clear C7 C8 hNE c6 c7 c8 c9 z6 z8 z9 cop
        have c6 := T4.res.cell
        have z6 := T4.res.frozen
        have KO : KeepsOthers W W4 := ⟨KU.size, fun k o h _ => (KU.block k (Array.getElem?_eq_some_iff.1 h).1 (fun e => e)).trans h⟩
        gi_wp2
        exact ⟨(KO.trans (KeepsOthers.setCell _ _ _)).from _, rfl, .inl ⟨pre, x, rfl, HP.out, HX.out⟩⟩
    case done =>
      rintro D ys W hD rfl ⟨hp, hT⟩ hK
      clear hp
      have c7 := hT.want.cell
      have c8 := hT.at_.cell
      have c6 := hT.res.cell
      have z6 := hT.res.frozen
      have hge : decide (s.log.length ≤ st + (idx (s.log.length - st) (s.log.length - st)).length) = true := by rw [idx_length (Nat.le_refl _)]; exact decide_eq_true (by omega)
      generalize hm : st + (idx (s.log.length - st) (s.log.length - st)).length = m at hge c8
      have HM := (show Hid _ from hm)
      clear hm
      gi_wp2
      have b6 := hT.res.set (.bool true)
      have hB := hT.below.setCell (p := ⟨w.heap.size + 1, 0, none⟩) (by show w.heap.size ≤ w.heap.size + 1; omega) (.bool true)
      have hK' := (KeepsOthers.setCell W ⟨w.heap.size + 1, 0, none⟩ (.bool true)).same D _ hK rfl
      refine ⟨by simp, .inl ⟨_, _, rfl, run_takeDeferred hK', ?_⟩⟩
      have k1 := cell_kept b6.cell (grownBy_putObj' _ D (.deferred none)) (fun r e => by cases e; exact ⟨_, hK', rfl⟩)
      have b9 := hB.trans (belowK_b (w := w) (Nat.le_refl _) _ D _ (.deferred none) (by omega) hK' rfl rfl)
      refine ⟨.bool true, ?_, rfl, b9.os, b9.tape, b9.output, b9.size, fun k hk _ => b9.block k hk⟩
      simp [results, Try.f26, go_sem, k1]
    case stop =>
      rintro D cd pre W hD ⟨k, hk0, hk, rfl⟩ ⟨rfl, h⟩ hK
      rcases h with ⟨p, x, e1, e2, e3⟩ | ⟨hb, hB⟩
      · exfalso
        have := idx_succ (N := s.log.length - st) (k := k - 1) (by omega)
        rw [show k - 1 + 1 = k by omega, e1] at this
        obtain ⟨h1, h2⟩ := List.append_inj' this rfl
        simp only [List.cons.injEq, and_true] at h2
        exact e3 (by rw [h2, h1, idx_length (by omega)])
      · gi_wp2
        refine ⟨by simp, .inl ⟨_, _, rfl, run_takeDeferred hK, ?_⟩⟩
        have k1 := cell_kept hb.cell (grownBy_putObj' _ D (.deferred none)) (fun r e => by cases e; exact ⟨_, hK, rfl⟩)
        have b9 := hB.trans (belowK_b (w := w) (Nat.le_refl _) _ D _ (.deferred none) (by omega) hK rfl rfl)
        refine ⟨.bool true, ?_, rfl, b9.os, b9.tape, b9.output, b9.size, fun k hk _ => b9.block k hk⟩
        simp [results, Try.f26, go_sem, k1]
  · obtain ⟨st, rfl⟩ : ∃ st : Nat, qc = (st : Int) := ⟨qc.toNat, by omega⟩
    have HS : Hid (0 ≤ st) := Nat.zero_le _
    gi_wp2_with (first | (refine ⟨trivial, ?_⟩; gi_at_call 25; refine (m2 _ _).mono ?_; clear m2; rintro e w1 ⟨v1, rfl, o1, k1⟩; obtain ⟨a', g', cap', rfl, hr'⟩ := owns_rows o1; have c1 := k1.cell (p := ⟨w.heap.size, 1, none⟩) (v := .int .i64 (st : Int)) (by simp) (fun e => e); have d1 : ∀ o, (w1.alloc o).cell? ⟨w.heap.size, 1, none⟩ = some (.int .i64 (st : Int)) := (fun o => ((Keeps.refl (fun _ => False) w1).alloc o).cell c1 (fun e => e)); have d3 : ∀ o o' o'', (((w1.alloc o).alloc o').alloc o'').cell? ⟨w.heap.size, 1, none⟩ = some (.int .i64 (st : Int)) := (fun o o' o'' => ((((Keeps.refl (fun _ => False) w1).alloc o).alloc o').alloc o'').cell c1 (fun e => e))) | (refine ⟨trivial, ?_⟩; gi_at_call 40; refine (ht _).mono ?_; rintro e w' ⟨rfl, rfl⟩))
    clear c1 d1 d3 ht
    obtain ⟨vc, vl, h, rfl⟩ := hM
    obtain ⟨a, cap, rfl, hrows, hown⟩ := h.rows
    have lm := h.lt
    have z1 : w.heap.size + 2 ≤ w1.heap.size := by simpa using k1.size
    have K1 : Keeps (fun _ => False) w w1 := (K0 _ _).trans k1
    have g1 : ∀ i, i < s.log.length → ∃ g, a' = some ⟨g, 0, none⟩ ∧ w.heap.size + 1 < g ∧ g < w1.heap.size ∧ RowAt w1 g (i * 7) (ra s.log i) := by
      intro i hi
      obtain ⟨rfl, R⟩ := hr' i hi
      refine ⟨g', rfl, ?_, World.block_lt_of_cell? _ _ R.r0, R⟩
      have := owns_base' o1 g' rfl
      simp at this
      omega
    have I1 : w1.heap[w.heap.size]? = some (.cells #[.int .i64 qk, .int .i64 (st : Int), .int .i64 qn, .int .i64 qx, .int .i64 qy, .bool qo] 38 (0, 0)) := (k1.block _ (by simp; omega) (fun e => e)).trans (block_alloc (World.alloc_heap_new w _) _)
    have I2 : Boxed w1 (w.heap.size + 1) 4 (.bool false) := (k1.block _ (by simp) (fun e => e)).trans (by have := World.alloc_heap_new (w.alloc (.cells #[.int .i64 qk, .int .i64 (st : Int), .int .i64 qn, .int .i64 qx, .int .i64 qy, .bool qo] 38)) (.cells #[.bool false] 4); rwa [World.size_alloc] at this)
    have bW := ((((Boxed.new w1 47 (.slice a' s.log.length cap')).alloc (.cells #[.int .i64 (st : Int)] 3)).alloc (.cells #[.int .i64 0] 3)).alloc (.cells #[.pointer (some ⟨mb, 0, none⟩)] 25)).alloc (.cells #[.int .i64 (st : Int)] 3)
    have bA := (((Boxed.new (w1.alloc (.cells #[.slice a' s.log.length cap'] 47)) 3 (.int .i64 (st : Int))).alloc (.cells #[.int .i64 0] 3)).alloc (.cells #[.pointer (some ⟨mb, 0, none⟩)] 25)).alloc (.cells #[.int .i64 (st : Int)] 3)
    have bN := ((Boxed.new ((w1.alloc (.cells #[.slice a' s.log.length cap'] 47)).alloc (.cells #[.int .i64 (st : Int)] 3)) 3 (.int .i64 0)).alloc (.cells #[.pointer (some ⟨mb, 0, none⟩)] 25)).alloc (.cells #[.int .i64 (st : Int)] 3)
    have bM := (Boxed.new (((w1.alloc (.cells #[.slice a' s.log.length cap'] 47)).alloc (.cells #[.int .i64 (st : Int)] 3)).alloc (.cells #[.int .i64 0] 3)) 25 (.pointer (some ⟨mb, 0, none⟩))).alloc (.cells #[.int .i64 (st : Int)] 3)
    have bF := Boxed.new ((((w1.alloc (.cells #[.slice a' s.log.length cap'] 47)).alloc (.cells #[.int .i64 (st : Int)] 3)).alloc (.cells #[.int .i64 0] 3)).alloc (.cells #[.pointer (some ⟨mb, 0, none⟩)] 25)) 3 (.int .i64 (st : Int))
    obtain ⟨w3, hw3⟩ : ∃ w3, w3 = ((((w1.alloc (.cells #[.slice a' s.log.length cap'] 47)).alloc (.cells #[.int .i64 (st : Int)] 3)).alloc (.cells #[.int .i64 0] 3)).alloc (.cells #[.pointer (some ⟨mb, 0, none⟩)] 25)).alloc (.cells #[.int .i64 (st : Int)] 3) := ⟨_, rfl⟩
    have s3 : w3.heap.size = w1.heap.size + 5 := by rw [hw3]; simp
    have K3 : Keeps (fun _ => False) w1 w3 := by rw [hw3]; exact (((((Keeps.refl (fun _ => False) w1).alloc _).alloc _).alloc _).alloc _).alloc _
    simp only [World.size_alloc] at bA bN bM bF ⊢
    rw [← hw3] at bW bA bN bM bF ⊢
    clear hw3
    have T0 : TI w w1.heap.size ⟨qk, (st : Int), qn, qx, qy, qo⟩ s.log a' cap' st 0 w3 := ⟨(K3.block _ (by omega) (fun e => e)).trans I1, (K3.block _ (by omega) (fun e => e)).trans I2, bW, bA, bN, fun i hi => by
      obtain ⟨g, e, h1, h2, R⟩ := g1 i hi
      exact ⟨g, e, h1, h2, R.keep K3 (fun e => e)⟩, (K1.trans K3).below (Nat.le_refl _) (fun _ _ e => e), by omega⟩
    have B0 : Below w.heap.size w w3 := T0.below
    have hf1 : w3.cell? ⟨mb, 1, none⟩ = some (.slice a s.log.length cap) := (B0.cell (p := ⟨mb, 1, none⟩) lm).trans h.f1
    have hR3 := hrows.below B0 rfl
    have hag : ∀ g, a = some ⟨g, 0, none⟩ → g < w.heap.size := fun g e => owns_lt' h.rl g (hown g e)
    have hKp : ∀ W W', Below w.heap.size W W' → KR a s.log.length W W' := fun W W' k g e o u _ hc => (k.cell (p := ⟨g, o, none⟩) (hag g e)).trans hc
    clear h hrows hown g1 I1 I2 bW bA bN o1 k1 hr' hR K0
    refine wpIn_rangeFunc_ownH (α := Fin (s.log.length - st)) rfl (by omega) (gf := 52) (lb := #[.pointer (some ⟨w1.heap.size + 1 + 1 + 1, 0, none⟩), .pointer (some ⟨w1.heap.size + 1 + 1 + 1 + 1, 0, none⟩)]) rfl trivial (enters_of Try.func52 (by kernel_rfl) rfl)
      (tail_stopsF 4 (by omega) (w1.heap.size + 1 + 1 + 1) (w1.heap.size + 1 + 1 + 1 + 1) mb (st : Int) st (by have := HS.out; omega) a cap s.log (by omega) (Below w.heap.size) hKp w3 bM.cell bF.cell hf1 hR3) belowK_t (belowK_b (by omega)) (Below.refl _ _) (fun _ => rfl)
      (fun pre W => pre = idx (s.log.length - st) pre.length ∧ TI w w1.heap.size ⟨qk, (st : Int), qn, qx, qy, qo⟩ s.log a' cap' st pre.length W)
      (fun cd pre W => cd = .ret ∧ ((∃ (p : List (Fin (s.log.length - st))) (x : Fin (s.log.length - st)), pre = p ++ [x] ∧ p = idx (s.log.length - st) p.length ∧ (x : Nat) ≠ p.length) ∨ (Boxed W (w.heap.size + 1) 4 (.bool true) ∧ Below w.heap.size w W)))
      (fun pre A B row hs hg hr => ⟨hs.1, hs.2.kept (by omega) hg (fun r e => ⟨by have := (hr r e).1; omega, (hr r e).2⟩)⟩)
      (fun cd pre A B row hs hg hr => ⟨hs.1, hs.2.imp id (fun h => ⟨boxed_kept h.1 hg (fun r e => (hr r e).2), h.2.grown hg (by have := World.block_lt_of_cell? _ _ h.1.cell; simp at this; omega) (fun k e => by have := (hr k e).1; omega)⟩)⟩)
      ⟨rfl, T0⟩
      (fun x av W => ∃ Bx i, i = st + (x : Nat) ∧ w1.heap.size + 4 < Bx ∧ RowAt W Bx 0 (ra s.log i) ∧ av = { tmps := #[.pointer (some ⟨mb, 0, none⟩), .pointer (some ⟨rb, 0, none⟩), .agg #[.int .i64 qk, .int .i64 (st : Int), .int .i64 qn, .int .i64 qx, .int .i64 qy, .bool qo], undef, undef, .pointer (some ⟨w.heap.size, 0, none⟩), .pointer (some ⟨w.heap.size + 1, 0, none⟩), .pointer (some ⟨w1.heap.size, 0, none⟩), .pointer (some ⟨w1.heap.size + 1, 0, none⟩), .pointer (some ⟨w1.heap.size + 1 + 1, 0, none⟩), .func (.func 52) #[] #[.pointer (some ⟨w1.heap.size + 1 + 1 + 1, 0, none⟩), .pointer (some ⟨w1.heap.size + 1 + 1 + 1 + 1, 0, none⟩)], .int .i64 (i : Int), .pointer (some ⟨Bx, 0, none⟩), .pointer (some ⟨rb, 0, none⟩), .slice a' s.log.length cap', .pointer (some ⟨w.heap.size, 1, none⟩), .int .i64 (st : Int), .int .i64 (st : Int), .bool (decide ((st : Int) < 0)), .pointer (some ⟨mb, 0, none⟩), .pointer (some ⟨w.heap.size, 1, none⟩), .int .i64 (st : Int), .func (.func 52) #[] #[.pointer (some ⟨w1.heap.size + 1 + 1 + 1, 0, none⟩), .pointer (some ⟨w1.heap.size + 1 + 1 + 1 + 1, 0, none⟩)], .func (.func 52) #[] #[.pointer (some ⟨w1.heap.size + 1 + 1 + 1, 0, none⟩), .pointer (some ⟨w1.heap.size + 1 + 1 + 1 + 1, 0, none⟩)], .bool false, .func (.func 52) #[] #[.pointer (some ⟨w1.heap.size + 1 + 1 + 1, 0, none⟩), .pointer (some ⟨w1.heap.size + 1 + 1 + 1 + 1, 0, none⟩)], .int .i64 (i : Int), .agg #[.int .i64 (ra s.log i).step, .int .i64 (ra s.log i).thread, .int .i64 (ra s.log i).kind, .int .i64 (ra s.log i).cell, .int .i64 (ra s.log i).seen, .int .i64 (ra s.log i).wrote, .bool (ra s.log i).done], undef, undef, undef, undef, undef, undef, undef, undef, undef, undef, undef, undef, undef, undef, undef, undef, undef, undef, undef, undef, undef, undef, undef, undef, undef, undef, undef, undef, undef, undef], defers := [] })
      (fun x av _ W W' row hs hg hr => by
        obtain ⟨Bx, i, hi, h1, R, e⟩ := hs
        exact ⟨Bx, i, hi, h1, R.kept hg (fun r e => (hr r e).2), e⟩) ?assign ?body ?done ?stop
    case assign =>
      rintro l pre x W K ⟨hp, hT⟩ hK
      obtain ⟨i, hi⟩ : ∃ i : Nat, i = st + (x : Nat) := ⟨_, rfl⟩
      simp only [encs, nrs, ← hi]
      have HI : Hid (i = st + (x : Nat)) := hi
      clear hi
      gi_wp2
      have hsz := hT.size
      refine hK _ _ ((KeepsOthers.alloc _ _).from _) ((Below.refl _ W).alloc (by omega) _) ⟨hp, hT.alloc (by omega) _⟩ ⟨W.heap.size, i, HI.out, by omega, ?_, rfl⟩
      constructor <;> simp
    case body =>
      rintro l pre x av W hl _ ⟨hp, hT⟩ ⟨Bx, i, hi, hBx, R, rfl⟩ hlt
      have HP : Hid (pre = idx (s.log.length - st) pre.length) := hp
      clear hp
      have HSZ : Hid (w1.heap.size + 5 ≤ W.heap.size) := hT.size
      have xlt := x.2
      have hmx : Try.prog.follows .mixedOrders = true := by kernel_rfl
      obtain ⟨g, rfl, hg1, hg2, RW⟩ := hT.rows (st + pre.length) (by omega)
      have cop : W.cell? ⟨w.heap.size, 2, none⟩ = some (.int .i64 qn) := by simp [World.cell?, hT.op]
      have c7 := hT.want.cell
      have c8 := hT.at_.cell
      have c9 := hT.n_.cell
      have z8 := hT.at_.frozen
      have z9 := hT.n_.frozen
      have z6 := hT.res.frozen
      have c6 := hT.res.cell
      have hwf : Fence.wide.fn 33 := trivial
      by_cases hx : i = st + pre.length
      · have HX : Hid ((x : Nat) = pre.length) := (by omega : (x : Nat) = pre.length)
        subst hx
        clear hi
        have hmI : ((st + pre.length : Nat) : Int) < (s.log.length : Int) := by omega
        have hmG : ¬ (s.log.length : Int) ≤ ((st + pre.length : Nat) : Int) := by omega
        have hge : decide (s.log.length ≤ st + pre.length) = false := decide_eq_false (by omega)
        have HT : Hid (TI w w1.heap.size ⟨qk, (st : Int), qn, qx, qy, qo⟩ s.log (some ⟨g, 0, none⟩) cap' st pre.length W) := hT
        generalize hm : st + pre.length = m at R RW c8 hmI hmG hge ⊢
        generalize ra s.log m = r at R RW ⊢
        have p10 := R.r0
        have p11 := R.r1
        have p12 := R.r2
        have p13 := R.r3
        have p14 := R.r4
        have p15 := R.r5
        have p16 := R.r6
        have p20 := RW.r0
        have p21 := RW.r1
        have p22 := RW.r2
        have p23 := RW.r3
        have p24 := RW.r4
        have p25 := RW.r5
        have p26 := RW.r6
        simp only [Nat.zero_add] at p10 p11 p12 p13 p14 p15 p16
        clear R RW hT hKp hf1 hR3 hag T0 B0 bM bF
        gi_wp2
        have hNE : Nonempty (KS W) := ⟨⟨W, Keeps.refl _ W⟩⟩
        have C7 := ks_cell c7
        have C8 := ks_cell c8
        have P10 := ks_cell p10
        have P11 := ks_cell p11
        have P12 := ks_cell p12
        have P13 := ks_cell p13
        have P14 := ks_cell p14
        have P15 := ks_cell p15
        have P16 := ks_cell p16
        have P20 := ks_cell p20
        have P21 := ks_cell p21
        have P22 := ks_cell p22
        have P23 := ks_cell p23
        have P24 := ks_cell p24
        have P25 := ks_cell p25
        have P26 := ks_cell p26
        refine wpIn_region_ks (by kernel_rfl) (by kernel_rfl) (by kernel_rfl) ?_
        repeat (go_big_quiet_step ((go_at_call 33; refine (hrow _ r).mono ?_; rintro e w2 ⟨rfl, k2⟩; exact ⟨rfl, ⟨_, Keeps.trans (KS.property _) k2⟩, rfl⟩)))
        refine wpQuiet_nil ?_
        rintro _ ⟨u, rfl⟩
        have KU := u.property
        have T4 := HT.out.keeps (by omega) KU
        generalize u.val = W4 at *
        clear C7 C8 P10 P11 P12 P13 P14 P15 P16 P20 P21 P22 P23 P24 P25 P26 hNE p10 p11 p12 p13 p14 p15 p16 p20 p21 p22 p23 p24 p25 p26 c6 c7 c8 c9 z6 z8 z9 cop HT
        have cop : W4.cell? ⟨w.heap.size, 2, none⟩ = some (.int .i64 qn) := by simp [World.cell?, T4.op]
        have c8 : W4.cell? ⟨w1.heap.size + 1, 0, none⟩ = some (.int .i64 (m : Int)) := by rw [← hm]; exact T4.at_.cell
        have z8 := T4.at_.frozen
        have c9 := fun v => (T4.n_.other (B' := w1.heap.size + 1) (by omega) v).cell
        have z9 := fun v => (T4.n_.other (B' := w1.heap.size + 1) (by omega) v).frozen
        have cop' : ∀ v v', ((W4.setCell ⟨w1.heap.size + 1, 0, none⟩ v).setCell ⟨w1.heap.size + 1 + 1, 0, none⟩ v').cell? ⟨w.heap.size, 2, none⟩ = some (.int .i64 qn) := fun v v' => (World.cell?_of_block (a := ⟨w.heap.size, 2, none⟩) ((block_set (block_set T4.op (b' := w1.heap.size + 1) (by omega) v) (b' := w1.heap.size + 1 + 1) (by omega) v').trans T4.op.symm)).trans cop
        have HM : Hid (st + pre.length = m) := hm
        clear hm
        have R6 := fun v v' => (T4.res.other (B' := w1.heap.size + 1) (by omega) v).other (B' := w1.heap.size + 1 + 1) (by omega) v'
        have c6 := fun v v' => (R6 v v').cell
        have z6 := fun v v' => (R6 v v').frozen
        have KO : KeepsOthers W W4 := ⟨KU.size, fun k o h _ => (KU.block k (Array.getElem?_eq_some_iff.1 h).1 (fun e => e)).trans h⟩
        have hW0 := T4.below.size
        have hW1 := KU.size
        have bW : Below w.heap.size W W4 := KU.below (by have := HSZ.out; omega) (fun _ _ e => e)
        have e1 : (m : Int) + 1 = ((st + (pre.length + 1) : Nat) : Int) := by have := HM.out; omega
        have e2 : (pre.length : Int) + 1 = ((pre.length + 1 : Nat) : Int) := by omega
        have T5 := T4.next (by omega)
        rw [← e1, ← e2] at T5
        have HT5 := (show Hid _ from T5)
        clear e1 e2 T5
        by_cases hN : (pre.length : Int) + 1 = qn
        · have hNb : ((pre.length : Int) + 1 == qn) = true := by simp [hN]
          clear hN
          gi_wp2
          exact ⟨((KO.trans (KeepsOthers.setCell _ _ _)).trans (KeepsOthers.setCell _ _ _)).trans (KeepsOthers.setCell _ _ _) |>.from _, rfl, .inr ⟨(R6 _ _).set _, ((T4.below.setCell (p := ⟨w1.heap.size + 1, 0, none⟩) (by show w.heap.size ≤ w1.heap.size + 1; omega) _).setCell (p := ⟨w1.heap.size + 1 + 1, 0, none⟩) (by show w.heap.size ≤ w1.heap.size + 1 + 1; omega) _).setCell (p := ⟨w.heap.size + 1, 0, none⟩) (by show w.heap.size ≤ w.heap.size + 1; omega) _⟩⟩
        · have hNb : ((pre.length : Int) + 1 == qn) = false := by simp [hN]
          clear hN
          gi_wp2
          have hl1 : (pre ++ [x]).length = pre.length + 1 := by simp
          refine ⟨((KO.trans (KeepsOthers.setCell _ _ _)).trans (KeepsOthers.setCell _ _ _)).from _, (bW.setCell (p := ⟨w1.heap.size + 1, 0, none⟩) (by show w.heap.size ≤ w1.heap.size + 1; omega) _).setCell (p := ⟨w1.heap.size + 1 + 1, 0, none⟩) (by show w.heap.size ≤ w1.heap.size + 1 + 1; omega) _, ?_, ?_⟩
          · have ex : x = ⟨pre.length, hlt⟩ := Fin.ext HX.out
            rw [hl1, idx_succ hlt, ← ex]
            exact congrArg (· ++ [x]) HP.out
          · rw [hl1]; exact HT5
      · have HX : Hid ((x : Nat) ≠ pre.length) := fun e => hx (by omega)
        have hne : ¬ (i : Int) = ((st + pre.length : Nat) : Int) := by omega
        have hmG : ¬ (s.log.length : Int) ≤ ((st + pre.length : Nat) : Int) := by omega
        clear R RW hKp hf1 hR3 hag T0 B0 bM bF hx hi
        have hge : decide (s.log.length ≤ st + pre.length) = false := decide_eq_false (by omega)
        have hni : ¬ i = st + pre.length := by omega
        have hnb : ((i : Int) != ((st + pre.length : Nat) : Int)) = true := by simp; omega
        generalize hm : st + pre.length = m at c8 hne hmG hge hni hnb ⊢
        generalize ra s.log i = r at ⊢
        gi_wp2
        have hNE : Nonempty (KS W) := ⟨⟨W, Keeps.refl _ W⟩⟩
        have C7 := ks_cell c7
        have C8 := ks_cell c8
        refine wpIn_region_ks (by kernel_rfl) (by kernel_rfl) (by kernel_rfl) ?_
        repeat (go_big_quiet_step (fail))
        refine wpQuiet_nil ?_
        rintro _ ⟨u, rfl⟩
        have KU := u.property
        have T4 := hT.keeps (by omega) KU
        generalize u.val = W4 at *
        clear C7 C8 hNE c6 c7 c8 c9 z6 z8 z9 cop
        have c6 := T4.res.cell
        have z6 := T4.res.frozen
        have KO : KeepsOthers W W4 := ⟨KU.size, fun k o h _ => (KU.block k (Array.getElem?_eq_some_iff.1 h).1 (fun e => e)).trans h⟩
        gi_wp2
        exact ⟨(KO.trans (KeepsOthers.setCell _ _ _)).from _, rfl, .inl ⟨pre, x, rfl, HP.out, HX.out⟩⟩
    case done =>
      rintro D ys W hD rfl ⟨hp, hT⟩ hK
      clear hp
      have c7 := hT.want.cell
      have c8 := hT.at_.cell
      have c6 := hT.res.cell
      have z6 := hT.res.frozen
      have hge : decide (s.log.length ≤ st + (idx (s.log.length - st) (s.log.length - st)).length) = true := by rw [idx_length (Nat.le_refl _)]; exact decide_eq_true (by omega)
      generalize hm : st + (idx (s.log.length - st) (s.log.length - st)).length = m at hge c8
      have HM := (show Hid _ from hm)
      clear hm
      gi_wp2
      have b6 := hT.res.set (.bool true)
      have hB := hT.below.setCell (p := ⟨w.heap.size + 1, 0, none⟩) (by show w.heap.size ≤ w.heap.size + 1; omega) (.bool true)
      have hK' := (KeepsOthers.setCell W ⟨w.heap.size + 1, 0, none⟩ (.bool true)).same D _ hK rfl
      refine ⟨by simp, .inl ⟨_, _, rfl, run_takeDeferred hK', ?_⟩⟩
      have k1 := cell_kept b6.cell (grownBy_putObj' _ D (.deferred none)) (fun r e => by cases e; exact ⟨_, hK', rfl⟩)
      have b9 := hB.trans (belowK_b (w := w) (Nat.le_refl _) _ D _ (.deferred none) (by omega) hK' rfl rfl)
      refine ⟨.bool true, ?_, rfl, b9.os, b9.tape, b9.output, b9.size, fun k hk _ => b9.block k hk⟩
      simp [results, Try.f26, go_sem, k1]
    case stop =>
      rintro D cd pre W hD ⟨k, hk0, hk, rfl⟩ ⟨rfl, h⟩ hK
      rcases h with ⟨p, x, e1, e2, e3⟩ | ⟨hb, hB⟩
      · exfalso
        have := idx_succ (N := s.log.length - st) (k := k - 1) (by omega)
        rw [show k - 1 + 1 = k by omega, e1] at this
        obtain ⟨h1, h2⟩ := List.append_inj' this rfl
        simp only [List.cons.injEq, and_true] at h2
        exact e3 (by rw [h2, h1, idx_length (by omega)])
      · gi_wp2
        refine ⟨by simp, .inl ⟨_, _, rfl, run_takeDeferred hK, ?_⟩⟩
        have k1 := cell_kept hb.cell (grownBy_putObj' _ D (.deferred none)) (fun r e => by cases e; exact ⟨_, hK, rfl⟩)
        have b9 := hB.trans (belowK_b (w := w) (Nat.le_refl _) _ D _ (.deferred none) (by omega) hK rfl rfl)
        refine ⟨.bool true, ?_, rfl, b9.os, b9.tape, b9.output, b9.size, fun k hk _ => b9.block k hk⟩
        simp [results, Try.f26, go_sem, k1]

set_option maxHeartbeats 3200000 in
set_option maxRecDepth 1000000 in
theorem plays_tail {w : World} {mb rb : Nat} {s : Mm} {P : Nat → Prop} (h : PR w mb rb s P) (hg : s.good) (hl : (s.log.length + 1) * 56 ≤ 140737488355328) (q : Oq) (hk : q.kind = 12) :
    Calls Try.prog 15 #[.pointer (some ⟨mb, 0, none⟩), .pointer (some ⟨rb, 0, none⟩), .agg #[.int .i64 q.kind, .int .i64 q.c, .int .i64 q.n, .int .i64 q.x, .int .i64 q.y, .bool q.other]] w fun e w' =>
      e = .returned (.bool true) ∧ ∃ s' P', s'.good ∧ s'.log.length ≤ s.log.length + 1 ∧ PR w' mb rb s' P' ∧ LeftP w w' P P' := by
  obtain ⟨qk, qc, qn, qx, qy, qo⟩ := q
  obtain rfl : qk = 12 := hk
  simp only
  have H : Hid (PR w mb rb s P) := h
  have K : ∀ o, Keeps (fun _ => False) w (w.alloc o) := fun o => (Keeps.refl _ w).alloc o
  have m1 := fun o => callsIn_wide.1 (told_in (h.new (K o)) hl ⟨12, qc, qn, qx, qy, qo⟩)
  simp only at m1
  clear h
  go_enter Try.func15, Try.ntmps15
  go_wp2_with ((go_at_call 26; refine (m1 _).mono ?_; clear m1; rintro e w1 ⟨rfl, k1⟩))
  go_ret
  exact ⟨rfl, s, P, hg, Nat.le_succ _, H.out.new ((K _).trans k1), LeftP.new ((K _).trans k1)⟩
end Go.Proofs.Ytkkldbellngalaa
