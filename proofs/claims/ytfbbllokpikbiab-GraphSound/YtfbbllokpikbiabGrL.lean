import Derived.Test.YtfbbllokpikbiabGrK
namespace Go.Proofs.Ytfbbllokpikbiab
open Go.RowKit
attribute [local go_sem] Oper.semAt_some run_store_nf run_store_f
/-- Where oneByOne's variables lie. -/
structure OV where
  mb : Nat
  lo : Nat
  hi : Nat
  A : Nat
  pa : Nat
  pr : Nat
  qb : Nat
/-- A block that is none of those. -/
def OV.away (o : OV) (k : Nat) : Prop := k ≠ o.A ∧ k ≠ o.pa ∧ k ≠ o.pr ∧ ¬ (o.lo ≤ k ∧ k < o.hi)
/-- oneByOne's state. -/
structure OS (w0 W : World) (g : List Eg) (n : Nat) (o : OV) (xs : List It) (F : List Nat) (cf : Nat → Nat) (v : Value) (L : List Nat) : Prop where
  l : LR W o.lo o.hi o.mb g
  a : FB W o.A n (nms cf)
  pa : CL W o.pa [.slice (some ⟨o.A, 0, none⟩) n n]
  pr : CL W o.pr [.pointer (some ⟨o.qb, 0, none⟩)]
  q : QI W o.qb xs F
  dF : ∀ k ∈ F, o.away k
  d1 : o.A ≠ o.pa ∧ o.A ≠ o.pr ∧ o.pa ≠ o.pr
  d2 : ¬ (o.lo ≤ o.A ∧ o.A < o.hi) ∧ ¬ (o.lo ≤ o.pa ∧ o.pa < o.hi) ∧ ¬ (o.lo ≤ o.pr ∧ o.pr < o.hi)
  sA : o.A < W.heap.size
  r : W.ownsRow w0.heap.size 3 1 v L.length (pvs L)
  dv : ∀ b, v.ownBlock = some b → o.away b ∧ b ∉ F
  g0 : w0.heap.size ≤ o.A ∧ w0.heap.size ≤ o.pa ∧ w0.heap.size ≤ o.pr ∧ ∀ k ∈ F, w0.heap.size ≤ k
  k : Keeps (fun _ => False) w0 W
section
variable {w0 W : World} {g : List Eg} {n : Nat} {o : OV} {xs : List It} {F : List Nat} {cf : Nat → Nat} {v : Value} {L : List Nat}
theorem OS.keep (h : OS w0 W g n o xs F cf v L) {W' : World} (k : Keeps (fun _ => False) W W') : OS w0 W' g n o xs F cf v L :=
  ⟨h.l.keep k (fun _ _ _ e => e), h.a.keep k (fun e => e), h.pa.stays k (fun e => e), h.pr.stays k (fun e => e), h.q.keep k (fun _ _ e => e), h.dF, h.d1, h.d2, Nat.lt_of_lt_of_le h.sA k.size, k.owns h.r (fun _ _ e => e), h.dv, h.g0, h.k.trans k⟩
theorem OS.put (h : OS w0 W g n o xs F cf v L) {W' : World} {cf' : Nat → Nat} (ha : FB W' o.A n (nms cf')) (k : Keeps (fun i => i = o.A) W W') : OS w0 W' g n o xs F cf' v L :=
  ⟨h.l.keep k (fun b h1 h2 e => by have e : b = o.A := e; exact h.d2.1 ⟨e ▸ h1, e ▸ h2⟩), ha, h.pa.stays k (fun e => h.d1.1 (Eq.symm e)), h.pr.stays k (fun e => h.d1.2.1 (Eq.symm e)), h.q.keep k (fun b hb e => (h.dF b hb).1 e), h.dF, h.d1, h.d2, Nat.lt_of_lt_of_le h.sA k.size, k.owns h.r (fun b hb e => (h.dv b hb).1.1 e), h.dv, h.g0,
   h.k.trans' k (fun _ _ e => e) (fun i hi e => by have e : i = o.A := e; have := h.g0.1; omega)⟩
theorem OS.lt (h : OS w0 W g n o xs F cf v L) : o.pa < W.heap.size ∧ o.pr < W.heap.size := ⟨h.pa.lt (by show 0 < 1; decide), h.pr.lt (by show 0 < 1; decide)⟩
theorem OS.queue (h : OS w0 W g n o xs F cf v L) {W' : World} {ys : List It} {F' : List Nat} (hq : QI W' o.qb ys F') (k : Left W W' F F') : OS w0 W' g n o ys F' cf v L := by
  have hz := h.lt
  have hs := h.l.s
  have nA : o.A ∉ F := fun e => (h.dF _ e).1 rfl
  have np : o.pa ∉ F := fun e => (h.dF _ e).2.1 rfl
  have nr : o.pr ∉ F := fun e => (h.dF _ e).2.2.1 rfl
  have sA := h.sA
  refine ⟨h.l.keep k.keeps (fun b h1 h2 e => (h.dF b e).2.2.2 ⟨h1, h2⟩), h.a.keep k.keeps nA, h.pa.stays k.keeps np, h.pr.stays k.keeps nr, hq, fun b hb => ?_, h.d1, h.d2, Nat.lt_of_lt_of_le h.sA k.keeps.size, k.keeps.owns h.r (fun b hb e => (h.dv b hb).2 e), fun b hb => ⟨(h.dv b hb).1, fun e => ?_⟩, ⟨h.g0.1, h.g0.2.1, h.g0.2.2.1, fun b hb => ?_⟩,
   h.k.trans' k.keeps (fun _ _ e => e) (fun i hi e => by have := h.g0.2.2.2 i e; omega)⟩
  · rcases k.old b hb with e | e
    · exact h.dF b e
    · exact ⟨by omega, by omega, by omega, fun q => by omega⟩
  · rcases k.old b e with e | e
    · exact (h.dv b hb).2 e
    · have := owns_lt' h.r b hb
      omega
  · rcases k.old b hb with e | e
    · exact h.g0.2.2.2 b e
    · have := h.k.size
      omega
theorem OS.row (h : OS w0 W g n o xs F cf v L) {W' : World} {v' : Value} {L' : List Nat} (hr : W'.ownsRow w0.heap.size 3 1 v' L'.length (pvs L')) (k : Keeps (fun i => v.ownBlock = some i) W W') (hb : v'.ownBlock = v.ownBlock ∨ v'.ownBlock = some (W.heap.size + 1)) : OS w0 W' g n o xs F cf v' L' := by
  have hz := h.lt
  have hs := h.l.s
  have sA := h.sA
  refine ⟨h.l.keep k (fun b h1 h2 e => (h.dv b e).1.2.2.2 ⟨h1, h2⟩), h.a.keep k (fun e => (h.dv _ e).1.1 rfl), h.pa.stays k (fun e => (h.dv _ e).1.2.1 rfl), h.pr.stays k (fun e => (h.dv _ e).1.2.2.1 rfl), h.q.keep k (fun b hb e => (h.dv b e).2 hb), h.dF, h.d1, h.d2, Nat.lt_of_lt_of_le h.sA k.size, hr, fun b e => ?_, h.g0,
    h.k.trans' k (fun _ _ e => e) (fun i hi e => by have := owns_baseT h.r i e; omega)⟩
  rcases hb with q | q
  · rw [q] at e
    exact h.dv b e
  · rw [q] at e
    injection e with e
    refine ⟨⟨by omega, by omega, by omega, fun q => by omega⟩, fun q => ?_⟩
    have := h.q.lt b q
    omega
end
theorem nms_up {d : Nat → Nat} {x k : Nat} : ∀ i, upV (nms d) x (.int .i64 (k : Int)) i = nms (upD d x k) i := fun i => by unfold upV nms upD; split <;> rfl
set_option maxHeartbeats 600000 in
set_option maxRecDepth 100000 in
theorem comes_no {w0 w : World} {g : List Eg} {n : Nat} {o : OV} {xs : List It} {F : List Nat} {cf : Nat → Nat} {v : Value} {L : List Nat} (h : OS w0 w g n o xs F cf v L) {x : Nat} (hx : x < n) (hc : cf x ≠ 0) : Calls Try.prog 42 #[.int .i64 (x : Int), .pointer (some ⟨o.pa, 0, none⟩), .pointer (some ⟨o.pr, 0, none⟩)] w fun e w' => e = .returned (.tuple #[]) ∧ Keeps (fun _ => False) w w' := by
  have c0 := h.pa.c 0 _ rfl
  have y0 : w.cell? ⟨o.A, x, none⟩ = some (.int .i64 (cf x : Int)) := h.a.c x hx
  have s1 : ((cf x : Int) == 0) = false := by rw [beq_eq_false_iff_ne]; omega
  have s2 : (cf x == 0) = false := by rw [beq_eq_false_iff_ne]; exact hc
  have j1 : (0 : Int) ≤ (x : Int) := by omega
  have j2 : (x : Int) < (n : Int) := by omega
  obtain ⟨mb, lo, hi, A, pa, pr, qb⟩ := o
  dsimp only at c0 y0 ⊢
  clear h hc
  generalize cf x = y at *
  go_enter Try.func42, Try.ntmps42
  go_wp2_with fail
  go_end0
  exact ⟨rfl, Keeps.refl _ _⟩
set_option maxHeartbeats 600000 in
set_option maxRecDepth 100000 in
theorem comes_yes {w0 w : World} {g : List Eg} {n : Nat} {o : OV} {xs : List It} {F : List Nat} {cf : Nat → Nat} {v : Value} {L : List Nat} (h : OS w0 w g n o xs F cf v L) {x : Nat} (hx : x < n) (hn : n ≤ 4096) (hc : cf x = 0) (hno : ((x : Nat) : Int) ∉ ids xs) (hl : xs.length < 4096) : Calls Try.prog 42 #[.int .i64 (x : Int), .pointer (some ⟨o.pa, 0, none⟩), .pointer (some ⟨o.pr, 0, none⟩)] w fun e w' => e = .returned (.tuple #[]) ∧ ∃ ys F', OS w0 w' g n o ys F' cf v L ∧ ys.Perm (xs ++ [((x : Int), (x : Int))]) ∧ Left w w' F F' := by
  have c0 := h.pa.c 0 _ rfl
  have c1 := h.pr.c 0 _ rfl
  have y0 : w.cell? ⟨o.A, x, none⟩ = some (.int .i64 0) := by have := h.a.c x hx; unfold nms at this; rw [hc] at this; exact this
  have j1 : (0 : Int) ≤ (x : Int) := by omega
  have j2 : (x : Int) < (n : Int) := by omega
  have hx64 : I64 (x : Int) := ⟨by omega, by omega⟩
  have had := add_new h.q ((x : Int), (x : Int)) ⟨hx64, hx64⟩ hno hl
  have HQ : Hid (∀ w' ys F', QI w' o.qb ys F' → Left w w' F F' → OS w0 w' g n o ys F' cf v L) := fun w' ys F' h1 h2 => h.queue h1 h2
  clear h hc hno hl hx64
  go_enter Try.func42, Try.ntmps42
  go_wp2_with (go_at_call 43; refine had.mono ?_; clear had; rintro e w1 ⟨rfl, ys, F', hq, hp, hL⟩)
  go_end0
  exact ⟨rfl, ys, F', HQ.out _ _ _ hq hL, hp, hL⟩
end Go.Proofs.Ytfbbllokpikbiab
