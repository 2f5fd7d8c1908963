import Derived.Test.YthmoimilhbmagabDrawsNew
namespace Go.Proofs.Ythmoimilhbmagab
open Go.RowKit

/-- The other stream's numbers. -/
def oth (i : Nat) : Int := if i = 0 then 3 else if i = 1 then 1 else if i = 2 then 4 else if i = 3 then 1 else 5

/-- What the law's memory holds, N the first block of its own: the other numbers, the two streams, the three little arrays. -/
structure St (w : World) (N len : Nat) (x : Nat → Int) (a0 a1 k0 k1 : Nat) (wr : World) : Prop where
  size : wr.heap.size = N + 8
  below : Below N w wr
  s0 : IsDr wr (N + 2) (N + 1) len x k0
  s1 : IsDr wr (N + 4) (N + 3) 5 oth k1
  d0 : wr.cell? ⟨N + 5, 0, none⟩ = some (.pointer (some ⟨N + 2, 0, none⟩))
  d1 : wr.cell? ⟨N + 5, 1, none⟩ = some (.pointer (some ⟨N + 4, 0, none⟩))
  t0 : wr.cell? ⟨N + 6, 0, none⟩ = some (.int .i64 (a0 : Int))
  t1 : wr.cell? ⟨N + 6, 1, none⟩ = some (.int .i64 (a1 : Int))
  f0 : wr.frozen? ⟨N + 6, 0, none⟩ = false
  f1 : wr.frozen? ⟨N + 6, 1, none⟩ = false
  z0 : wr.cell? ⟨N + 7, 0, none⟩ = some (.int .i64 (len : Int))
  z1 : wr.cell? ⟨N + 7, 1, none⟩ = some (.int .i64 5)
  other : ∀ i, i < 5 → wr.cell? ⟨N, i, none⟩ = some (.int .i64 (oth i))

theorem IsDr.drewN {w : World} {b r n k : Nat} {x : Nat → Int} (h : IsDr w b r n x k) (m : Nat) : IsDr (w.drewN m) b r n x k := ⟨h.row, h.taken, h.free, h.nums, h.le, h.small⟩
theorem below_drewN {B : Nat} {w wr : World} (h : Below B w wr) (m : Nat) : Below B w (wr.drewN m) := ⟨h.os, h.tape, h.output, h.size, h.block⟩
theorem St.drewN {w wr : World} {N len a0 a1 k0 k1 : Nat} {x : Nat → Int} (h : St w N len x a0 a1 k0 k1 wr) (m : Nat) : St w N len x a0 a1 k0 k1 (wr.drewN m) :=
  ⟨h.size, below_drewN h.below m, h.s0.drewN m, h.s1.drewN m, h.d0, h.d1, h.t0, h.t1, h.f0, h.f1, h.z0, h.z1, h.other⟩
theorem St.drew {w wr : World} {N len a0 a1 k0 k1 : Nat} {x : Nat → Int} (h : St w N len x a0 a1 k0 k1 wr) : St w N len x a0 a1 k0 k1 wr.drew :=
  ⟨h.size, ⟨h.below.os, h.below.tape, h.below.output, h.below.size, h.below.block⟩, ⟨h.s0.row, h.s0.taken, h.s0.free, h.s0.nums, h.s0.le, h.s0.small⟩, ⟨h.s1.row, h.s1.taken, h.s1.free, h.s1.nums, h.s1.le, h.s1.small⟩, h.d0, h.d1, h.t0, h.t1, h.f0, h.f1, h.z0, h.z1, h.other⟩
theorem other_cell (w : World) (p q : Addr) (v : Value) (h : p ≠ q) : (w.setCell p v).cell? q = w.cell? q := World.cell?_setCell_other _ _ _ _ h
theorem newDraws_ex {w : World} {a : Option Addr} {len cap : Nat} {x : Nat → Int} (h : IsRaw w a len x) (hl : len ≤ 17592186044416) (n : Nat) (hn : w.heap.size = n) :
    Calls Try.prog 8 #[.slice a len cap] w fun e w' => ∃ b, e = .returned (.pointer (some ⟨b, 0, none⟩)) ∧ b = n + 1 ∧ w'.heap.size = n + 2 ∧ IsDr w' (n + 1) n len x 0 ∧ Below n w w' := by
  subst hn
  refine (newDraws_any h hl).mono ?_
  rintro e w' ⟨rfl, h1, h2, h3⟩
  exact ⟨_, rfl, rfl, h1, h2, h3⟩
theorem IsDr.keep {w w' : World} {b r n k B : Nat} {x : Nat → Int} (h : IsDr w b r n x k) (hb : Below B w w') (h1 : b < B) (h2 : r < B) : IsDr w' b r n x k :=
  ⟨by rw [hb.cell (p := ⟨b, 0, none⟩) h1]; exact h.row, by rw [hb.cell (p := ⟨b, 1, none⟩) h1]; exact h.taken, by rw [hb.frozen (p := ⟨b, 1, none⟩) h1]; exact h.free, fun i hi => by rw [hb.cell (p := ⟨r, i, none⟩) h2]; exact h.nums i hi, h.le, h.small⟩
theorem St.start {w w2 : World} {N len : Nat} {x : Nat → Int} (ta tb : TypeId) (hsz : w2.heap.size = N + 5) (hb : Below N w w2) (s0 : IsDr w2 (N + 2) (N + 1) len x 0) (s1 : IsDr w2 (N + 4) (N + 3) 5 oth 0) (ho : ∀ i, i < 5 → w2.cell? ⟨N, i, none⟩ = some (.int .i64 (oth i))) :
    St w N len x 0 0 0 0 (((w2.alloc (.cells #[.pointer (some ⟨N + 2, 0, none⟩), .pointer (some ⟨N + 4, 0, none⟩)] ta)).alloc (.cells #[.int .i64 0, .int .i64 0] tb)).alloc (.cells #[.int .i64 (len : Int), .int .i64 5] tb)) := by
  generalize hA : w2.alloc (.cells #[.pointer (some ⟨N + 2, 0, none⟩), .pointer (some ⟨N + 4, 0, none⟩)] ta) = wA
  have szA : wA.heap.size = N + 6 := by rw [← hA]; show (w2.heap.push _).size = _; simp [hsz]
  have kA : Below (N + 5) w2 wA := by rw [← hA]; exact (Below.refl _ _).alloc (by omega) _
  have cA : ∀ i, wA.cell? ⟨N + 5, i, none⟩ = #[Value.pointer (some ⟨N + 2, 0, none⟩), .pointer (some ⟨N + 4, 0, none⟩)][i]? := fun i => by rw [← hA, ← hsz]; exact alloc_cell w2 _ _ i
  generalize hB : wA.alloc (.cells #[.int .i64 0, .int .i64 0] tb) = wB
  have szB : wB.heap.size = N + 7 := by rw [← hB]; show (wA.heap.push _).size = _; simp [szA]
  have kB : Below (N + 6) wA wB := by rw [← hB]; exact (Below.refl _ _).alloc (by omega) _
  have cB : ∀ i, wB.cell? ⟨N + 6, i, none⟩ = #[Value.int .i64 0, .int .i64 0][i]? := fun i => by rw [← hB, ← szA]; exact alloc_cell wA _ _ i
  have fB : ∀ i, wB.frozen? ⟨N + 6, i, none⟩ = false := fun i => by rw [← hB, ← szA]; exact alloc_free wA _ _ i
  generalize hC : wB.alloc (.cells #[.int .i64 (len : Int), .int .i64 5] tb) = wC
  have szC : wC.heap.size = N + 8 := by rw [← hC]; show (wB.heap.push _).size = _; simp [szB]
  have kC : Below (N + 7) wB wC := by rw [← hC]; exact (Below.refl _ _).alloc (by omega) _
  have cC : ∀ i, wC.cell? ⟨N + 7, i, none⟩ = #[Value.int .i64 (len : Int), .int .i64 5][i]? := fun i => by rw [← hC, ← szB]; exact alloc_cell wB _ _ i
  have kAC : Below (N + 5) w2 wC := (kA.trans (kB.mono (by omega))).trans (kC.mono (by omega))
  have kBC : Below (N + 6) wA wC := kB.trans (kC.mono (by omega))
  exact ⟨szC, hb.trans (kAC.mono (by omega)), s0.keep kAC (by omega) (by omega), s1.keep kAC (by omega) (by omega),
    by rw [kBC.cell (p := ⟨N + 5, 0, none⟩) (by simp), cA]; rfl, by rw [kBC.cell (p := ⟨N + 5, 1, none⟩) (by simp), cA]; rfl,
    by rw [kC.cell (p := ⟨N + 6, 0, none⟩) (by simp), cB]; rfl, by rw [kC.cell (p := ⟨N + 6, 1, none⟩) (by simp), cB]; rfl,
    by rw [kC.frozen (p := ⟨N + 6, 0, none⟩) (by simp), fB], by rw [kC.frozen (p := ⟨N + 6, 1, none⟩) (by simp), fB], by rw [cC]; rfl, by rw [cC]; rfl,
    fun i hi => by rw [kAC.cell (p := ⟨N, i, none⟩) (by simp)]; exact ho i hi⟩
theorem ne_block {p q : Addr} (h : p.block ≠ q.block) : p ≠ q := fun e => h (by rw [e])
theorem IsDr.aside {w : World} {b r n k : Nat} {x : Nat → Int} (h : IsDr w b r n x k) (p : Addr) (v : Value) (hb : p.block ≠ b) (hr : p.block ≠ r) : IsDr (w.setCell p v) b r n x k :=
  ⟨by rw [other_cell _ _ _ _ (ne_block hb)]; exact h.row, by rw [other_cell _ _ _ _ (ne_block hb)]; exact h.taken, by rw [World.frozen?_setCell]; exact h.free, fun i hi => by rw [other_cell _ _ _ _ (ne_block hr)]; exact h.nums i hi, h.le, h.small⟩
theorem IsDr.take {w : World} {b r n k : Nat} {x : Nat → Int} (h : IsDr w b r n x k) (hk : k < n) (hbr : b ≠ r) : IsDr (w.setCell ⟨b, 1, none⟩ (.int .i64 ((k : Int) + 1))) b r n x (k + 1) :=
  ⟨by rw [other_cell _ _ _ _ (by intro e; cases e)]; exact h.row, by rw [World.cell?_setCell_same _ _ _ h.taken]; rfl, by rw [World.frozen?_setCell]; exact h.free, fun i hi => by rw [other_cell _ _ _ _ (ne_block hbr)]; exact h.nums i hi, hk, h.small⟩
theorem St.take0 {w wr : World} {N len a0 a1 k0 k1 : Nat} {x : Nat → Int} (h : St w N len x a0 a1 k0 k1 wr) (hk : k0 < len) : St w N len x a0 a1 (k0 + 1) k1 (wr.setCell ⟨N + 2, 1, none⟩ (.int .i64 ((k0 : Int) + 1))) :=
  have ne : ∀ (b o : Nat), b ≠ N + 2 → (wr.setCell ⟨N + 2, 1, none⟩ (.int .i64 ((k0 : Int) + 1))).cell? ⟨b, o, none⟩ = wr.cell? ⟨b, o, none⟩ := fun b o hb => other_cell _ _ _ _ (ne_block (by simpa using fun e => hb e.symm))
  ⟨by simpa [World.setCell] using h.size, h.below.setCell (by simp) _, h.s0.take hk (by omega), h.s1.aside _ _ (by simp) (by simp), by rw [ne _ _ (by omega)]; exact h.d0, by rw [ne _ _ (by omega)]; exact h.d1, by rw [ne _ _ (by omega)]; exact h.t0, by rw [ne _ _ (by omega)]; exact h.t1,
    by rw [World.frozen?_setCell]; exact h.f0, by rw [World.frozen?_setCell]; exact h.f1, by rw [ne _ _ (by omega)]; exact h.z0, by rw [ne _ _ (by omega)]; exact h.z1, fun i hi => by rw [ne _ _ (by omega)]; exact h.other i hi⟩
theorem St.take1 {w wr : World} {N len a0 a1 k0 k1 : Nat} {x : Nat → Int} (h : St w N len x a0 a1 k0 k1 wr) (hk : k1 < 5) : St w N len x a0 a1 k0 (k1 + 1) (wr.setCell ⟨N + 4, 1, none⟩ (.int .i64 ((k1 : Int) + 1))) :=
  have ne : ∀ (b o : Nat), b ≠ N + 4 → (wr.setCell ⟨N + 4, 1, none⟩ (.int .i64 ((k1 : Int) + 1))).cell? ⟨b, o, none⟩ = wr.cell? ⟨b, o, none⟩ := fun b o hb => other_cell _ _ _ _ (ne_block (by simpa using fun e => hb e.symm))
  ⟨by simpa [World.setCell] using h.size, h.below.setCell (by simp) _, h.s0.aside _ _ (by simp) (by simp), h.s1.take hk (by omega), by rw [ne _ _ (by omega)]; exact h.d0, by rw [ne _ _ (by omega)]; exact h.d1, by rw [ne _ _ (by omega)]; exact h.t0, by rw [ne _ _ (by omega)]; exact h.t1,
    by rw [World.frozen?_setCell]; exact h.f0, by rw [World.frozen?_setCell]; exact h.f1, by rw [ne _ _ (by omega)]; exact h.z0, by rw [ne _ _ (by omega)]; exact h.z1, fun i hi => by rw [ne _ _ (by omega)]; exact h.other i hi⟩
theorem St.at0 {w wr : World} {N len a0 a1 k0 k1 : Nat} {x : Nat → Int} (h : St w N len x a0 a1 k0 k1 wr) : St w N len x (a0 + 1) a1 k0 k1 (wr.setCell ⟨N + 6, 0, none⟩ (.int .i64 ((a0 : Int) + 1))) :=
  have ne : ∀ (b o : Nat), b ≠ N + 6 → (wr.setCell ⟨N + 6, 0, none⟩ (.int .i64 ((a0 : Int) + 1))).cell? ⟨b, o, none⟩ = wr.cell? ⟨b, o, none⟩ := fun b o hb => other_cell _ _ _ _ (ne_block (by simpa using fun e => hb e.symm))
  ⟨by simpa [World.setCell] using h.size, h.below.setCell (by simp) _, h.s0.aside _ _ (by simp) (by simp), h.s1.aside _ _ (by simp) (by simp), by rw [ne _ _ (by omega)]; exact h.d0, by rw [ne _ _ (by omega)]; exact h.d1, by rw [World.cell?_setCell_same _ _ _ h.t0]; rfl, by rw [other_cell _ _ _ _ (by intro e; cases e)]; exact h.t1,
    by rw [World.frozen?_setCell]; exact h.f0, by rw [World.frozen?_setCell]; exact h.f1, by rw [ne _ _ (by omega)]; exact h.z0, by rw [ne _ _ (by omega)]; exact h.z1, fun i hi => by rw [ne _ _ (by omega)]; exact h.other i hi⟩
theorem St.at1 {w wr : World} {N len a0 a1 k0 k1 : Nat} {x : Nat → Int} (h : St w N len x a0 a1 k0 k1 wr) : St w N len x a0 (a1 + 1) k0 k1 (wr.setCell ⟨N + 6, 1, none⟩ (.int .i64 ((a1 : Int) + 1))) :=
  have ne : ∀ (b o : Nat), b ≠ N + 6 → (wr.setCell ⟨N + 6, 1, none⟩ (.int .i64 ((a1 : Int) + 1))).cell? ⟨b, o, none⟩ = wr.cell? ⟨b, o, none⟩ := fun b o hb => other_cell _ _ _ _ (ne_block (by simpa using fun e => hb e.symm))
  ⟨by simpa [World.setCell] using h.size, h.below.setCell (by simp) _, h.s0.aside _ _ (by simp) (by simp), h.s1.aside _ _ (by simp) (by simp), by rw [ne _ _ (by omega)]; exact h.d0, by rw [ne _ _ (by omega)]; exact h.d1, by rw [other_cell _ _ _ _ (by intro e; cases e)]; exact h.t0, by rw [World.cell?_setCell_same _ _ _ h.t1]; rfl,
    by rw [World.frozen?_setCell]; exact h.f0, by rw [World.frozen?_setCell]; exact h.f1, by rw [ne _ _ (by omega)]; exact h.z0, by rw [ne _ _ (by omega)]; exact h.z1, fun i hi => by rw [ne _ _ (by omega)]; exact h.other i hi⟩
end Go.Proofs.Ythmoimilhbmagab
