import Derived.WalkKit
import Derived.ProofKit
import Derived.Test.YtgjndhbfjofkeaaGreatDoorRows
import Derived.Deep.AppendLies
import Derived.Deep.RegionHeld3
import Derived.Deep.RegionLaw
import Derived.Deep.LoopGhost
import Derived.BigRegion
import Derived.BigQuiet
import Derived.Below
import Derived.Recover
import Derived.Laws.NewBlocks
import Derived.Deep.MidRow
import Derived.Deep.RegionHeld
namespace Go.Proofs.YtgjndhbfjofkeaaGreatDoor
open Go.RowKit
def I64 (a : Int) : Prop := -9223372036854775808 ≤ a ∧ a ≤ 9223372036854775807
theorem wf_of_i64 {a : Int} (h : I64 a) : (Lit.int .i64 a).wf = true := by
  unfold I64 at h
  simp [Lit.wf, IntKind.min, IntKind.max, IntKind.signed, IntKind.bits]
  omega
structure Keeps (S : Nat → Prop) (w w' : World) : Prop where
  os : w'.os = w.os
  tape : w'.tape = w.tape
  output : w'.output = w.output
  size : w.heap.size ≤ w'.heap.size
  block : ∀ k, k < w.heap.size → ¬ S k → w'.heap[k]? = w.heap[k]?
theorem Keeps.refl (S : Nat → Prop) (w : World) : Keeps S w w := ⟨rfl, rfl, rfl, Nat.le_refl _, fun _ _ _ => rfl⟩
theorem Keeps.trans {S : Nat → Prop} {a b c : World} (h : Keeps S a b) (k : Keeps S b c) : Keeps S a c :=
  ⟨k.os.trans h.os, k.tape.trans h.tape, k.output.trans h.output, Nat.le_trans h.size k.size, fun i hi hs => (k.block i (Nat.lt_of_lt_of_le hi h.size) hs).trans (h.block i hi hs)⟩
theorem Keeps.trans' {S T U : Nat → Prop} {a b c : World} (h : Keeps S a b) (k : Keeps T b c) (hS : ∀ i, i < a.heap.size → S i → U i) (hT : ∀ i, i < a.heap.size → T i → U i) : Keeps U a c :=
  ⟨k.os.trans h.os, k.tape.trans h.tape, k.output.trans h.output, Nat.le_trans h.size k.size, fun i hi hs => (k.block i (Nat.lt_of_lt_of_le hi h.size) (fun t => hs (hT i hi t))).trans (h.block i hi (fun t => hs (hS i hi t)))⟩
theorem Keeps.mono {S T : Nat → Prop} {a b : World} (h : Keeps S a b) (hS : ∀ i, i < a.heap.size → S i → T i) : Keeps T a b :=
  ⟨h.os, h.tape, h.output, h.size, fun i hi hs => h.block i hi (fun t => hs (hS i hi t))⟩
theorem Keeps.alloc {S : Nat → Prop} {a b : World} (h : Keeps S a b) (o : Obj) : Keeps S a (b.alloc o) :=
  ⟨h.os, h.tape, h.output, Nat.le_trans h.size (by simp), fun i hi hs => (Below.heap_alloc b o i (Nat.lt_of_lt_of_le hi h.size)).trans (h.block i hi hs)⟩
theorem Keeps.drew {S : Nat → Prop} {a b : World} (h : Keeps S a b) : Keeps S a b.drew := ⟨h.os, h.tape, h.output, h.size, h.block⟩
theorem Keeps.drewN {S : Nat → Prop} {a b : World} (h : Keeps S a b) (n : Nat) : Keeps S a (b.drewN n) := ⟨h.os, h.tape, h.output, h.size, h.block⟩
theorem Keeps.grown {S : Nat → Prop} {a b c : World} {row : Option Nat} (h : Keeps S a b) (k : b.grownBy c row) (hr : ∀ i, i < a.heap.size → row = some i → S i) : Keeps S a c :=
  ⟨k.os.trans h.os, k.tape.trans h.tape, k.output.trans h.output, Nat.le_trans h.size k.size, fun i hi hs => (k.block i (Nat.lt_of_lt_of_le hi h.size) (fun e => hs (hr i hi e.symm))).trans (h.block i hi hs)⟩
theorem Keeps.setCell {S : Nat → Prop} {a b : World} (h : Keeps S a b) {p : Addr} (hp : p.block < a.heap.size → S p.block) (u : Value) : Keeps S a (b.setCell p u) :=
  ⟨h.os, h.tape, h.output, by simpa using h.size, fun i hi hs => (Below.heap_setCell b p u i (fun e => hs (e ▸ hp (e ▸ hi)))).trans (h.block i hi hs)⟩
theorem Keeps.below {S : Nat → Prop} {a b : World} (h : Keeps S a b) {B : Nat} (hB : B ≤ a.heap.size) (hS : ∀ i, i < B → ¬ S i) : Below B a b :=
  ⟨h.os, h.tape, h.output, h.size, fun i hi => h.block i (Nat.lt_of_lt_of_le hi hB) (hS i hi)⟩
theorem Keeps.cell {S : Nat → Prop} {a b : World} (h : Keeps S a b) {p : Addr} {v : Value} (hc : a.cell? p = some v) (hS : ¬ S p.block) : b.cell? p = some v :=
  (World.cell?_of_block (h.block p.block (World.block_lt_of_cell? a p hc) hS)).trans hc
theorem Keeps.frozen {S : Nat → Prop} {a b : World} (h : Keeps S a b) {p : Addr} (hl : p.block < a.heap.size) (hS : ¬ S p.block) : b.frozen? p = a.frozen? p :=
  World.frozen?_of_block (h.block p.block hl hS)
theorem owns_lt' {w : World} {base : Nat} {e : TypeId} {size : Nat} {v : Value} {n : Nat} {xs : List Value} (h : w.ownsRow base e size v n xs) (k : Nat) (hk : v.ownBlock = some k) : k < w.heap.size := by
  rcases h.2 with ⟨rfl, _⟩ | ⟨g, cap, cur, rfl, hb, hg, rest⟩
  · cases hk
  · cases hk
    rcases Nat.lt_or_ge g w.heap.size with hlt | hge
    · exact hlt
    · rw [Array.getElem?_eq_none hge] at hg; cases hg
theorem owns_same {w w' : World} {base : Nat} {e : TypeId} {size : Nat} {v : Value} {n : Nat} {xs : List Value} (h : w.ownsRow base e size v n xs) (hk : ∀ g, v.ownBlock = some g → w'.heap[g]? = w.heap[g]?) : w'.ownsRow base e size v n xs := by
  refine ⟨h.1, ?_⟩
  rcases h.2 with h0 | ⟨g, cap, cur, rfl, hb, hg, rest⟩
  · exact .inl h0
  · exact .inr ⟨g, cap, cur, rfl, hb, (hk g rfl).trans hg, rest⟩
theorem Keeps.owns {S : Nat → Prop} {a b : World} (h : Keeps S a b) {base : Nat} {e : TypeId} {size : Nat} {v : Value} {n : Nat} {xs : List Value} (ho : a.ownsRow base e size v n xs) (hS : ∀ g, v.ownBlock = some g → ¬ S g) : b.ownsRow base e size v n xs :=
  owns_same ho (fun g hg => h.block g (owns_lt' ho g hg) (hS g hg))
structure Left (w w' : World) (F F' : List Nat) : Prop where
  keeps : Keeps (fun k => k ∈ F) w w'
  old : ∀ k ∈ F', k ∈ F ∨ w.heap.size ≤ k
theorem Left.refl (w : World) (F : List Nat) : Left w w F F := ⟨Keeps.refl _ w, fun _ h => .inl h⟩
theorem Left.trans {w w' w'' : World} {F F' F'' : List Nat} (h : Left w w' F F') (k : Left w' w'' F' F'') : Left w w'' F F'' :=
  ⟨h.keeps.trans' k.keeps (fun _ _ e => e) (fun i hi e => (h.old i e).elim id (fun e' => by omega)),
   fun i hi => (k.old i hi).elim (h.old i) (fun e => .inr (by have := h.keeps.size; omega))⟩
theorem Left.new {w w' : World} {F : List Nat} (h : Keeps (fun _ => False) w w') : Left w w' F F := ⟨h.mono (fun _ _ e => e.elim), fun _ h => .inl h⟩
structure KS (w : World) where
  val : World
  property : Keeps (fun _ => False) w val
theorem wp_region_ks {P : Program} {id : Nat} {Q : Exit → Act → World → Prop} {a : Act} {w : World} {l : List Oper} (hm : P.follows .mixedOrders = true) (hB : Region.lexB .any l.toArray = true)
    (h : wpQuiet P l.toArray (fun w' => ∃ u : KS w, w' = u.1) (fun a' => ∀ w', (∃ u : KS w, w' = u.1) → Q .normal a' w') l a) : (Code.region id l.toArray true).wp P Q a w :=
  wp_region_quiet (C := fun w' => ∃ u : KS w, w' = u.1) hm hB ⟨⟨_, (Keeps.refl _ w).drew⟩, rfl⟩ (by simpa using h)
theorem ks_cell {w : World} {p : Addr} {v : Value} (h : w.cell? p = some v) : ∀ u : KS w, u.1.cell? p = some v := fun u => u.2.cell h (fun e => e)
end Go.Proofs.YtgjndhbfjofkeaaGreatDoor

namespace Go.Proofs.YtgjndhbfjofkeaaGreatDoor
open Go.RowKit
def fl {α : Type} (f : α → List Value) (xs : List α) : List Value := xs.flatMap f
section
variable {α : Type} {f : α → List Value} {n : Nat} (hf : ∀ x, (f x).length = n)
include hf
theorem fl_length : ∀ xs : List α, (fl f xs).length = xs.length * n
  | [] => by simp [fl]
  | x :: xs => by
    have := fl_length xs
    have e : fl f (x :: xs) = f x ++ fl f xs := rfl
    rw [e, List.length_append, hf, this, List.length_cons, Nat.succ_mul]; omega
theorem fl_get : ∀ (xs : List α) (i j : Nat), j < n → (fl f xs)[i * n + j]? = (xs[i]?).bind fun x => (f x)[j]?
  | [], i, j, _ => by simp [fl]
  | x :: xs, 0, j, hj => by
    have e : fl f (x :: xs) = f x ++ fl f xs := rfl
    rw [e, List.getElem?_append_left (by rw [hf]; omega)]; simp
  | x :: xs, i + 1, j, hj => by
    have e : fl f (x :: xs) = f x ++ fl f xs := rfl
    rw [e, List.getElem?_append_right (by rw [hf, Nat.succ_mul]; omega), hf, show (i + 1) * n + j - n = i * n + j by rw [Nat.succ_mul]; omega, fl_get xs i j hj]
    simp
theorem fl_set : ∀ (xs : List α) (i j : Nat) (x y : α) (u : Value), xs[i]? = some x → j < n → f y = (f x).set j u → fl f (xs.set i y) = (fl f xs).set (i * n + j) u
  | [], i, j, x, y, u, h, _, _ => by simp at h
  | z :: xs, 0, j, x, y, u, h, hj, e => by
    simp at h
    subst h
    show f y ++ fl f xs = (f z ++ fl f xs).set (0 * n + j) u
    rw [e, List.set_append_left _ _ (by rw [hf]; omega)]; simp
  | z :: xs, i + 1, j, x, y, u, h, hj, e => by
    show f z ++ fl f (xs.set i y) = (f z ++ fl f xs).set ((i + 1) * n + j) u
    rw [List.set_append_right _ _ (by rw [hf, Nat.succ_mul]; omega), hf, show (i + 1) * n + j - n = i * n + j by rw [Nat.succ_mul]; omega, fl_set xs i j x y u (by simpa using h) hj e]
end
theorem fl_append {α : Type} {f : α → List Value} (xs ys : List α) : fl f (xs ++ ys) = fl f xs ++ fl f ys := by simp [fl]
structure Rw where
  step : Int
  thread : Int
  kind : Int
  cell : Int
  seen : Int
  wrote : Int
  done : Bool
structure Mm where
  cells : List (Int × Int)
  log : List Rw
  step : Int
  thread : Int
  begun : Bool
  free : Bool
def rw0 : Rw := ⟨0, 0, 0, 0, 0, 0, false⟩
def rcells (r : Rw) : List Value := [.int .i64 r.step, .int .i64 r.thread, .int .i64 r.kind, .int .i64 r.cell, .int .i64 r.seen, .int .i64 r.wrote, .bool r.done]
def rv (r : Rw) : Value := .agg #[.int .i64 r.step, .int .i64 r.thread, .int .i64 r.kind, .int .i64 r.cell, .int .i64 r.seen, .int .i64 r.wrote, .bool r.done]
def ccells (c : Int × Int) : List Value := [.int .i64 c.1, .int .i64 c.2]
theorem rcells_len (r : Rw) : (rcells r).length = 7 := rfl
theorem ccells_len (r : Int × Int) : (ccells r).length = 2 := rfl
def ra (l : List Rw) (i : Nat) : Rw := l.getD i rw0
def ca (l : List (Int × Int)) (i : Nat) : Int × Int := l.getD i (0, 0)
theorem ra_get {l : List Rw} {i : Nat} (h : i < l.length) : l[i]? = some (ra l i) := by simp [ra, List.getD_eq_getElem?_getD, h]
theorem ca_get {l : List (Int × Int)} {i : Nat} (h : i < l.length) : l[i]? = some (ca l i) := by simp [ca, List.getD_eq_getElem?_getD, h]
def Mm.new : Mm := ⟨[], [], 0, 0, false, false⟩
def Mm.make (s : Mm) (x : Int) : Mm := { s with cells := s.cells ++ [(x, x)] }
def Mm.begin (s : Mm) (st th : Int) : Mm := { s with step := st, thread := th, begun := true, free := true }
def Mm.row (s : Mm) (kind : Int) (c : Nat) (wrote : Int) (done : Bool) : Rw := ⟨s.step, s.thread, kind, c, (ca s.cells c).2, wrote, done⟩
def Mm.take (s : Mm) (kind : Int) (c : Nat) (wrote : Int) (done : Bool) : Mm :=
  { s with cells := s.cells.set c ((ca s.cells c).1, wrote), log := s.log ++ [s.row kind c wrote done], free := false }
structure MV (w : World) (mb : Nat) (vc vl : Value) (s : Mm) : Prop where
  f0 : w.cell? ⟨mb, 0, none⟩ = some vc
  f1 : w.cell? ⟨mb, 1, none⟩ = some vl
  f2 : w.cell? ⟨mb, 2, none⟩ = some (.int .i64 s.step)
  f3 : w.cell? ⟨mb, 3, none⟩ = some (.int .i64 s.thread)
  f4 : w.cell? ⟨mb, 4, none⟩ = some (.bool s.begun)
  f5 : w.cell? ⟨mb, 5, none⟩ = some (.bool s.free)
  z : ∀ o, o < 6 → w.frozen? ⟨mb, o, none⟩ = false
  rc : w.ownsRow 0 91 2 vc s.cells.length (fl ccells s.cells)
  rl : w.ownsRow 0 167 7 vl s.log.length (fl rcells s.log)
  nc : vc.ownBlock ≠ some mb
  nl : vl.ownBlock ≠ some mb
  nn : ∀ g, vc.ownBlock = some g → vl.ownBlock ≠ some g
section
variable {w w' : World} {mb : Nat} {vc vl : Value} {s : Mm}
theorem MV.lt (h : MV w mb vc vl s) : mb < w.heap.size := World.block_lt_of_cell? _ _ h.f0
theorem MV.keep (h : MV w mb vc vl s) {S : Nat → Prop} (k : Keeps S w w') (hm : ¬ S mb) (hc : ∀ g, vc.ownBlock = some g → ¬ S g) (hl : ∀ g, vl.ownBlock = some g → ¬ S g) : MV w' mb vc vl s :=
  ⟨k.cell h.f0 hm, k.cell h.f1 hm, k.cell h.f2 hm, k.cell h.f3 hm, k.cell h.f4 hm, k.cell h.f5 hm, fun o ho => (k.frozen (p := ⟨mb, o, none⟩) h.lt hm).trans (h.z o ho), k.owns h.rc hc, k.owns h.rl hl, h.nc, h.nl, h.nn⟩
theorem MV.new (h : MV w mb vc vl s) (k : Keeps (fun _ => False) w w') : MV w' mb vc vl s := h.keep k (fun e => e) (fun _ _ e => e) (fun _ _ e => e)
theorem MV.slice (h : MV w mb vc vl s) : ∃ a cap, vc = .slice a s.cells.length cap ∧ (0 < s.cells.length → ∃ g, a = some ⟨g, 0, none⟩ ∧ vc.ownBlock = some g) := by
  rcases h.rc.2 with ⟨rfl, h0⟩ | ⟨g, cap, cur, rfl, _⟩
  · exact ⟨none, 0, by rw [h0], fun e => by omega⟩
  · exact ⟨_, _, rfl, fun _ => ⟨g, rfl, rfl⟩⟩
theorem owns_cell {base e size n : Nat} {v : Value} {xs : List Value} (h : w.ownsRow base e size v n xs) {g : Nat} (hg : v.ownBlock = some g) {j : Nat} {u : Value} (hj : xs[j]? = some u) : w.cell? ⟨g, j, none⟩ = some u := by
  have := h.cells hg j u hj
  have e : (⟨g, 0, none⟩ : Addr).add j = ⟨g, j, none⟩ := by unfold Addr.add; split <;> simp_all
  rwa [e] at this
theorem MV.cell (h : MV w mb vc vl s) {g : Nat} (hg : vc.ownBlock = some g) {c : Nat} (hc : c < s.cells.length) : w.cell? ⟨g, c * 2, none⟩ = some (.int .i64 (ca s.cells c).1) ∧ w.cell? ⟨g, c * 2 + 1, none⟩ = some (.int .i64 (ca s.cells c).2) :=
  ⟨owns_cell h.rc hg (by have := fl_get ccells_len s.cells c 0 (by omega); rw [ca_get hc] at this; exact this), owns_cell h.rc hg (by have := fl_get ccells_len s.cells c 1 (by omega); rw [ca_get hc] at this; exact this)⟩
structure RowAt (w : World) (g o : Nat) (r : Rw) : Prop where
  r0 : w.cell? ⟨g, o, none⟩ = some (.int .i64 r.step)
  r1 : w.cell? ⟨g, o + 1, none⟩ = some (.int .i64 r.thread)
  r2 : w.cell? ⟨g, o + 2, none⟩ = some (.int .i64 r.kind)
  r3 : w.cell? ⟨g, o + 3, none⟩ = some (.int .i64 r.cell)
  r4 : w.cell? ⟨g, o + 4, none⟩ = some (.int .i64 r.seen)
  r5 : w.cell? ⟨g, o + 5, none⟩ = some (.int .i64 r.wrote)
  r6 : w.cell? ⟨g, o + 6, none⟩ = some (.bool r.done)
theorem RowAt.keep {g o : Nat} {r : Rw} (h : RowAt w g o r) {S : Nat → Prop} (k : Keeps S w w') (hg : ¬ S g) : RowAt w' g o r :=
  ⟨k.cell h.r0 hg, k.cell h.r1 hg, k.cell h.r2 hg, k.cell h.r3 hg, k.cell h.r4 hg, k.cell h.r5 hg, k.cell h.r6 hg⟩
theorem owns_row {base e n : Nat} {v : Value} {l : List Rw} (h : w.ownsRow base e 7 v n (fl rcells l)) {g : Nat} (hg : v.ownBlock = some g) {i : Nat} (hi : i < l.length) : RowAt w g (i * 7) (ra l i) := by
  have q : ∀ j, j < 7 → (fl rcells l)[i * 7 + j]? = (rcells (ra l i))[j]? := fun j hj => by have := fl_get rcells_len l i j hj; rw [ra_get hi] at this; exact this
  exact ⟨owns_cell h hg (q 0 (by omega)), owns_cell h hg (q 1 (by omega)), owns_cell h hg (q 2 (by omega)), owns_cell h hg (q 3 (by omega)), owns_cell h hg (q 4 (by omega)), owns_cell h hg (q 5 (by omega)), owns_cell h hg (q 6 (by omega))⟩
theorem MV.row (h : MV w mb vc vl s) {g : Nat} (hg : vl.ownBlock = some g) {i : Nat} (hi : i < s.log.length) : RowAt w g (i * 7) (ra s.log i) := owns_row h.rl hg hi
end
def MI (w : World) (mb : Nat) (s : Mm) (F : List Nat) : Prop := ∃ vc vl, MV w mb vc vl s ∧ F = mb :: (vc.ownBlock.toList ++ vl.ownBlock.toList)
section
variable {w w' : World} {mb : Nat} {s : Mm} {F : List Nat}
theorem MI.mem (h : MI w mb s F) : mb ∈ F := by obtain ⟨vc, vl, _, rfl⟩ := h; simp
theorem MI.lt (h : MI w mb s F) : ∀ k ∈ F, k < w.heap.size := by
  obtain ⟨vc, vl, h, rfl⟩ := h
  intro k hk
  simp at hk
  rcases hk with rfl | hk | hk
  · exact h.lt
  · exact owns_lt' h.rc k hk
  · exact owns_lt' h.rl k hk
theorem MI.keep (h : MI w mb s F) {S : Nat → Prop} (k : Keeps S w w') (hF : ∀ i ∈ F, ¬ S i) : MI w' mb s F := by
  obtain ⟨vc, vl, h, rfl⟩ := h
  exact ⟨vc, vl, h.keep k (hF _ (by simp)) (fun g e => hF _ (by simp [e])) (fun g e => hF _ (by simp [e])), rfl⟩
theorem MI.new (h : MI w mb s F) (k : Keeps (fun _ => False) w w') : MI w' mb s F := h.keep k (fun _ _ e => e)
end
end Go.Proofs.YtgjndhbfjofkeaaGreatDoor

namespace Go.Proofs.YtgjndhbfjofkeaaGreatDoor
open Go.RowKit
structure CL (w : World) (b : Nat) (l : List Value) : Prop where
  c : ∀ o v, l[o]? = some v → w.cell? ⟨b, o, none⟩ = some v
  z : ∀ o, o < l.length → w.frozen? ⟨b, o, none⟩ = false
section
variable {w w' : World} {b : Nat} {l : List Value} {S : Nat → Prop}
theorem CL.lt (h : CL w b l) (hl : 0 < l.length) : b < w.heap.size := World.block_lt_of_cell? _ _ (h.c 0 l[0] (by simp [hl]))
theorem CL.keep (h : CL w b l) (hl : 0 < l.length) (k : Keeps S w w') (hS : ¬ S b) : CL w' b l :=
  ⟨fun o v e => k.cell (h.c o v e) hS, fun o ho => (k.frozen (p := ⟨b, o, none⟩) (h.lt hl) hS).trans (h.z o ho)⟩
theorem CL.set (h : CL w b l) {o : Nat} (ho : o < l.length) (v : Value) : CL (w.setCell ⟨b, o, none⟩ v) b (l.set o v) := by
  refine ⟨fun p u e => ?_, fun p hp => ?_⟩
  · by_cases hpo : o = p
    · subst hpo
      rw [List.getElem?_set_self ho] at e
      cases e
      exact World.cell?_setCell_same _ _ _ (h.c o l[o] (by simp [ho]))
    · rw [List.getElem?_set_ne hpo] at e
      rw [World.cell?_setCell_other _ _ _ _ (by intro e2; injection e2 with _ e3; omega)]
      exact h.c p u e
  · simp only [World.frozen?_setCell]
    exact h.z p (by simpa using hp)
theorem CL.other (h : CL w b l) {p : Addr} (hne : p.block ≠ b) (v : Value) : CL (w.setCell p v) b l :=
  ⟨fun o u e => by rw [World.cell?_setCell_other _ _ _ _ (by intro e2; exact hne (by rw [e2]))]; exact h.c o u e, fun o ho => by simp only [World.frozen?_setCell]; exact h.z o ho⟩
theorem CL.alloc (h : CL w b l) (hl : 0 < l.length) (ob : Obj) : CL (w.alloc ob) b l := h.keep (S := fun _ => False) hl ((Keeps.refl _ w).alloc ob) (fun e => e)
def sets (l : List Value) (o : Nat) (vs : List Value) : List Value := l.take o ++ vs ++ l.drop (o + vs.length)
theorem CL.there (h : CL w b l) {o n : Nat} (ho : o + n ≤ l.length) : w.there b o n := fun j hj =>
  ⟨by rw [h.c (o + j) l[o + j] (by simp)]; rfl, h.z (o + j) (by omega)⟩
theorem CL.range (h : CL w b l) (o n : Nat) : w.rangeAt b o ((l.drop o).take n) := fun j v e => by
  rw [List.getElem?_take] at e
  split at e
  · rw [List.getElem?_drop] at e; exact h.c (o + j) v e
  · cases e
theorem CL.sets (h : CL w b l) {o : Nat} {vs : List Value} (ho : o + vs.length ≤ l.length) : CL (w.setCells b o vs) b (sets l o vs) := by
  have ht := h.there ho
  have hl : (Go.Proofs.YtgjndhbfjofkeaaGreatDoor.sets l o vs).length = l.length := by simp [Go.Proofs.YtgjndhbfjofkeaaGreatDoor.sets]; omega
  refine ⟨fun p u e => ?_, fun p hp => ?_⟩
  · unfold Go.Proofs.YtgjndhbfjofkeaaGreatDoor.sets at e
    by_cases h1 : p < o
    · rw [World.cell?_setCells_out b vs o w ⟨b, p, none⟩ (fun _ _ => .inl h1)]
      rw [List.append_assoc, List.getElem?_append_left (by simp; omega), List.getElem?_take_of_lt h1] at e
      exact h.c p u e
    · by_cases h2 : p < o + vs.length
      · have := World.cell?_setCells_in b vs o w (fun i hi => (ht i hi).1) (p - o) (by omega)
        rw [show o + (p - o) = p by omega] at this
        rw [this]
        rw [List.append_assoc, List.getElem?_append_right (by simp; omega), List.getElem?_append_left (by simp; omega)] at e
        simp only [List.length_take, Nat.min_eq_left (show o ≤ l.length by omega)] at e
        rw [List.getElem?_eq_getElem (by omega)] at e
        exact e
      · rw [World.cell?_setCells_out b vs o w ⟨b, p, none⟩ (fun _ _ => .inr (by show o + vs.length ≤ p; omega))]
        rw [List.getElem?_append_right (by simp; omega), List.getElem?_drop] at e
        simp only [List.length_append, List.length_take, Nat.min_eq_left (show o ≤ l.length by omega)] at e
        rw [show o + vs.length + (p - (o + vs.length)) = p by omega] at e
        exact h.c p u e
  · rw [World.frozen?_setCells]
    exact h.z p (by omega)
theorem Keeps.setCells {S : Nat → Prop} {a : World} {b : Nat} (hp : b < a.heap.size → S b) : ∀ (vs : List Value) (o : Nat) {b' : World}, Keeps S a b' → Keeps S a (b'.setCells b o vs)
  | [], _, _, h => h
  | v :: r, o, _, h => Keeps.setCells hp r (o + 1) (h.setCell (p := ⟨b, o, none⟩) hp v)
theorem Keeps.setA {a b' : World} (h : Keeps (fun k => k = b) a b') (o : Nat) (v : Value) : Keeps (fun k => k = b) a (b'.setCell ⟨b, o, none⟩ v) := h.setCell (fun _ => rfl) v
theorem Keeps.setsA {a b' : World} (h : Keeps (fun k => k = b) a b') (o : Nat) (vs : List Value) : Keeps (fun k => k = b) a (b'.setCells b o vs) := Keeps.setCells (S := fun k => k = b) (fun _ => rfl) vs o h
theorem CL.drew (h : CL w b l) : CL w.drew b l := ⟨h.c, h.z⟩
end
theorem CL.made (w : World) (l : List Value) (t : TypeId) : CL (w.alloc (.cells l.toArray t)) w.heap.size l := by
  refine ⟨fun o v e => ?_, fun o _ => ?_⟩
  · have : o < l.length := (List.getElem?_eq_some_iff.1 e).1
    simp [e]
  · simp
theorem run_store_nf (P : Program) (W : World) (p : Addr) (h : (W.cell? p).isSome = true) (hz : W.frozen? p = false) : (store p .nilFunc).run P W = .ok () (W.setCell p .nilFunc) := by
  obtain ⟨u, hu⟩ := Option.isSome_iff_exists.1 h
  rw [run_store P W _ _ _ rfl]; simp [hu, hz]
theorem run_store_f (P : Program) (W : World) (p : Addr) (f : Fn) (a b : Array Value) (h : (W.cell? p).isSome = true) (hz : W.frozen? p = false) : (store p (.func f a b)).run P W = .ok () (W.setCell p (.func f a b)) := by
  obtain ⟨u, hu⟩ := Option.isSome_iff_exists.1 h
  rw [run_store P W _ _ _ rfl]; simp [hu, hz]
theorem wpList_load_run {P : Program} {w : World} {ops : Array Oper} {rest : List Oper} {o : Oper} {a : Act} {Q : Exit → Act → World → Prop} (hgd : o.guard = none) (ty : TypeId) (x : Operand) (ho : o.op = .load ty x) (ad : Addr) (hx : a.eval x = .pointer (some ad)) (v : Value)
    (hr : (loadVar ty ad).run P w = .ok v w) (h : wpList P ops Q rest (a.put o.dst v) w) : wpList P ops Q (o :: rest) a w :=
  wpList_plain hgd fun _ hK => by
    unfold Oper.wp execOp
    simp only [ho, hx, Instr.loadAt, Instr.sureAddr, Sem.run_bind, Sem.run_pure, Result.andThen_ok, hr]
    exact hK _ _ h
theorem wpAnyH_one {P : Program} {ops : Array Oper} {Q : Exit → Act → World → Prop} {md : Region.Mode} {S : World → Prop} {fuel : Nat} {listed : Array Bool} {a : Act} {w : World} {o : Oper} (i : Nat) (hr : Region.ready md ops listed = [i]) (hoi : ops[i]? = some o) (hgd : o.guard = none)
    (h : Oper.wp P o a w (fun a' w' => S w' ∧ (S w' → wpAnyH P md ops Q S fuel (listed.setIfInBounds i true) a' w')) Q) : wpAnyH P md ops Q S (fuel + 1) listed a w := by
  refine wpAnyH_ready hr (by simp) (AllReadyH.cons hoi (fun K hK => ?_) AllReadyH.nil)
  rw [if_pos (by simp [Region.wanted, hgd])]
  exact Oper.wp_mono (fun a' w' e => hK.out _ _ e.1 e.2) h
theorem wpAnyH_store {P : Program} {ops : Array Oper} {Q : Exit → Act → World → Prop} {md : Region.Mode} {S : World → Prop} {fuel : Nat} {listed : Array Bool} {a : Act} {w : World} {o : Oper} (i : Nat) (hr : Region.ready md ops listed = [i]) (hoi : ops[i]? = some o) (hgd : o.guard = none)
    (ty : TypeId) (x y : Operand) (ho : o.op = .store ty x y) (b off n : Nat) (cells : Array Value) (hx : a.eval x = .pointer (some ⟨b, off, none⟩)) (hy : a.eval y = .agg cells) (hn : cells.size = n) (ht : w.there b off n) (hi : (P.info? ty).map (·.size) = some n) (h1 : cells.all (·.oneCell') = true)
    (hS : S (w.setCells b off cells.toList)) (h : S (w.setCells b off cells.toList) → wpAnyH P md ops Q S fuel (listed.setIfInBounds i true) (a.put o.dst undef) (w.setCells b off cells.toList)) : wpAnyH P md ops Q S (fuel + 1) listed a w := by
  refine wpAnyH_ready hr (by simp) (AllReadyH.cons hoi (fun K hK => ?_) AllReadyH.nil)
  rw [if_pos (by simp [Region.wanted, hgd])]
  exact wp_store_mid ty x y ho b off cells hx hy (hn ▸ ht) (hn ▸ hi) h1 (hK.out _ _ hS h)
theorem wpList_store_cl {P : Program} {ops : Array Oper} {rest : List Oper} {op : Oper} {a : Act} {w : World} {Q : Exit → Act → World → Prop} (hgd : op.guard = none) (ty : TypeId) (x y : Operand) (ho : op.op = .store ty x y)
    (b o n : Nat) (cells : Array Value) (hx : a.eval x = .pointer (some ⟨b, o, none⟩)) (hy : a.eval y = .agg cells) (hn : cells.size = n) {l : List Value} (hC : CL w b l) (hl : o + n ≤ l.length)
    (hi : (P.info? ty).map (·.size) = some n) (h1 : cells.all (·.oneCell') = true)
    (h : ∀ w1, CL w1 b (sets l o cells.toList) → Keeps (fun k => k = b) w w1 → w1.heap.size = w.heap.size → wpList P ops Q rest (a.put op.dst undef) w1) : wpList P ops Q (op :: rest) a w :=
  wpList_store_mid hgd ty x y ho b o cells hx hy (hn ▸ hC.there hl) (hn ▸ hi) h1
    (h _ (hC.sets (by simp only [Array.length_toList]; omega)) ((Keeps.refl _ w).setsA _ _) (by
      have : ∀ (vs : List Value) (o : Nat) (w : World), (w.setCells b o vs).heap.size = w.heap.size := by
        intro vs
        induction vs with
        | nil => intro o w; rfl
        | cons v r ih => intro o w; show (World.setCells _ b (o + 1) r).heap.size = _; rw [ih]; simp
      exact this _ _ _))
end Go.Proofs.YtgjndhbfjofkeaaGreatDoor

namespace Go.Proofs.YtgjndhbfjofkeaaGreatDoor
def Hid (p : Prop) : Prop := p
theorem Hid.out {p : Prop} (h : Hid p) : p := h
structure Rd where
  ob : Int
  ver : Int
  fate : Nat
structure En where
  ob : Int
  ver : Int
  ord : Nat
def ents : Nat → List Rd → List En
  | _, [] => []
  | i, r :: rs => if r.fate = 1 then ⟨r.ob, r.ver, i⟩ :: ents (i + 1) rs else ents (i + 1) rs
theorem ents_append : ∀ (rs ss : List Rd) (i : Nat), ents i (rs ++ ss) = ents i rs ++ ents (i + rs.length) ss
  | [], ss, i => by simp [ents]
  | r :: rs, ss, i => by
    have := ents_append rs ss (i + 1)
    rw [List.cons_append]
    simp only [ents]
    rw [this, show i + 1 + rs.length = i + (r :: rs).length by simp; omega]
    split <;> simp
theorem ents_mem : ∀ (rs : List Rd) (i : Nat) (e : En), e ∈ ents i rs ↔ ∃ (j : Nat) (r : Rd), rs[j]? = some r ∧ r.fate = 1 ∧ e = ⟨r.ob, r.ver, i + j⟩
  | [], i, e => by simp [ents]
  | r :: rs, i, e => by
    have ih := ents_mem rs (i + 1) e
    have hs : (∃ (j : Nat) (r' : Rd), (r :: rs)[j]? = some r' ∧ r'.fate = 1 ∧ e = ⟨r'.ob, r'.ver, i + j⟩) ↔ (r.fate = 1 ∧ e = ⟨r.ob, r.ver, i⟩) ∨ ∃ (j : Nat) (r' : Rd), rs[j]? = some r' ∧ r'.fate = 1 ∧ e = ⟨r'.ob, r'.ver, i + 1 + j⟩ := by
      constructor
      · rintro ⟨j, r', h1, h2, h3⟩
        cases j with
        | zero => simp at h1; subst h1; exact .inl ⟨h2, by simpa using h3⟩
        | succ j => exact .inr ⟨j, r', by simpa using h1, h2, by rw [h3, show i + (j + 1) = i + 1 + j by omega]⟩
      · rintro (⟨h1, h2⟩ | ⟨j, r', h1, h2, h3⟩)
        · exact ⟨0, r, by simp, h1, by simpa using h2⟩
        · exact ⟨j + 1, r', by simpa using h1, h2, by rw [h3, show i + (j + 1) = i + 1 + j by omega]⟩
    rw [hs, ← ih]
    simp only [ents]
    split
    · rename_i hf; simp [hf]
    · rename_i hf; simp [hf]
theorem ents_sorted : ∀ (rs : List Rd) (i : Nat), (ents i rs).Pairwise (fun a b => a.ord < b.ord)
  | [], _ => by simp [ents]
  | r :: rs, i => by
    simp only [ents]
    split
    · refine List.Pairwise.cons (fun e he => ?_) (ents_sorted rs (i + 1))
      obtain ⟨j, r', _, _, rfl⟩ := (ents_mem rs (i + 1) e).1 he
      simp; omega
    · exact ents_sorted rs (i + 1)
theorem ents_len : ∀ (rs : List Rd) (i : Nat), (ents i rs).length ≤ rs.length
  | [], _ => by simp [ents]
  | r :: rs, i => by
    have := ents_len rs (i + 1)
    simp only [ents]
    split <;> simp <;> omega
structure Gd (rs : List Rd) : Prop where
  one : ∀ (j k : Nat) (r s : Rd), rs[j]? = some r → rs[k]? = some s → r.fate = 1 → s.fate = 1 → r.ob = s.ob → j = k
  num : ∀ r ∈ rs, I64 r.ob ∧ I64 r.ver ∧ 1 ≤ r.fate ∧ r.fate ≤ 3
theorem Gd.nil : Gd [] := ⟨fun j k r s h => by simp at h, fun r h => by cases h⟩
def hld (rs : List Rd) (k : Int) : Prop := ∃ (j : Nat) (r : Rd), rs[j]? = some r ∧ r.fate = 1 ∧ r.ob = k
def es (rs : List Rd) : List En := ents 0 rs
def Rd.en (r : Rd) (j : Nat) : En := ⟨r.ob, r.ver, j⟩
def add (rs : List Rd) (ob ver : Int) : List Rd := rs ++ [⟨ob, ver, 1⟩]
def Rd.to (r : Rd) (f : Nat) : Rd := { r with fate := f }
theorem es_add (rs : List Rd) (ob ver : Int) : es (add rs ob ver) = es rs ++ [⟨ob, ver, rs.length⟩] := by
  unfold es add
  rw [ents_append]
  simp [ents]
theorem add_len (rs : List Rd) (ob ver : Int) : (add rs ob ver).length = rs.length + 1 := by simp [add]
theorem Gd.add {rs : List Rd} (h : Gd rs) {ob ver : Int} (h1 : I64 ob) (h2 : I64 ver) (hn : ¬ hld rs ob) : Gd (add rs ob ver) := by
  have hg : ∀ (j : Nat) (r : Rd), (rs ++ [(⟨ob, ver, 1⟩ : Rd)])[j]? = some r → rs[j]? = some r ∨ (j = rs.length ∧ r = ⟨ob, ver, 1⟩) := fun j r hj => by
    by_cases e : j < rs.length
    · rw [List.getElem?_append_left e] at hj; exact .inl hj
    · rw [List.getElem?_append_right (by omega)] at hj
      have h0 : j - rs.length = 0 := by have := (List.getElem?_eq_some_iff.1 hj).1; simp at this; omega
      rw [h0] at hj
      simp at hj
      exact .inr ⟨by omega, hj.symm⟩
  refine ⟨fun j k r s hj hk f1 f2 e => ?_, fun r hr => ?_⟩
  · rcases hg j r hj with a | ⟨a, rfl⟩ <;> rcases hg k s hk with b | ⟨b, rfl⟩
    · exact h.one j k r s a b f1 f2 e
    · exact absurd ⟨j, r, a, f1, e⟩ hn
    · exact absurd ⟨k, s, b, f2, e.symm⟩ hn
    · omega
  · rcases List.mem_append.1 hr with a | a
    · exact h.num r a
    · simp at a; subst a; exact ⟨h1, h2, by simp, by simp⟩
theorem Gd.to {rs : List Rd} (h : Gd rs) {j : Nat} {r : Rd} (hj : rs[j]? = some r) {f : Nat} (hf : f = 2 ∨ f = 3) : Gd (rs.set j (r.to f)) := by
  have hl : j < rs.length := (List.getElem?_eq_some_iff.1 hj).1
  have hg : ∀ (i : Nat) (s : Rd), (rs.set j (r.to f))[i]? = some s → s.fate = 1 → rs[i]? = some s := fun i s hi h1 => by
    rw [List.getElem?_set] at hi
    split at hi
    · cases hi
      simp [Rd.to] at h1
      omega
    · exact hi
  refine ⟨fun a b s t ha hb f1 f2 e => h.one a b s t (hg a s ha f1) (hg b t hb f2) f1 f2 e, fun s hs => ?_⟩
  rcases List.mem_or_eq_of_mem_set hs with a | a
  · exact h.num s a
  · subst a
    have := h.num r (List.mem_of_getElem? hj)
    refine ⟨this.1, this.2.1, ?_⟩
    simp [Rd.to]
    omega
def Dis (l : List En) : Prop := ∀ (p q : Nat) (a b : En), l[p]? = some a → l[q]? = some b → a.ob = b.ob → p = q
theorem es_get {rs : List Rd} {e : En} (h : e ∈ es rs) : ∃ r, rs[e.ord]? = some r ∧ r.fate = 1 ∧ e = r.en e.ord := by
  obtain ⟨j, r, h1, h2, h3⟩ := (ents_mem rs 0 e).1 h
  have : e.ord = j := by rw [h3]; simp
  exact ⟨r, by rw [this]; exact h1, h2, by rw [this, h3]; simp [Rd.en]⟩
theorem es_of {rs : List Rd} {j : Nat} {r : Rd} (h : rs[j]? = some r) (h1 : r.fate = 1) : r.en j ∈ es rs := (ents_mem rs 0 _).2 ⟨j, r, h, h1, by simp [Rd.en]⟩
theorem Gd.dis {rs : List Rd} (h : Gd rs) : Dis (es rs) := fun p q a b ha hb e => by
  obtain ⟨r, h1, h2, h3⟩ := es_get (List.mem_of_getElem? ha)
  obtain ⟨s, g1, g2, g3⟩ := es_get (List.mem_of_getElem? hb)
  have eo : a.ord = b.ord := h.one _ _ r s h1 g1 h2 g2 (by
    have x1 : a.ob = r.ob := by rw [h3]; rfl
    have x2 : b.ob = s.ob := by rw [g3]; rfl
    omega)
  have hs : (es rs).Pairwise (fun a b => a.ord < b.ord) := ents_sorted rs 0
  rw [List.pairwise_iff_getElem] at hs
  obtain ⟨lp, ep⟩ := List.getElem?_eq_some_iff.1 ha
  obtain ⟨lq, eq⟩ := List.getElem?_eq_some_iff.1 hb
  rcases Nat.lt_trichotomy p q with c | c | c
  · have := hs p q lp lq c
    rw [ep, eq] at this
    omega
  · exact c
  · have := hs q p lq lp c
    rw [ep, eq] at this
    omega
def pl (l : List En) (k : Int) : Option Nat := l.findIdx? (fun e => e.ob == k)
theorem pl_some {l : List En} {k : Int} {p : Nat} (h : pl l k = some p) : ∃ e, l[p]? = some e ∧ e.ob = k := by
  obtain ⟨hp, h1, _⟩ := List.findIdx?_eq_some_iff_getElem.1 h
  exact ⟨l[p], by simp [hp], by simpa using h1⟩
theorem pl_none {l : List En} {k : Int} (h : pl l k = none) : ∀ (p : Nat) (e : En), l[p]? = some e → e.ob ≠ k := fun p e he hk => by
  have := List.findIdx?_eq_none_iff.1 h e (List.mem_of_getElem? he)
  simp [hk] at this
theorem pl_of {l : List En} (hd : Dis l) {p : Nat} {e : En} (he : l[p]? = some e) : pl l e.ob = some p := by
  cases h : pl l e.ob with
  | none => exact absurd rfl (pl_none h p e he)
  | some q =>
    obtain ⟨b, hb, hk⟩ := pl_some h
    rw [hd q p b e hb he hk]
theorem pl_eq {l : List En} {f : Int → Option Nat} (h1 : ∀ (p : Nat) (e : En), l[p]? = some e → f e.ob = some p) (h2 : ∀ k, (∀ (p : Nat) (e : En), l[p]? = some e → e.ob ≠ k) → f k = none) : f = pl l := by
  funext k
  cases h : pl l k with
  | none => exact h2 k (pl_none h)
  | some p =>
    obtain ⟨e, he, rfl⟩ := pl_some h
    exact h1 p e he
def upd (f : Int → Option Nat) (k : Int) (v : Option Nat) : Int → Option Nat := fun x => if x = k then v else f x
theorem pl_snoc {l : List En} {e : En} (hd : Dis (l ++ [e])) : upd (pl l) e.ob (some l.length) = pl (l ++ [e]) := by
  have hl : Dis l := fun p q a b ha hb h => hd p q a b (by rw [List.getElem?_append_left (List.getElem?_eq_some_iff.1 ha).1]; exact ha) (by rw [List.getElem?_append_left (List.getElem?_eq_some_iff.1 hb).1]; exact hb) h
  refine pl_eq (fun p x hx => ?_) (fun k hk => ?_)
  · by_cases c : p < l.length
    · rw [List.getElem?_append_left c] at hx
      have ne : x.ob ≠ e.ob := fun h => by
        have := hd p l.length x e (by rw [List.getElem?_append_left c]; exact hx) (by simp) h
        omega
      simp only [upd]
      rw [if_neg ne]
      exact pl_of hl hx
    · rw [List.getElem?_append_right (by omega)] at hx
      have h0 : p - l.length = 0 := by have := (List.getElem?_eq_some_iff.1 hx).1; simp at this; omega
      rw [h0] at hx
      simp at hx
      subst hx
      simp only [upd]
      rw [if_pos True.intro, show p = l.length by omega]
  · have ne : k ≠ e.ob := fun h => hk l.length e (by simp) h.symm
    simp only [upd]
    rw [if_neg ne]
    cases h : pl l k with
    | none => rfl
    | some p =>
      obtain ⟨x, hx, hxk⟩ := pl_some h
      exact absurd hxk (hk p x (by rw [List.getElem?_append_left (List.getElem?_eq_some_iff.1 hx).1]; exact hx))
def mv (l : List En) (i : Nat) (k : Int) : Option Nat := (pl l k).map fun q => if q < i then q else q + 1
theorem mv_start {A B : List En} {e : En} (hd : Dis (A ++ e :: B)) : upd (pl (A ++ e :: B)) e.ob none = mv (A ++ B) A.length := by
  funext k
  have ge : (A ++ e :: B)[A.length]? = some e := by simp
  by_cases c : k = e.ob
  · simp only [upd, mv]
    rw [if_pos c]
    cases h : pl (A ++ B) k with
    | none => rfl
    | some q =>
      exfalso
      obtain ⟨x, hx, hxk⟩ := pl_some h
      by_cases cq : q < A.length
      · rw [List.getElem?_append_left cq] at hx
        have := hd q A.length x e (by rw [List.getElem?_append_left cq]; exact hx) ge (by omega)
        omega
      · rw [List.getElem?_append_right (by omega)] at hx
        have := hd (q + 1) A.length x e (by rw [List.getElem?_append_right (by omega), show q + 1 - A.length = q - A.length + 1 by omega, List.getElem?_cons_succ]; exact hx) ge (by omega)
        omega
  · simp only [upd, mv]
    rw [if_neg c]
    cases h : pl (A ++ B) k with
    | none =>
      cases h' : pl (A ++ e :: B) k with
      | none => rfl
      | some q =>
        exfalso
        obtain ⟨x, hx, hxk⟩ := pl_some h'
        by_cases cq : q < A.length
        · rw [List.getElem?_append_left cq] at hx
          exact pl_none h q x (by rw [List.getElem?_append_left cq]; exact hx) hxk
        · rw [List.getElem?_append_right (by omega)] at hx
          by_cases c0 : q = A.length
          · rw [show q - A.length = 0 by omega] at hx
            simp at hx
            subst hx
            exact c hxk.symm
          · rw [show q - A.length = q - 1 - A.length + 1 by omega, List.getElem?_cons_succ] at hx
            exact pl_none h (q - 1) x (by rw [List.getElem?_append_right (by omega)]; exact hx) hxk
    | some q =>
      obtain ⟨x, hx, rfl⟩ := pl_some h
      simp only [Option.map_some]
      by_cases cq : q < A.length
      · rw [List.getElem?_append_left cq] at hx
        rw [if_pos cq]
        exact pl_of hd (by rw [List.getElem?_append_left cq]; exact hx)
      · rw [List.getElem?_append_right (by omega)] at hx
        rw [if_neg cq]
        exact pl_of hd (by rw [List.getElem?_append_right (by omega), show q + 1 - A.length = q - A.length + 1 by omega, List.getElem?_cons_succ]; exact hx)
theorem mv_step {l : List En} (hd : Dis l) {i : Nat} {e : En} (he : l[i]? = some e) : upd (mv l i) e.ob (some i) = mv l (i + 1) := by
  funext k
  simp only [upd, mv]
  by_cases c : k = e.ob
  · subst c
    rw [if_pos rfl, pl_of hd he]
    simp
  · rw [if_neg c]
    cases h : pl l k with
    | none => rfl
    | some q =>
      obtain ⟨x, hx, hxk⟩ := pl_some h
      have : q ≠ i := fun h => by subst h; rw [hx] at he; cases he; exact c hxk.symm
      simp only [Option.map_some]
      by_cases c1 : q < i
      · rw [if_pos c1, if_pos (by omega)]
      · rw [if_neg c1, if_neg (by omega)]
theorem mv_end (l : List En) : mv l l.length = pl l := by
  funext k
  simp only [mv]
  cases h : pl l k with
  | none => rfl
  | some q =>
    obtain ⟨x, hx, _⟩ := pl_some h
    have := (List.getElem?_eq_some_iff.1 hx).1
    simp only [Option.map_some]
    rw [if_pos this]
theorem mv_has {l : List En} (hd : Dis l) {i j : Nat} {e : En} (he : l[j]? = some e) : (mv l i e.ob).isSome = true := by
  simp [mv, pl_of hd he]
theorem out_split {rs : List Rd} {j : Nat} {r : Rd} (hj : rs[j]? = some r) (h1 : r.fate = 1) {f : Nat} (hf : f = 2 ∨ f = 3) :
    ∃ A B, es rs = A ++ r.en j :: B ∧ es (rs.set j (r.to f)) = A ++ B := by
  have hl : j < rs.length := (List.getElem?_eq_some_iff.1 hj).1
  have hr : rs[j] = r := (List.getElem?_eq_some_iff.1 hj).2
  have e1 : rs = rs.take j ++ r :: rs.drop (j + 1) := by
    rw [← hr]; simp
  have e2 : rs.set j (r.to f) = rs.take j ++ (r.to f) :: rs.drop (j + 1) := by
    rw [List.set_eq_take_append_cons_drop, if_pos hl]
  have el : (rs.take j).length = j := by simp; omega
  refine ⟨ents 0 (rs.take j), ents (j + 1) (rs.drop (j + 1)), ?_, ?_⟩
  · unfold es
    rw [show ents 0 rs = ents 0 (rs.take j ++ r :: rs.drop (j + 1)) by rw [← e1], ents_append, el]
    simp [ents, h1, Rd.en]
  · unfold es
    rw [e2, ents_append, el]
    have : ¬ (r.to f).fate = 1 := by simp [Rd.to]; omega
    simp [ents, this]
theorem hld_pl {rs : List Rd} (h : Gd rs) (k : Int) : hld rs k ↔ (pl (es rs) k).isSome = true := by
  constructor
  · rintro ⟨j, r, h1, h2, rfl⟩
    obtain ⟨p, hp⟩ := List.getElem?_of_mem (es_of h1 h2)
    have := pl_of h.dis hp
    rw [show (r.en j).ob = r.ob from rfl] at this
    rw [this]; rfl
  · intro e
    cases hp : pl (es rs) k with
    | none => rw [hp] at e; cases e
    | some p =>
      obtain ⟨x, hx, hk⟩ := pl_some hp
      obtain ⟨r, h1, h2, h3⟩ := es_get (List.mem_of_getElem? hx)
      exact ⟨_, r, h1, h2, by rw [← hk, h3]; rfl⟩
end Go.Proofs.YtgjndhbfjofkeaaGreatDoor

namespace Go.Proofs.YtgjndhbfjofkeaaGreatDoor.TB
open Go.RowKit
def fl {α : Type} (f : α → List Value) (xs : List α) : List Value := xs.flatMap f
section
variable {α : Type} {f : α → List Value} {n : Nat} (hf : ∀ x, (f x).length = n)
include hf
theorem fl_length : ∀ xs : List α, (fl f xs).length = xs.length * n
  | [] => by simp [fl]
  | x :: xs => by
    have := fl_length xs
    have e : fl f (x :: xs) = f x ++ fl f xs := rfl
    rw [e, List.length_append, hf, this, List.length_cons, Nat.succ_mul]; omega
theorem fl_get : ∀ (xs : List α) (i j : Nat), j < n → (fl f xs)[i * n + j]? = (xs[i]?).bind fun x => (f x)[j]?
  | [], i, j, _ => by simp [fl]
  | x :: xs, 0, j, hj => by
    have e : fl f (x :: xs) = f x ++ fl f xs := rfl
    rw [e, List.getElem?_append_left (by rw [hf]; omega)]; simp
  | x :: xs, i + 1, j, hj => by
    have e : fl f (x :: xs) = f x ++ fl f xs := rfl
    rw [e, List.getElem?_append_right (by rw [hf, Nat.succ_mul]; omega), hf, show (i + 1) * n + j - n = i * n + j by rw [Nat.succ_mul]; omega, fl_get xs i j hj]
    simp
theorem fl_set : ∀ (xs : List α) (i j : Nat) (x y : α) (u : Value), xs[i]? = some x → j < n → f y = (f x).set j u → fl f (xs.set i y) = (fl f xs).set (i * n + j) u
  | [], i, j, x, y, u, h, _, _ => by simp at h
  | z :: xs, 0, j, x, y, u, h, hj, e => by
    simp at h
    subst h
    show f y ++ fl f xs = (f z ++ fl f xs).set (0 * n + j) u
    rw [e, List.set_append_left _ _ (by rw [hf]; omega)]; simp
  | z :: xs, i + 1, j, x, y, u, h, hj, e => by
    show f z ++ fl f (xs.set i y) = (f z ++ fl f xs).set ((i + 1) * n + j) u
    rw [List.set_append_right _ _ (by rw [hf, Nat.succ_mul]; omega), hf, show (i + 1) * n + j - n = i * n + j by rw [Nat.succ_mul]; omega, fl_set xs i j x y u (by simpa using h) hj e]
end
theorem fl_append {α : Type} {f : α → List Value} (xs ys : List α) : fl f (xs ++ ys) = fl f xs ++ fl f ys := by simp [fl]
theorem owns_cell {w : World} {base e size n : Nat} {v : Value} {xs : List Value} (h : w.ownsRow base e size v n xs) {g : Nat} (hg : v.ownBlock = some g) {j : Nat} {u : Value} (hj : xs[j]? = some u) : w.cell? ⟨g, j, none⟩ = some u := by
  have := h.cells hg j u hj
  have e : (⟨g, 0, none⟩ : Addr).add j = ⟨g, j, none⟩ := by unfold Addr.add; split <;> simp_all
  rwa [e] at this
theorem owns_form {w : World} {base e size n : Nat} {v : Value} {xs : List Value} (h : w.ownsRow base e size v n xs) : ∃ a cap, v = .slice a n cap ∧ (0 < n → ∃ g, a = some ⟨g, 0, none⟩ ∧ v.ownBlock = some g) := by
  rcases h.2 with ⟨rfl, h0⟩ | ⟨g, cap, cur, rfl, _⟩
  · exact ⟨none, 0, by rw [h0], fun e => by omega⟩
  · exact ⟨_, _, rfl, fun _ => ⟨g, rfl, rfl⟩⟩
theorem owns_cap {w : World} {base e size n : Nat} {a : Option Addr} {cap : Nat} {xs : List Value} (h : w.ownsRow base e size (.slice a n cap) n xs) : n ≤ cap := by
  rcases h.2 with ⟨e, h0⟩ | ⟨g, cap', cur, e, rest⟩
  · omega
  · cases e; exact rest.2.2.1
end Go.Proofs.YtgjndhbfjofkeaaGreatDoor.TB

