import Derived.WalkKit
import Derived.ProofKit
import Derived.Test.YtmnmphkkcabkiaaRows
import Derived.Deep.AppendLies
import Derived.Deep.RegionHeld3
import Derived.Deep.RegionLaw
import Derived.Deep.LoopGhost
import Derived.BigRegion
import Derived.BigQuiet
import Derived.Below
import Derived.Recover
import Derived.Laws.NewBlocks
import Derived.Deep.MidRow
import Derived.Deep.RegionHeld
import Derived.Maps.AppendAt
namespace Go.Proofs.Ytmnmphkkcabkiaa
open Go.RowKit
def I64 (a : Int) : Prop := -9223372036854775808 ≤ a ∧ a ≤ 9223372036854775807
theorem i64_of_wf {a : Int} (h : (Lit.int .i64 a).wf = true) : I64 a := by
  simp [Lit.wf, IntKind.min, IntKind.max, IntKind.signed, IntKind.bits] at h
  unfold I64; omega
theorem wf_of_i64 {a : Int} (h : I64 a) : (Lit.int .i64 a).wf = true := by
  unfold I64 at h
  simp [Lit.wf, IntKind.min, IntKind.max, IntKind.signed, IntKind.bits]
  omega
structure Keeps (S : Nat → Prop) (w w' : World) : Prop where
  os : w'.os = w.os
  tape : w'.tape = w.tape
  output : w'.output = w.output
  size : w.heap.size ≤ w'.heap.size
  block : ∀ k, k < w.heap.size → ¬ S k → w'.heap[k]? = w.heap[k]?
theorem Keeps.refl (S : Nat → Prop) (w : World) : Keeps S w w := ⟨rfl, rfl, rfl, Nat.le_refl _, fun _ _ _ => rfl⟩
theorem Keeps.trans {S : Nat → Prop} {a b c : World} (h : Keeps S a b) (k : Keeps S b c) : Keeps S a c :=
  ⟨k.os.trans h.os, k.tape.trans h.tape, k.output.trans h.output, Nat.le_trans h.size k.size, fun i hi hs => (k.block i (Nat.lt_of_lt_of_le hi h.size) hs).trans (h.block i hi hs)⟩
theorem Keeps.trans' {S T U : Nat → Prop} {a b c : World} (h : Keeps S a b) (k : Keeps T b c) (hS : ∀ i, i < a.heap.size → S i → U i) (hT : ∀ i, i < a.heap.size → T i → U i) : Keeps U a c :=
  ⟨k.os.trans h.os, k.tape.trans h.tape, k.output.trans h.output, Nat.le_trans h.size k.size, fun i hi hs => (k.block i (Nat.lt_of_lt_of_le hi h.size) (fun t => hs (hT i hi t))).trans (h.block i hi (fun t => hs (hS i hi t)))⟩
theorem Keeps.mono {S T : Nat → Prop} {a b : World} (h : Keeps S a b) (hS : ∀ i, i < a.heap.size → S i → T i) : Keeps T a b :=
  ⟨h.os, h.tape, h.output, h.size, fun i hi hs => h.block i hi (fun t => hs (hS i hi t))⟩
theorem Keeps.alloc {S : Nat → Prop} {a b : World} (h : Keeps S a b) (o : Obj) : Keeps S a (b.alloc o) :=
  ⟨h.os, h.tape, h.output, Nat.le_trans h.size (by simp), fun i hi hs => (Below.heap_alloc b o i (Nat.lt_of_lt_of_le hi h.size)).trans (h.block i hi hs)⟩
theorem Keeps.drew {S : Nat → Prop} {a b : World} (h : Keeps S a b) : Keeps S a b.drew := ⟨h.os, h.tape, h.output, h.size, h.block⟩
theorem Keeps.grown {S : Nat → Prop} {a b c : World} {row : Option Nat} (h : Keeps S a b) (k : b.grownBy c row) (hr : ∀ i, i < a.heap.size → row = some i → S i) : Keeps S a c :=
  ⟨k.os.trans h.os, k.tape.trans h.tape, k.output.trans h.output, Nat.le_trans h.size k.size, fun i hi hs => (k.block i (Nat.lt_of_lt_of_le hi h.size) (fun e => hs (hr i hi e.symm))).trans (h.block i hi hs)⟩
theorem Keeps.setCell {S : Nat → Prop} {a b : World} (h : Keeps S a b) {p : Addr} (hp : p.block < a.heap.size → S p.block) (u : Value) : Keeps S a (b.setCell p u) :=
  ⟨h.os, h.tape, h.output, by simpa using h.size, fun i hi hs => (Below.heap_setCell b p u i (fun e => hs (e ▸ hp (e ▸ hi)))).trans (h.block i hi hs)⟩
theorem Keeps.below {S : Nat → Prop} {a b : World} (h : Keeps S a b) {B : Nat} (hB : B ≤ a.heap.size) (hS : ∀ i, i < B → ¬ S i) : Below B a b :=
  ⟨h.os, h.tape, h.output, h.size, fun i hi => h.block i (Nat.lt_of_lt_of_le hi hB) (hS i hi)⟩
theorem Keeps.cell {S : Nat → Prop} {a b : World} (h : Keeps S a b) {p : Addr} {v : Value} (hc : a.cell? p = some v) (hS : ¬ S p.block) : b.cell? p = some v :=
  (World.cell?_of_block (h.block p.block (World.block_lt_of_cell? a p hc) hS)).trans hc
theorem Keeps.frozen {S : Nat → Prop} {a b : World} (h : Keeps S a b) {p : Addr} (hl : p.block < a.heap.size) (hS : ¬ S p.block) : b.frozen? p = a.frozen? p :=
  World.frozen?_of_block (h.block p.block hl hS)
theorem owns_lt' {w : World} {base : Nat} {e : TypeId} {size : Nat} {v : Value} {n : Nat} {xs : List Value} (h : w.ownsRow base e size v n xs) (k : Nat) (hk : v.ownBlock = some k) : k < w.heap.size := by
  rcases h.2 with ⟨rfl, _⟩ | ⟨g, cap, cur, rfl, hb, hg, rest⟩
  · cases hk
  · cases hk
    rcases Nat.lt_or_ge g w.heap.size with hlt | hge
    · exact hlt
    · rw [Array.getElem?_eq_none hge] at hg; cases hg
theorem owns_same {w w' : World} {base : Nat} {e : TypeId} {size : Nat} {v : Value} {n : Nat} {xs : List Value} (h : w.ownsRow base e size v n xs) (hk : ∀ g, v.ownBlock = some g → w'.heap[g]? = w.heap[g]?) : w'.ownsRow base e size v n xs := by
  refine ⟨h.1, ?_⟩
  rcases h.2 with h0 | ⟨g, cap, cur, rfl, hb, hg, rest⟩
  · exact .inl h0
  · exact .inr ⟨g, cap, cur, rfl, hb, (hk g rfl).trans hg, rest⟩
theorem Keeps.owns {S : Nat → Prop} {a b : World} (h : Keeps S a b) {base : Nat} {e : TypeId} {size : Nat} {v : Value} {n : Nat} {xs : List Value} (ho : a.ownsRow base e size v n xs) (hS : ∀ g, v.ownBlock = some g → ¬ S g) : b.ownsRow base e size v n xs :=
  owns_same ho (fun g hg => h.block g (owns_lt' ho g hg) (hS g hg))
structure Left (w w' : World) (F F' : List Nat) : Prop where
  keeps : Keeps (fun k => k ∈ F) w w'
  old : ∀ k ∈ F', k ∈ F ∨ w.heap.size ≤ k
theorem Left.refl (w : World) (F : List Nat) : Left w w F F := ⟨Keeps.refl _ w, fun _ h => .inl h⟩
theorem Left.trans {w w' w'' : World} {F F' F'' : List Nat} (h : Left w w' F F') (k : Left w' w'' F' F'') : Left w w'' F F'' :=
  ⟨h.keeps.trans' k.keeps (fun _ _ e => e) (fun i hi e => (h.old i e).elim id (fun e' => by omega)),
   fun i hi => (k.old i hi).elim (h.old i) (fun e => .inr (by have := h.keeps.size; omega))⟩
structure KS (w : World) where
  val : World
  property : Keeps (fun _ => False) w val
theorem wp_region_ks {P : Program} {id : Nat} {Q : Exit → Act → World → Prop} {a : Act} {w : World} {l : List Oper} (hm : P.follows .mixedOrders = true) (hB : Region.lexB .any l.toArray = true)
    (h : wpQuiet P l.toArray (fun w' => ∃ u : KS w, w' = u.1) (fun a' => ∀ w', (∃ u : KS w, w' = u.1) → Q .normal a' w') l a) : (Code.region id l.toArray true).wp P Q a w :=
  wp_region_quiet (C := fun w' => ∃ u : KS w, w' = u.1) hm hB ⟨⟨_, (Keeps.refl _ w).drew⟩, rfl⟩ (by simpa using h)
theorem ks_cell {w : World} {p : Addr} {v : Value} (h : w.cell? p = some v) : ∀ u : KS w, u.1.cell? p = some v := fun u => u.2.cell h (fun e => e)
end Go.Proofs.Ytmnmphkkcabkiaa

namespace Go.Proofs.Ytmnmphkkcabkiaa
open Go.RowKit
structure CL (w : World) (b : Nat) (l : List Value) : Prop where
  c : ∀ o v, l[o]? = some v → w.cell? ⟨b, o, none⟩ = some v
  z : ∀ o, o < l.length → w.frozen? ⟨b, o, none⟩ = false
section
variable {w w' : World} {b : Nat} {l : List Value} {S : Nat → Prop}
theorem CL.lt (h : CL w b l) (hl : 0 < l.length) : b < w.heap.size := World.block_lt_of_cell? _ _ (h.c 0 l[0] (by simp [hl]))
theorem CL.keep (h : CL w b l) (hl : 0 < l.length) (k : Keeps S w w') (hS : ¬ S b) : CL w' b l :=
  ⟨fun o v e => k.cell (h.c o v e) hS, fun o ho => (k.frozen (p := ⟨b, o, none⟩) (h.lt hl) hS).trans (h.z o ho)⟩
theorem CL.set (h : CL w b l) {o : Nat} (ho : o < l.length) (v : Value) : CL (w.setCell ⟨b, o, none⟩ v) b (l.set o v) := by
  refine ⟨fun p u e => ?_, fun p hp => ?_⟩
  · by_cases hpo : o = p
    · subst hpo
      rw [List.getElem?_set_self ho] at e
      cases e
      exact World.cell?_setCell_same _ _ _ (h.c o l[o] (by simp [ho]))
    · rw [List.getElem?_set_ne hpo] at e
      rw [World.cell?_setCell_other _ _ _ _ (by intro e2; injection e2 with _ e3; omega)]
      exact h.c p u e
  · simp only [World.frozen?_setCell]
    exact h.z p (by simpa using hp)
theorem CL.other (h : CL w b l) {p : Addr} (hne : p.block ≠ b) (v : Value) : CL (w.setCell p v) b l :=
  ⟨fun o u e => by rw [World.cell?_setCell_other _ _ _ _ (by intro e2; exact hne (by rw [e2]))]; exact h.c o u e, fun o ho => by simp only [World.frozen?_setCell]; exact h.z o ho⟩
theorem CL.alloc (h : CL w b l) (hl : 0 < l.length) (ob : Obj) : CL (w.alloc ob) b l := h.keep (S := fun _ => False) hl ((Keeps.refl _ w).alloc ob) (fun e => e)
def sets (l : List Value) (o : Nat) (vs : List Value) : List Value := l.take o ++ vs ++ l.drop (o + vs.length)
theorem CL.there (h : CL w b l) {o n : Nat} (ho : o + n ≤ l.length) : w.there b o n := fun j hj =>
  ⟨by rw [h.c (o + j) l[o + j] (by simp)]; rfl, h.z (o + j) (by omega)⟩
theorem CL.range (h : CL w b l) (o n : Nat) : w.rangeAt b o ((l.drop o).take n) := fun j v e => by
  rw [List.getElem?_take] at e
  split at e
  · rw [List.getElem?_drop] at e; exact h.c (o + j) v e
  · cases e
theorem CL.sets (h : CL w b l) {o : Nat} {vs : List Value} (ho : o + vs.length ≤ l.length) : CL (w.setCells b o vs) b (sets l o vs) := by
  have ht := h.there ho
  have hl : (Go.Proofs.Ytmnmphkkcabkiaa.sets l o vs).length = l.length := by simp [Go.Proofs.Ytmnmphkkcabkiaa.sets]; omega
  refine ⟨fun p u e => ?_, fun p hp => ?_⟩
  · unfold Go.Proofs.Ytmnmphkkcabkiaa.sets at e
    by_cases h1 : p < o
    · rw [World.cell?_setCells_out b vs o w ⟨b, p, none⟩ (fun _ _ => .inl h1)]
      rw [List.append_assoc, List.getElem?_append_left (by simp; omega), List.getElem?_take_of_lt h1] at e
      exact h.c p u e
    · by_cases h2 : p < o + vs.length
      · have := World.cell?_setCells_in b vs o w (fun i hi => (ht i hi).1) (p - o) (by omega)
        rw [show o + (p - o) = p by omega] at this
        rw [this]
        rw [List.append_assoc, List.getElem?_append_right (by simp; omega), List.getElem?_append_left (by simp; omega)] at e
        simp only [List.length_take, Nat.min_eq_left (show o ≤ l.length by omega)] at e
        rw [List.getElem?_eq_getElem (by omega)] at e
        exact e
      · rw [World.cell?_setCells_out b vs o w ⟨b, p, none⟩ (fun _ _ => .inr (by show o + vs.length ≤ p; omega))]
        rw [List.getElem?_append_right (by simp; omega), List.getElem?_drop] at e
        simp only [List.length_append, List.length_take, Nat.min_eq_left (show o ≤ l.length by omega)] at e
        rw [show o + vs.length + (p - (o + vs.length)) = p by omega] at e
        exact h.c p u e
  · rw [World.frozen?_setCells]
    exact h.z p (by omega)
theorem Keeps.setCells {S : Nat → Prop} {a : World} {b : Nat} (hp : b < a.heap.size → S b) : ∀ (vs : List Value) (o : Nat) {b' : World}, Keeps S a b' → Keeps S a (b'.setCells b o vs)
  | [], _, _, h => h
  | v :: r, o, _, h => Keeps.setCells hp r (o + 1) (h.setCell (p := ⟨b, o, none⟩) hp v)
theorem Keeps.setsA {a b' : World} (h : Keeps (fun k => k = b) a b') (o : Nat) (vs : List Value) : Keeps (fun k => k = b) a (b'.setCells b o vs) := Keeps.setCells (S := fun k => k = b) (fun _ => rfl) vs o h
theorem CL.drew (h : CL w b l) : CL w.drew b l := ⟨h.c, h.z⟩
end
theorem CL.made (w : World) (l : List Value) (t : TypeId) : CL (w.alloc (.cells l.toArray t)) w.heap.size l := by
  refine ⟨fun o v e => ?_, fun o _ => ?_⟩
  · have : o < l.length := (List.getElem?_eq_some_iff.1 e).1
    simp [e]
  · simp
theorem run_store_nf (P : Program) (W : World) (p : Addr) (h : (W.cell? p).isSome = true) (hz : W.frozen? p = false) : (store p .nilFunc).run P W = .ok () (W.setCell p .nilFunc) := by
  obtain ⟨u, hu⟩ := Option.isSome_iff_exists.1 h
  rw [run_store P W _ _ _ rfl]; simp [hu, hz]
theorem run_store_f (P : Program) (W : World) (p : Addr) (f : Fn) (a b : Array Value) (h : (W.cell? p).isSome = true) (hz : W.frozen? p = false) : (store p (.func f a b)).run P W = .ok () (W.setCell p (.func f a b)) := by
  obtain ⟨u, hu⟩ := Option.isSome_iff_exists.1 h
  rw [run_store P W _ _ _ rfl]; simp [hu, hz]
theorem wpList_load_run {P : Program} {w : World} {ops : Array Oper} {rest : List Oper} {o : Oper} {a : Act} {Q : Exit → Act → World → Prop} (hgd : o.guard = none) (ty : TypeId) (x : Operand) (ho : o.op = .load ty x) (ad : Addr) (hx : a.eval x = .pointer (some ad)) (v : Value)
    (hr : (loadVar ty ad).run P w = .ok v w) (h : wpList P ops Q rest (a.put o.dst v) w) : wpList P ops Q (o :: rest) a w :=
  wpList_plain hgd fun _ hK => by
    unfold Oper.wp execOp
    simp only [ho, hx, Instr.loadAt, Instr.sureAddr, Sem.run_bind, Sem.run_pure, Result.andThen_ok, hr]
    exact hK _ _ h
theorem wpAnyH_one {P : Program} {ops : Array Oper} {Q : Exit → Act → World → Prop} {md : Region.Mode} {S : World → Prop} {fuel : Nat} {listed : Array Bool} {a : Act} {w : World} {o : Oper} (i : Nat) (hr : Region.ready md ops listed = [i]) (hoi : ops[i]? = some o) (hgd : o.guard = none)
    (h : Oper.wp P o a w (fun a' w' => S w' ∧ (S w' → wpAnyH P md ops Q S fuel (listed.setIfInBounds i true) a' w')) Q) : wpAnyH P md ops Q S (fuel + 1) listed a w := by
  refine wpAnyH_ready hr (by simp) (AllReadyH.cons hoi (fun K hK => ?_) AllReadyH.nil)
  rw [if_pos (by simp [Region.wanted, hgd])]
  exact Oper.wp_mono (fun a' w' e => hK.out _ _ e.1 e.2) h
theorem wpAnyH_store {P : Program} {ops : Array Oper} {Q : Exit → Act → World → Prop} {md : Region.Mode} {S : World → Prop} {fuel : Nat} {listed : Array Bool} {a : Act} {w : World} {o : Oper} (i : Nat) (hr : Region.ready md ops listed = [i]) (hoi : ops[i]? = some o) (hgd : o.guard = none)
    (ty : TypeId) (x y : Operand) (ho : o.op = .store ty x y) (b off n : Nat) (cells : Array Value) (hx : a.eval x = .pointer (some ⟨b, off, none⟩)) (hy : a.eval y = .agg cells) (hn : cells.size = n) (ht : w.there b off n) (hi : (P.info? ty).map (·.size) = some n) (h1 : cells.all (·.oneCell') = true)
    (hS : S (w.setCells b off cells.toList)) (h : S (w.setCells b off cells.toList) → wpAnyH P md ops Q S fuel (listed.setIfInBounds i true) (a.put o.dst undef) (w.setCells b off cells.toList)) : wpAnyH P md ops Q S (fuel + 1) listed a w := by
  refine wpAnyH_ready hr (by simp) (AllReadyH.cons hoi (fun K hK => ?_) AllReadyH.nil)
  rw [if_pos (by simp [Region.wanted, hgd])]
  exact wp_store_mid ty x y ho b off cells hx hy (hn ▸ ht) (hn ▸ hi) h1 (hK.out _ _ hS h)
theorem wpList_store_cl {P : Program} {ops : Array Oper} {rest : List Oper} {op : Oper} {a : Act} {w : World} {Q : Exit → Act → World → Prop} (hgd : op.guard = none) (ty : TypeId) (x y : Operand) (ho : op.op = .store ty x y)
    (b o n : Nat) (cells : Array Value) (hx : a.eval x = .pointer (some ⟨b, o, none⟩)) (hy : a.eval y = .agg cells) (hn : cells.size = n) {l : List Value} (hC : CL w b l) (hl : o + n ≤ l.length)
    (hi : (P.info? ty).map (·.size) = some n) (h1 : cells.all (·.oneCell') = true)
    (h : ∀ w1, CL w1 b (sets l o cells.toList) → Keeps (fun k => k = b) w w1 → w1.heap.size = w.heap.size → wpList P ops Q rest (a.put op.dst undef) w1) : wpList P ops Q (op :: rest) a w :=
  wpList_store_mid hgd ty x y ho b o cells hx hy (hn ▸ hC.there hl) (hn ▸ hi) h1
    (h _ (hC.sets (by simp only [Array.length_toList]; omega)) ((Keeps.refl _ w).setsA _ _) (by
      have : ∀ (vs : List Value) (o : Nat) (w : World), (w.setCells b o vs).heap.size = w.heap.size := by
        intro vs
        induction vs with
        | nil => intro o w; rfl
        | cons v r ih => intro o w; show (World.setCells _ b (o + 1) r).heap.size = _; rw [ih]; simp
      exact this _ _ _))
end Go.Proofs.Ytmnmphkkcabkiaa

namespace Go.Proofs.Ytmnmphkkcabkiaa
open Go.RowKit
structure Rw where
  step : Int
  thread : Int
  job : Int
  try_ : Int
  no : Int
  kind : Int
  phase : Int
  object : Int
  entry : Int
  enemy : Int
  cell : Int
  seen : Int
  wrote : Int
  done : Bool
  abort : Bool
  timeout : Bool
  wait : Int
  told : Bool
  vN : Int
  vX : Int
  vD : Bool
  puts : Bool
  pN : Int
  pX : Int
  pD : Bool
  fin : Int
def Rw.cells (r : Rw) : List Value :=
  [.int .i64 r.step, .int .i64 r.thread, .int .i64 r.job, .int .i64 r.try_, .int .i64 r.no, .int .i64 r.kind, .int .i64 r.phase, .int .i64 r.object, .int .i64 r.entry, .int .i64 r.enemy, .int .i64 r.cell, .int .i64 r.seen, .int .i64 r.wrote,
   .bool r.done, .bool r.abort, .bool r.timeout, .int .i64 r.wait, .bool r.told, .int .i64 r.vN, .int .i64 r.vX, .bool r.vD, .bool r.puts, .int .i64 r.pN, .int .i64 r.pX, .bool r.pD, .int .i64 r.fin]
def rw0 : Rw := ⟨0, 0, 0, 0, 0, 0, 0, 0, 0, 0, 0, 0, 0, false, false, false, 0, false, 0, 0, false, false, 0, 0, false, 0⟩
instance : Inhabited Rw := ⟨rw0⟩
structure RB (w : World) (b : Nat) (r : Rw) : Prop where
  cl : CL w b r.cells
  c0 : w.cell? ⟨b, 0, none⟩ = some (.int .i64 r.step)
  c1 : w.cell? ⟨b, 1, none⟩ = some (.int .i64 r.thread)
  c2 : w.cell? ⟨b, 2, none⟩ = some (.int .i64 r.job)
  c3 : w.cell? ⟨b, 3, none⟩ = some (.int .i64 r.try_)
  c4 : w.cell? ⟨b, 4, none⟩ = some (.int .i64 r.no)
  c5 : w.cell? ⟨b, 5, none⟩ = some (.int .i64 r.kind)
  c6 : w.cell? ⟨b, 6, none⟩ = some (.int .i64 r.phase)
  c7 : w.cell? ⟨b, 7, none⟩ = some (.int .i64 r.object)
  c8 : w.cell? ⟨b, 8, none⟩ = some (.int .i64 r.entry)
  c11 : w.cell? ⟨b, 11, none⟩ = some (.int .i64 r.seen)
  c13 : w.cell? ⟨b, 13, none⟩ = some (.bool r.done)
  c17 : w.cell? ⟨b, 17, none⟩ = some (.bool r.told)
  c21 : w.cell? ⟨b, 21, none⟩ = some (.bool r.puts)
  c25 : w.cell? ⟨b, 25, none⟩ = some (.int .i64 r.fin)
theorem RB.of {w : World} {b : Nat} {r : Rw} (h : CL w b r.cells) : RB w b r :=
  ⟨h, h.c 0 _ rfl, h.c 1 _ rfl, h.c 2 _ rfl, h.c 3 _ rfl, h.c 4 _ rfl, h.c 5 _ rfl, h.c 6 _ rfl, h.c 7 _ rfl, h.c 8 _ rfl, h.c 11 _ rfl, h.c 13 _ rfl, h.c 17 _ rfl, h.c 21 _ rfl, h.c 25 _ rfl⟩
theorem rb_made (w : World) (r : Rw) : RB (w.alloc (.cells r.cells.toArray 50)) w.heap.size r := RB.of (CL.made w _ _)
theorem rw_box (w : World) (r : Rw) : ∃ w0, w0 = w.alloc (.cells r.cells.toArray 50) ∧ Keeps (fun _ => False) w w0 ∧ RB w0 w.heap.size r ∧ w0.heap.size = w.heap.size + 1 := ⟨_, rfl, (Keeps.refl _ w).alloc _, rb_made w r, by simp⟩
end Go.Proofs.Ytmnmphkkcabkiaa

namespace Go.Proofs.Ytmnmphkkcabkiaa
open Go.RowKit
theorem add_atT (b o j : Nat) : (⟨b, o, none⟩ : Addr).add j = ⟨b, o + j, none⟩ := by
  unfold Addr.add; split <;> simp_all
structure Sw where
  step : Int
  object : Int
  entry : Int
  own : Bool
  write : Bool
  rel : Bool
  vN : Int
  vX : Int
  vD : Bool
def Sw.cells (s : Sw) : List Value := [.int .i64 s.step, .int .i64 s.object, .int .i64 s.entry, .bool s.own, .bool s.write, .bool s.rel, .int .i64 s.vN, .int .i64 s.vX, .bool s.vD]
structure Wo where
  object : Int
  vN : Int
  vX : Int
  vD : Bool
def Wo.cells (x : Wo) : List Value := [.int .i64 x.object, .int .i64 x.vN, .int .i64 x.vX, .bool x.vD]
structure Tv where
  thread : Int
  job : Int
  try_ : Int
  no : Int
  stamp : Int
  bgn : Int
  fnl : Int
  end_ : Int
  out : Int
  saws : List Sw
  wrs : List Wo
def Tv.cells (t : Tv) (sv wv : Value) : List Value := [.int .i64 t.thread, .int .i64 t.job, .int .i64 t.try_, .int .i64 t.no, .int .i64 t.stamp, .int .i64 t.bgn, .int .i64 t.fnl, .int .i64 t.end_, .int .i64 t.out, sv, wv]
def scl (l : List Sw) : List Value := l.flatMap Sw.cells
def wcl (l : List Wo) : List Value := l.flatMap Wo.cells
theorem scl_app (l m : List Sw) : scl (l ++ m) = scl l ++ scl m := by unfold scl; rw [List.flatMap_append]
theorem wcl_app (l m : List Wo) : wcl (l ++ m) = wcl l ++ wcl m := by unfold wcl; rw [List.flatMap_append]
theorem scl_one (s : Sw) : scl [s] = s.cells := by simp [scl]
theorem wcl_one (s : Wo) : wcl [s] = s.cells := by simp [wcl]
theorem scl_len : ∀ l : List Sw, (scl l).length = l.length * 9
  | [] => rfl
  | q :: l => by
    have h := scl_len l
    show (q.cells ++ scl l).length = _
    rw [List.length_append, h]
    show 9 + l.length * 9 = (l.length + 1) * 9
    omega
theorem wcl_len : ∀ l : List Wo, (wcl l).length = l.length * 4
  | [] => rfl
  | q :: l => by
    have h := wcl_len l
    show (q.cells ++ wcl l).length = _
    rw [List.length_append, h]
    show 4 + l.length * 4 = (l.length + 1) * 4
    omega
theorem wcl_get : ∀ (l : List Wo) (i : Nat) (x : Wo), l[i]? = some x → ∀ j v, x.cells[j]? = some v → (wcl l)[i * 4 + j]? = some v
  | [], i, x, h, _, _, _ => by simp at h
  | q :: l, 0, x, h, j, v, hv => by
    have h : q = x := by simpa using h
    subst h
    have hj : j < 4 := (List.getElem?_eq_some_iff.1 hv).1
    show (q.cells ++ wcl l)[0 * 4 + j]? = some v
    rw [Nat.zero_mul, Nat.zero_add, List.getElem?_append_left hj]
    exact hv
  | q :: l, i + 1, x, h, j, v, hv => by
    have ih := wcl_get l i x (by simpa using h) j v hv
    show (q.cells ++ wcl l)[(i + 1) * 4 + j]? = some v
    rw [List.getElem?_append_right (by show 4 ≤ _; omega)]
    show (wcl l)[(i + 1) * 4 + j - 4]? = some v
    rw [show (i + 1) * 4 + j - 4 = i * 4 + j by omega]
    exact ih
theorem scl_get : ∀ (l : List Sw) (i : Nat) (x : Sw), l[i]? = some x → ∀ j v, x.cells[j]? = some v → (scl l)[i * 9 + j]? = some v
  | [], i, x, h, _, _, _ => by simp at h
  | q :: l, 0, x, h, j, v, hv => by
    have h : q = x := by simpa using h
    subst h
    have hj : j < 9 := (List.getElem?_eq_some_iff.1 hv).1
    show (q.cells ++ scl l)[0 * 9 + j]? = some v
    rw [Nat.zero_mul, Nat.zero_add, List.getElem?_append_left hj]
    exact hv
  | q :: l, i + 1, x, h, j, v, hv => by
    have ih := scl_get l i x (by simpa using h) j v hv
    show (q.cells ++ scl l)[(i + 1) * 9 + j]? = some v
    rw [List.getElem?_append_right (by show 9 ≤ _; omega)]
    show (scl l)[(i + 1) * 9 + j - 9]? = some v
    rw [show (i + 1) * 9 + j - 9 = i * 9 + j by omega]
    exact ih
theorem wcl_set : ∀ (l : List Wo) (i : Nat) (x : Wo), i < l.length → wcl (l.set i x) = (wcl l).take (i * 4) ++ x.cells ++ (wcl l).drop (i * 4 + 4)
  | [], i, x, h => by simp at h
  | q :: l, 0, x, h => by
    show x.cells ++ wcl l = (q.cells ++ wcl l).take 0 ++ x.cells ++ (q.cells ++ wcl l).drop 4
    rw [List.take_zero, List.nil_append, List.drop_append_of_le_length (by show 4 ≤ 4; omega)]
    rfl
  | q :: l, i + 1, x, h => by
    have ih := wcl_set l i x (by simpa using h)
    show q.cells ++ wcl (l.set i x) = (q.cells ++ wcl l).take ((i + 1) * 4) ++ x.cells ++ (q.cells ++ wcl l).drop ((i + 1) * 4 + 4)
    have e1 : (q.cells ++ wcl l).take ((i + 1) * 4) = q.cells ++ (wcl l).take (i * 4) := by
      rw [List.take_append, show (i + 1) * 4 - q.cells.length = i * 4 by show (i + 1) * 4 - 4 = i * 4; omega, List.take_of_length_le (by show 4 ≤ _; omega)]
    have e2 : (q.cells ++ wcl l).drop ((i + 1) * 4 + 4) = (wcl l).drop (i * 4 + 4) := by
      rw [List.drop_append, show (i + 1) * 4 + 4 - q.cells.length = i * 4 + 4 by show (i + 1) * 4 + 4 - 4 = i * 4 + 4; omega, List.drop_of_length_le (by show 4 ≤ _; omega), List.nil_append]
    rw [e1, e2, ih, List.append_assoc, List.append_assoc, List.append_assoc]
theorem append_sz {t e : TypeId} {z : Value} {size bytes : Nat} (ht : Try.prog.underlying t = some (.slice e)) (hinfo : (Try.prog.info? e).map (fun i => (i.zero, i.size, i.bytes)) = some (some z, size, bytes)) (hz : z.cells.size = size) (hs : 0 < size) {W : World} {base k : Nat} {v : Value} {xs : List Value} (hown : W.ownsRow base e size v k xs) (hb : base ≤ W.heap.size) (hb0 : 0 < bytes) (hk : (k + 1) * bytes ≤ 140737488355328) (q : List Value) (hq : q.length = size) (h1 : ∀ u ∈ q, u.oneCell' = true) :
    ∃ v' w', (Builtin.append_ #[t, t] t #[v, .slice (some ⟨W.heap.size, 0, none⟩) 1 1]).run Try.prog (W.alloc (.cells q.toArray e)) = .ok v' w' ∧ w'.ownsRow base e size v' (k + 1) (xs ++ q) ∧ Keeps (fun i => v.ownBlock = some i) W w' ∧ (v'.ownBlock = v.ownBlock ∨ v'.ownBlock = some (W.heap.size + 1)) := by
  obtain ⟨i0, hi0, hzz⟩ := Option.map_eq_some_iff.1 hinfo
  simp only [Prod.mk.injEq] at hzz
  obtain ⟨hz0, hz1, hz2⟩ := hzz
  have hk2 : k + 1 ≤ 140737488355328 := Nat.le_trans (Nat.le_mul_of_pos_right _ hb0) hk
  obtain ⟨v', w', hr, ho, hg, _, hbl⟩ := run_append_own_at (P := Try.prog) (w := W.alloc (.cells q.toArray e)) base t t e i0 _ size bytes ht hi0 hz0 hz1 hz2 hz hs v k xs (((Keeps.refl (fun _ => False) W).alloc _).owns hown (fun _ _ e => e)) ⟨W.heap.size, 0, none⟩ 1 1 q (by omega) (fun j y hy => by
      rw [add_atT]
      have := (CL.made W q e).c j y hy
      simpa using this) h1 (by unfold maxLen; omega) (by omega) (Nat.le_trans hb (by simp))
  exact ⟨v', w', hr, ho, ((Keeps.refl _ W).alloc _).grown hg (fun i _ e => e), by simpa using hbl⟩
theorem own_slice {W : World} {base n size : Nat} {e : TypeId} {v : Value} {l : List Value} (h : W.ownsRow base e size v n l) : ∃ a cap, v = .slice a n cap ∧ (∀ j u, l[j]? = some u → ∃ g, a = some ⟨g, 0, none⟩ ∧ W.cell? ⟨g, j, none⟩ = some u) ∧ (∀ g, v.ownBlock = some g → a = some ⟨g, 0, none⟩) ∧ (∀ g off, a = some ⟨g, off, none⟩ → off = 0 ∧ v.ownBlock = some g) := by
  have hlen := h.1
  rcases h.2 with ⟨rfl, h0⟩ | ⟨g, cap, cur, rfl, _⟩
  · have hz : n = 0 := by first | exact h0.1 | omega
    subst hz
    refine ⟨none, 0, rfl, fun j u e => ?_, (fun g e => by cases e), fun g off e => by cases e⟩
    have := (List.getElem?_eq_some_iff.1 e).1
    omega
  · refine ⟨_, cap, rfl, fun j u e => ⟨g, rfl, ?_⟩, fun g' e => by cases e; rfl, fun g' off e => by cases e; exact ⟨rfl, rfl⟩⟩
    have := h.cells (g := g) rfl j u e
    rw [add_atT, Nat.zero_add] at this
    exact this
theorem owns_low {W : World} {base base' n size : Nat} {e : TypeId} {v : Value} {l : List Value} (h : W.ownsRow base e size v n l) (hb : base' ≤ base) : W.ownsRow base' e size v n l := by
  refine ⟨h.1, ?_⟩
  rcases h.2 with h0 | ⟨g, cap, cur, rfl, hbg, rest⟩
  · exact .inl h0
  · exact .inr ⟨g, cap, cur, rfl, Nat.le_trans hb hbg, rest⟩
theorem owns_baseT {w : World} {base : Nat} {e : TypeId} {size : Nat} {v : Value} {n : Nat} {xs : List Value} (h : w.ownsRow base e size v n xs) (k : Nat) (hk : v.ownBlock = some k) : base ≤ k := by
  rcases h.2 with ⟨rfl, _⟩ | ⟨g, cap, cur, rfl, hb, _⟩
  · cases hk
  · cases hk
    exact hb
def WRL (w : World) (a : Option Addr) (l : List Wo) : Prop := ∀ i x, l[i]? = some x → ∃ b, a = some ⟨b, 0, none⟩ ∧ ∀ j v, x.cells[j]? = some v → w.cell? ⟨b, i * 4 + j, none⟩ = some v
theorem WRL.keep {w w' : World} {a : Option Addr} {l : List Wo} (h : WRL w a l) (k : Keeps (fun _ => False) w w') : WRL w' a l := fun i x hx => by
  obtain ⟨b, e, hc⟩ := h i x hx
  exact ⟨b, e, fun j v hv => k.cell (hc j v hv) (fun e => e)⟩
theorem wrl_of {W : World} {base n : Nat} {v : Value} {l : List Wo} (h : W.ownsRow base 46 4 v n (wcl l)) : ∃ a cap, v = .slice a n cap ∧ WRL W a l ∧ n = l.length := by
  have hl := h.1
  rw [wcl_len] at hl
  obtain ⟨a, cap, rfl, hc, _⟩ := own_slice h
  refine ⟨a, cap, rfl, fun i x hx => ?_, by omega⟩
  obtain ⟨g, rfl, _⟩ := hc (i * 4 + 0) _ (wcl_get l i x hx 0 _ rfl)
  refine ⟨g, rfl, fun j v hv => ?_⟩
  obtain ⟨g', e', hc'⟩ := hc (i * 4 + j) _ (wcl_get l i x hx j v hv)
  cases e'
  exact hc'
def putS (x : Wo) (s : List Wo × Bool) (y : Wo) : List Wo × Bool := if y.object = x.object then (s.1 ++ [x], true) else if s.2 = false ∧ x.object < y.object then (s.1 ++ [x] ++ [y], true) else (s.1 ++ [y], s.2)
def putK (l : List Wo) (x : Wo) (k : Nat) : List Wo × Bool := (l.take k).foldl (putS x) ([], false)
def putD (l : List Wo) (x : Wo) : List Wo := if (putK l x l.length).2 then (putK l x l.length).1 else (putK l x l.length).1 ++ [x]
theorem putK_succ {l : List Wo} {x y : Wo} {k : Nat} (h : l[k]? = some y) : putK l x (k + 1) = putS x (putK l x k) y := by
  unfold putK
  rw [List.take_add_one, h]
  show List.foldl (putS x) ([], false) (l.take k ++ [y]) = _
  rw [List.foldl_append]
  rfl
theorem putK_len (l : List Wo) (x : Wo) : ∀ k, (putK l x k).1.length ≤ k + (if (putK l x k).2 then 1 else 0)
  | 0 => by simp [putK]
  | k + 1 => by
    have ih := putK_len l x k
    cases h : l[k]? with
    | none =>
      have : putK l x (k + 1) = putK l x k := by
        unfold putK
        rw [List.take_add_one, h]
        simp
      rw [this]
      omega
    | some y =>
      rw [putK_succ h]
      unfold putS
      split
      · simp only [List.length_append, List.length_cons, List.length_nil]
        split at ih <;> simp <;> omega
      · split
        · rename_i h1 h2
          rw [h2.1] at ih
          simp at ih
          simp only [List.length_append, List.length_cons, List.length_nil]
          simp
          omega
        · simp only [List.length_append, List.length_cons, List.length_nil]
          split at ih <;> rename_i hb <;> simp [hb] <;> omega
end Go.Proofs.Ytmnmphkkcabkiaa

namespace Go.Proofs.Ytmnmphkkcabkiaa
open Go.RowKit
attribute [local go_sem] Oper.semAt_some run_store_nf run_store_f
theorem wpList_append_t {P : Program} {w : World} {ops : Array Oper} {rest : List Oper} {o : Oper} {a : Act} {Q : Exit → Act → World → Prop} (hgd : o.guard = none) (s x : Operand) (t : TypeId)
    (ho : o.op = .call { callee := .builtin .append, args := #[s, x], argTypes := #[t, t] }) (v src v' : Value) (w' : World) (hs : a.eval s = v) (hx : a.eval x = src)
    (hr : (Builtin.append_ #[t, t] o.type #[v, src]).run P w = .ok v' w') (h : wpList P ops Q rest (a.put o.dst v') w') : wpList P ops Q (o :: rest) a w :=
  wpList_plain hgd fun _ hK => by
    unfold Oper.wp execOp
    simp only [ho, resolve, invoke, builtin, Sem.run_bind, Sem.run_pure, Result.andThen_ok, List.map_toArray, List.map_cons, List.map_nil, hs, hx, hr]
    exact hK _ _ h
theorem uWr : Try.prog.underlying 40 = some (.slice 46) := by kernel_rfl
theorem iWr : (Try.prog.info? 46).map (fun i => (i.zero, i.size, i.bytes)) = some (some (.agg #[.int .i64 0, .int .i64 0, .int .i64 0, .bool false]), 4, 32) := by kernel_rfl
theorem append_w {W : World} {base k : Nat} {v : Value} {l : List Wo} (hown : W.ownsRow base 46 4 v k (wcl l)) (hb : base ≤ W.heap.size) (hk : (k + 1) * 32 ≤ 140737488355328) (x : Wo) :
    ∃ v' w', (Builtin.append_ #[40, 40] 40 #[v, .slice (some ⟨W.heap.size, 0, none⟩) 1 1]).run Try.prog (W.alloc (.cells #[.int .i64 x.object, .int .i64 x.vN, .int .i64 x.vX, .bool x.vD] 46)) = .ok v' w' ∧ w'.ownsRow base 46 4 v' (k + 1) (wcl (l ++ [x])) ∧ Keeps (fun i => v.ownBlock = some i) W w' := by
  obtain ⟨v', w', hr, ho, kk, _⟩ := append_sz uWr iWr rfl (by decide) hown hb (by decide) hk x.cells rfl (fun u hu => by
    unfold Wo.cells at hu
    simp at hu
    rcases hu with rfl | rfl | rfl | rfl <;> rfl)
  refine ⟨v', w', hr, ?_, kk⟩
  rw [wcl_app, wcl_one]
  exact ho
end Go.Proofs.Ytmnmphkkcabkiaa

namespace Go.Proofs.Ytmnmphkkcabkiaa
open Go.RowKit
theorem results_cell1 {fn : Func} {p : Tmp} {ty : TypeId} (h : fn.results = #[.cell p ty]) (tmps : Array Value) (P : Program) (w : World) :
    (results fn tmps).run P w = ((asAddr (tmps.getD p undef)).run P w).andThen fun a w₁ => (loadVar ty a).run P w₁ := by
  simp only [results, h]
  simp [Sem.run_bind, Result.andThen]
def sil (r : Rw) : Bool := r.fin == 0 && !r.told && !r.puts
def ofA (k : Int) : Bool := decide (2 < k) && decide (k < 17)
def ofD (k : Int) : Bool := k != 0 && k != 1 && k != 2 && k != 17
def dec (n : Int) : Bool := n == 1 || n == 2 || n == 3
def comm (r : Rw) : Bool := r.kind == 15 && r.done
def endP (r : Rw) : Bool := if r.fin = 1 then comm r else if r.fin = 2 ∨ r.fin = 3 then r.kind == 16 else if r.fin = 0 ∨ r.fin = 4 ∨ r.fin = 5 then !comm r else false
def endD (r : Rw) : Bool := if decide (r.fin < 0) || decide (5 < r.fin) || (r.fin != 0 && !ofD r.kind) then false else if comm r != (r.fin == 1) then false else (r.fin != 2 && r.fin != 3) || r.kind == 16
def readP (r : Rw) (n : Int) : Bool :=
  if (r.told || r.puts) && decide (r.object < 0) then false
  else if r.kind = 4 then !r.told && decide (-1 ≤ r.entry) && decide (r.entry < n)
  else if r.told = false then true
  else if r.phase = 1 then decide (-1 ≤ r.entry) && decide (r.entry ≤ n)
  else if r.phase = 2 then decide (-1 ≤ r.entry) && decide (r.entry < n)
  else false
def readD (r : Rw) (n : Int) : Bool := if ofD r.kind then readP r n else !r.told && !r.puts
section
variable (w : World)
set_option maxHeartbeats 600000 in
set_option maxRecDepth 100000 in
theorem silent_any (r : Rw) : Calls Try.prog 52 #[.agg r.cells.toArray] w fun e w' => e = .returned (.bool (sil r)) ∧ Keeps (fun _ => False) w w' := by
  obtain ⟨w0, e0, k0, hb, -⟩ := rw_box w r
  obtain ⟨-, c0, c1, c2, c3, c4, c5, c6, c7, c8, c11, c13, c17, c21, c25⟩ := hb
  clear c0 c1 c2 c3 c4 c5 c6 c7 c8 c11 c13
  go_enter Try.func52, Try.ntmps52
  refine wp_seq_k (fun KK hKK => ?_)
  have hKH : Hid _ := hKK
  clear hKK
  go_wp2_with fail
  refine hKH.out _ _ ?_
  clear hKH KK
  rw [← e0]
  clear e0
  unfold sil
  generalize r.fin = fn at *
  generalize r.told = tl at *
  generalize r.puts = pt at *
  cases h1 : (fn == 0) <;> cases tl <;> cases pt <;> (go_wp2; go_ret; exact ⟨rfl, k0⟩)
set_option maxHeartbeats 600000 in
set_option maxRecDepth 100000 in
theorem whoOf_any (r : Rw) : Calls Try.prog 53 #[.agg r.cells.toArray] w fun e w' => e = .returned (.agg #[.int .i64 r.job, .int .i64 r.try_, .int .i64 r.no]) ∧ Keeps (fun _ => False) w w' := by
  obtain ⟨w0, e0, k0, hb, hz⟩ := rw_box w r
  have m1 : CL (w0.alloc (.cells #[.int .i64 0, .int .i64 0, .int .i64 0] 107)) (w.heap.size + 1) [.int .i64 0, .int .i64 0, .int .i64 0] := by rw [← hz]; exact CL.made w0 _ _
  have k1 : Keeps (fun _ => False) w (w0.alloc (.cells #[.int .i64 0, .int .i64 0, .int .i64 0] 107)) := k0.alloc _
  have c2 := ((Keeps.refl (fun _ => False) w0).alloc (.cells #[.int .i64 0, .int .i64 0, .int .i64 0] 107)).cell hb.c2 (fun e => e)
  have c3 := ((Keeps.refl (fun _ => False) w0).alloc (.cells #[.int .i64 0, .int .i64 0, .int .i64 0] 107)).cell hb.c3 (fun e => e)
  have c4 := ((Keeps.refl (fun _ => False) w0).alloc (.cells #[.int .i64 0, .int .i64 0, .int .i64 0] 107)).cell hb.c4 (fun e => e)
  clear hb hz k0
  go_enter Try.func53, Try.ntmps53
  refine wp_seq_k (fun KK hKK => ?_)
  have hKH : Hid _ := hKK
  clear hKK
  go_wp2_with fail
  refine hKH.out _ _ ?_
  clear hKH KK
  rw [← e0]
  clear e0
  generalize w0.alloc (.cells #[.int .i64 0, .int .i64 0, .int .i64 0] 107) = W1 at *
  have d0 := m1.c 0 _ rfl
  have d1 := m1.c 1 _ rfl
  have d2 := m1.c 2 _ rfl
  have y0 := m1.z 0 (by decide)
  have y1 := m1.z 1 (by decide)
  have y2 := m1.z 2 (by decide)
  clear m1
  generalize r.job = jb at *
  generalize r.try_ = ty at *
  generalize r.no = nn at *
  go_wp2
  refine bodyPost_ret (v := .agg #[.int .i64 jb, .int .i64 ty, .int .i64 nn]) (by rw [results_cell1 rfl]; go_simp) rfl ⟨rfl, ?_⟩
  exact ((k1.setCell (fun h => absurd h (by simp)) _).setCell (fun h => absurd h (by simp)) _).setCell (fun h => absurd h (by simp)) _
set_option maxHeartbeats 600000 in
set_option maxRecDepth 100000 in
theorem ofAttempt_any (k : Int) : Calls Try.prog 41 #[.int .i64 k] w fun e w' => e = .returned (.bool (ofA k)) ∧ w' = w := by
  unfold ofA
  cases h1 : decide (2 < k) <;> cases h2 : decide (k < 17) <;>
  (go_enter Try.func41, Try.ntmps41
   go_wp2
   go_ret
   exact ⟨rfl, rfl⟩)
set_option maxHeartbeats 600000 in
set_option maxRecDepth 100000 in
theorem decides_any (k : Int) : Calls Try.prog 29 #[.int .i64 k] w fun e w' => e = .returned (.bool (dec k)) ∧ w' = w := by
  unfold dec
  cases h1 : (k == 1) <;> cases h2 : (k == 2) <;> cases h3 : (k == 3) <;>
  (go_enter Try.func29, Try.ntmps29
   go_wp2
   go_ret
   exact ⟨rfl, rfl⟩)
set_option maxHeartbeats 600000 in
set_option maxRecDepth 100000 in
theorem endFits_any (r : Rw) : Calls Try.prog 54 #[.agg r.cells.toArray] w fun e w' => e = .returned (.bool (endP r)) ∧ Keeps (fun _ => False) w w' := by
  obtain ⟨w0, e0, k0, hb, -⟩ := rw_box w r
  obtain ⟨-, c0, c1, c2, c3, c4, c5, c6, c7, c8, c11, c13, c17, c21, c25⟩ := hb
  clear c0 c1 c2 c3 c4 c6 c7 c8 c11 c17 c21
  go_enter Try.func54, Try.ntmps54
  refine wp_seq_k (fun KK hKK => ?_)
  have hKH : Hid _ := hKK
  clear hKK
  go_wp2_with fail
  refine hKH.out _ _ ?_
  clear hKH KK
  rw [← e0]
  clear e0
  unfold endP comm
  generalize r.kind = kd at *
  generalize r.done = dn at *
  generalize r.fin = fn at *
  by_cases g : fn = 0 ∨ fn = 1 ∨ fn = 2 ∨ fn = 3 ∨ fn = 4 ∨ fn = 5
  · rcases g with rfl | rfl | rfl | rfl | rfl | rfl
    iterate 2
      cases h1 : (kd == 15)
      · go_wp2; go_ret; exact ⟨rfl, k0⟩
      · cases dn <;> (go_wp2; go_ret; exact ⟨rfl, k0⟩)
    iterate 2
      cases h1 : (kd == 15)
      · cases h2 : (kd == 16) <;> (go_wp2; go_ret; exact ⟨rfl, k0⟩)
      · cases dn <;> cases h2 : (kd == 16) <;> (go_wp2; go_ret; exact ⟨rfl, k0⟩)
    iterate 2
      cases h1 : (kd == 15)
      · go_wp2; go_ret; exact ⟨rfl, k0⟩
      · cases dn <;> (go_wp2; go_ret; exact ⟨rfl, k0⟩)
  · have b0 : (fn == 0) = false := beq_eq_false_iff_ne.2 (by omega)
    have b1 : (fn == 1) = false := beq_eq_false_iff_ne.2 (by omega)
    have b2 : (fn == 2) = false := beq_eq_false_iff_ne.2 (by omega)
    have b3 : (fn == 3) = false := beq_eq_false_iff_ne.2 (by omega)
    have b4 : (fn == 4) = false := beq_eq_false_iff_ne.2 (by omega)
    have b5 : (fn == 5) = false := beq_eq_false_iff_ne.2 (by omega)
    rw [if_neg (by omega), if_neg (by omega), if_neg (by omega)]
    clear g
    cases h1 : (kd == 15)
    · go_wp2; go_ret; exact ⟨rfl, k0⟩
    · cases dn <;> (go_wp2; go_ret; exact ⟨rfl, k0⟩)
end
end Go.Proofs.Ytmnmphkkcabkiaa

namespace Go.Proofs.Ytmnmphkkcabkiaa
open Go.RowKit
structure IB (w : World) (b n : Nat) (f : Nat → Int) : Prop where
  c : ∀ o, o < n → w.cell? ⟨b, o, none⟩ = some (.int .i64 (f o))
  z : ∀ o, o < n → w.frozen? ⟨b, o, none⟩ = false
def up (f : Nat → Int) (o : Nat) (v : Int) : Nat → Int := fun p => if p = o then v else f p
theorem up_same {f : Nat → Int} {o : Nat} {v : Int} : up f o v o = v := if_pos rfl
theorem up_other {f : Nat → Int} {o p : Nat} {v : Int} (h : p ≠ o) : up f o v p = f p := if_neg h
section
variable {w w' : World} {b n : Nat} {f : Nat → Int}
theorem IB.lt (h : IB w b n f) (hn : 0 < n) : b < w.heap.size := World.block_lt_of_cell? _ _ (h.c 0 hn)
theorem IB.keep (h : IB w b n f) (hn : 0 < n) {S : Nat → Prop} (k : Keeps S w w') (hS : ¬ S b) : IB w' b n f :=
  ⟨fun o ho => k.cell (h.c o ho) hS, fun o ho => (k.frozen (p := ⟨b, o, none⟩) (h.lt hn) hS).trans (h.z o ho)⟩
theorem IB.set (h : IB w b n f) {o : Nat} (ho : o < n) (v : Int) : IB (w.setCell ⟨b, o, none⟩ (.int .i64 v)) b n (up f o v) := by
  refine ⟨fun p hp => ?_, fun p hp => by simp only [World.frozen?_setCell]; exact h.z p hp⟩
  by_cases e : p = o
  · subst e
    rw [up_same]
    exact World.cell?_setCell_same _ _ _ (h.c p hp)
  · rw [up_other e, World.cell?_setCell_other _ _ _ _ (by intro e2; injection e2 with _ e3; exact e e3.symm)]
    exact h.c p hp
end
theorem IB.made (w : World) (n : Nat) (v : Int) (t : TypeId) : IB (w.alloc (.cells (List.replicate n (.int .i64 v)).toArray t)) w.heap.size n (fun _ => v) := by
  have := CL.made w (List.replicate n (.int .i64 v)) t
  exact ⟨fun o ho => this.c o _ (by simp [ho]), fun o ho => this.z o (by simpa using ho)⟩
set_option maxHeartbeats 2000000 in
set_option maxRecDepth 100000 in
theorem readFits_any (w : World) (s j t n cn : Int) (r : Rw) : Calls Try.prog 55 #[.agg #[.int .i64 s, .int .i64 j, .int .i64 t, .int .i64 n, .int .i64 cn], .agg r.cells.toArray] w fun e w' => e = .returned (.bool (readP r cn)) ∧ Keeps (fun _ => False) w w' := by
  obtain ⟨W, eW⟩ : ∃ W, W = w.alloc (.cells #[.int .i64 s, .int .i64 j, .int .i64 t, .int .i64 n, .int .i64 cn] 109) := ⟨_, rfl⟩
  have m0 : CL W w.heap.size [.int .i64 s, .int .i64 j, .int .i64 t, .int .i64 n, .int .i64 cn] := by rw [eW]; exact CL.made w _ _
  have kW : Keeps (fun _ => False) w W := by rw [eW]; exact (Keeps.refl _ w).alloc _
  have hzW : W.heap.size = w.heap.size + 1 := by rw [eW]; simp
  obtain ⟨w0, e0, k0, hb, -⟩ := rw_box W r
  rw [hzW] at hb
  have d4 := k0.cell (m0.c 4 _ rfl) (fun e => e)
  have k0 := kW.trans k0
  obtain ⟨-, c0, c1, c2, c3, c4, c5, c6, c7, c8, c11, c13, c17, c21, c25⟩ := hb
  clear c0 c1 c2 c3 c4 c11 c13 c25 m0 kW hzW
  go_enter Try.func55, Try.ntmps55
  refine wp_seq_k (fun KK hKK => ?_)
  have hKH : Hid _ := hKK
  clear hKK
  go_wp2_with fail
  refine hKH.out _ _ ?_
  clear hKH KK
  rw [← eW, ← e0]
  clear e0 eW
  unfold readP
  generalize r.told = tl at *
  generalize r.puts = pt at *
  generalize r.object = ob at *
  generalize r.kind = kd at *
  generalize r.phase = ph at *
  generalize r.entry = en at *
  by_cases hob : ob < 0
  · have b1 : decide (ob < 0) = true := decide_eq_true hob
    cases tl
    · cases pt
      · by_cases hk : kd = 4
        · subst hk
          cases h1 : decide (-1 ≤ en) <;> cases h2 : decide (en < cn) <;> (go_wp2; go_ret; (first | exact ⟨rfl, k0⟩ | (simp [*]; done)))
        · have b2 : (kd == 4) = false := beq_eq_false_iff_ne.2 hk
          (go_wp2; go_ret; (first | exact ⟨rfl, k0⟩ | (simp [*]; done)))
      · (go_wp2; go_ret; (first | exact ⟨rfl, k0⟩ | (simp [*]; done)))
    · (go_wp2; go_ret; (first | exact ⟨rfl, k0⟩ | (simp [*]; done)))
  · have b1 : decide (ob < 0) = false := decide_eq_false hob
    cases tl
    · cases pt
      · by_cases hk : kd = 4
        · subst hk
          cases h1 : decide (-1 ≤ en) <;> cases h2 : decide (en < cn) <;> (go_wp2; go_ret; (first | exact ⟨rfl, k0⟩ | (simp [*]; done)))
        · have b2 : (kd == 4) = false := beq_eq_false_iff_ne.2 hk
          (go_wp2; go_ret; (first | exact ⟨rfl, k0⟩ | (simp [*]; done)))
      · by_cases hk : kd = 4
        · subst hk
          cases h1 : decide (-1 ≤ en) <;> cases h2 : decide (en < cn) <;> (go_wp2; go_ret; (first | exact ⟨rfl, k0⟩ | (simp [*]; done)))
        · have b2 : (kd == 4) = false := beq_eq_false_iff_ne.2 hk
          (go_wp2; go_ret; (first | exact ⟨rfl, k0⟩ | (simp [*]; done)))
    · by_cases hk : kd = 4
      · subst hk
        cases pt <;> (go_wp2; go_ret; (first | exact ⟨rfl, k0⟩ | (simp [*]; done)))
      · have b2 : (kd == 4) = false := beq_eq_false_iff_ne.2 hk
        by_cases hp1 : ph = 1
        · subst hp1
          cases h1 : decide (-1 ≤ en) <;> cases h2 : decide (en ≤ cn) <;> cases pt <;> (go_wp2; go_ret; (first | exact ⟨rfl, k0⟩ | (simp [*]; done)))
        · have b3 : (ph == 1) = false := beq_eq_false_iff_ne.2 hp1
          by_cases hp2 : ph = 2
          · subst hp2
            cases h1 : decide (-1 ≤ en) <;> cases h2 : decide (en < cn) <;> cases pt <;> (go_wp2; go_ret; (first | exact ⟨rfl, k0⟩ | (simp [*]; done)))
          · have b4 : (ph == 2) = false := beq_eq_false_iff_ne.2 hp2
            cases pt <;> (go_wp2; go_ret; (first | exact ⟨rfl, k0⟩ | (simp [*]; done)))
end Go.Proofs.Ytmnmphkkcabkiaa

