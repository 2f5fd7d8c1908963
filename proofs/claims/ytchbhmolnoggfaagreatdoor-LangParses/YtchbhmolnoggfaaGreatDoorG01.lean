import Derived.WalkKit
import Derived.ProofKit
import Derived.Test.YtchbhmolnoggfaaGreatDoorRows
import Derived.Deep.AppendLies
import Derived.Deep.RegionHeld3
import Derived.Deep.RegionLaw
import Derived.Deep.LoopGhost
import Derived.BigRegion
import Derived.BigQuiet
import Derived.Below
import Derived.OpenShut
import Derived.WalkLawsBesides
import Derived.Recover
import Derived.Laws.NewBlocks
import Derived.Deep.MidRow
import Derived.Deep.RegionHeld
import Derived.Laws.StructEq
import Derived.Maps.AppendAt
import Derived.Deep.AppendSrc
import Derived.Deep.OwnRows
import Derived.Lib.ParseIntB
import Derived.Lib.ItoaMem
import Derived.Laws.BitsAllLaws
import Derived.Laws.Bits64
namespace Go.Proofs.YtchbhmolnoggfaaGreatDoor
open Go.RowKit
def I64 (a : Int) : Prop := -9223372036854775808 ≤ a ∧ a ≤ 9223372036854775807
theorem wf_of_i64 {a : Int} (h : I64 a) : (Lit.int .i64 a).wf = true := by
  unfold I64 at h
  simp [Lit.wf, IntKind.min, IntKind.max, IntKind.signed, IntKind.bits]
  omega
structure Keeps (S : Nat → Prop) (w w' : World) : Prop where
  os : w'.os = w.os
  tape : w'.tape = w.tape
  output : w'.output = w.output
  size : w.heap.size ≤ w'.heap.size
  block : ∀ k, k < w.heap.size → ¬ S k → w'.heap[k]? = w.heap[k]?
theorem Keeps.refl (S : Nat → Prop) (w : World) : Keeps S w w := ⟨rfl, rfl, rfl, Nat.le_refl _, fun _ _ _ => rfl⟩
theorem Keeps.trans {S : Nat → Prop} {a b c : World} (h : Keeps S a b) (k : Keeps S b c) : Keeps S a c :=
  ⟨k.os.trans h.os, k.tape.trans h.tape, k.output.trans h.output, Nat.le_trans h.size k.size, fun i hi hs => (k.block i (Nat.lt_of_lt_of_le hi h.size) hs).trans (h.block i hi hs)⟩
theorem Keeps.trans' {S T U : Nat → Prop} {a b c : World} (h : Keeps S a b) (k : Keeps T b c) (hS : ∀ i, i < a.heap.size → S i → U i) (hT : ∀ i, i < a.heap.size → T i → U i) : Keeps U a c :=
  ⟨k.os.trans h.os, k.tape.trans h.tape, k.output.trans h.output, Nat.le_trans h.size k.size, fun i hi hs => (k.block i (Nat.lt_of_lt_of_le hi h.size) (fun t => hs (hT i hi t))).trans (h.block i hi (fun t => hs (hS i hi t)))⟩
theorem Keeps.mono {S T : Nat → Prop} {a b : World} (h : Keeps S a b) (hS : ∀ i, i < a.heap.size → S i → T i) : Keeps T a b :=
  ⟨h.os, h.tape, h.output, h.size, fun i hi hs => h.block i hi (fun t => hs (hS i hi t))⟩
theorem Keeps.alloc {S : Nat → Prop} {a b : World} (h : Keeps S a b) (o : Obj) : Keeps S a (b.alloc o) :=
  ⟨h.os, h.tape, h.output, Nat.le_trans h.size (by simp), fun i hi hs => (Below.heap_alloc b o i (Nat.lt_of_lt_of_le hi h.size)).trans (h.block i hi hs)⟩
theorem Keeps.drew {S : Nat → Prop} {a b : World} (h : Keeps S a b) : Keeps S a b.drew := ⟨h.os, h.tape, h.output, h.size, h.block⟩
theorem Keeps.drewN {S : Nat → Prop} {a b : World} (h : Keeps S a b) (n : Nat) : Keeps S a (b.drewN n) := ⟨h.os, h.tape, h.output, h.size, h.block⟩
theorem Keeps.grown {S : Nat → Prop} {a b c : World} {row : Option Nat} (h : Keeps S a b) (k : b.grownBy c row) (hr : ∀ i, i < a.heap.size → row = some i → S i) : Keeps S a c :=
  ⟨k.os.trans h.os, k.tape.trans h.tape, k.output.trans h.output, Nat.le_trans h.size k.size, fun i hi hs => (k.block i (Nat.lt_of_lt_of_le hi h.size) (fun e => hs (hr i hi e.symm))).trans (h.block i hi hs)⟩
theorem Keeps.setCell {S : Nat → Prop} {a b : World} (h : Keeps S a b) {p : Addr} (hp : p.block < a.heap.size → S p.block) (u : Value) : Keeps S a (b.setCell p u) :=
  ⟨h.os, h.tape, h.output, by simpa using h.size, fun i hi hs => (Below.heap_setCell b p u i (fun e => hs (e ▸ hp (e ▸ hi)))).trans (h.block i hi hs)⟩
theorem Keeps.below {S : Nat → Prop} {a b : World} (h : Keeps S a b) {B : Nat} (hB : B ≤ a.heap.size) (hS : ∀ i, i < B → ¬ S i) : Below B a b :=
  ⟨h.os, h.tape, h.output, h.size, fun i hi => h.block i (Nat.lt_of_lt_of_le hi hB) (hS i hi)⟩
theorem Keeps.cell {S : Nat → Prop} {a b : World} (h : Keeps S a b) {p : Addr} {v : Value} (hc : a.cell? p = some v) (hS : ¬ S p.block) : b.cell? p = some v :=
  (World.cell?_of_block (h.block p.block (World.block_lt_of_cell? a p hc) hS)).trans hc
theorem Keeps.frozen {S : Nat → Prop} {a b : World} (h : Keeps S a b) {p : Addr} (hl : p.block < a.heap.size) (hS : ¬ S p.block) : b.frozen? p = a.frozen? p :=
  World.frozen?_of_block (h.block p.block hl hS)
theorem owns_lt' {w : World} {base : Nat} {e : TypeId} {size : Nat} {v : Value} {n : Nat} {xs : List Value} (h : w.ownsRow base e size v n xs) (k : Nat) (hk : v.ownBlock = some k) : k < w.heap.size := by
  rcases h.2 with ⟨rfl, _⟩ | ⟨g, cap, cur, rfl, hb, hg, rest⟩
  · cases hk
  · cases hk
    rcases Nat.lt_or_ge g w.heap.size with hlt | hge
    · exact hlt
    · rw [Array.getElem?_eq_none hge] at hg; cases hg
theorem owns_same {w w' : World} {base : Nat} {e : TypeId} {size : Nat} {v : Value} {n : Nat} {xs : List Value} (h : w.ownsRow base e size v n xs) (hk : ∀ g, v.ownBlock = some g → w'.heap[g]? = w.heap[g]?) : w'.ownsRow base e size v n xs := by
  refine ⟨h.1, ?_⟩
  rcases h.2 with h0 | ⟨g, cap, cur, rfl, hb, hg, rest⟩
  · exact .inl h0
  · exact .inr ⟨g, cap, cur, rfl, hb, (hk g rfl).trans hg, rest⟩
theorem Keeps.owns {S : Nat → Prop} {a b : World} (h : Keeps S a b) {base : Nat} {e : TypeId} {size : Nat} {v : Value} {n : Nat} {xs : List Value} (ho : a.ownsRow base e size v n xs) (hS : ∀ g, v.ownBlock = some g → ¬ S g) : b.ownsRow base e size v n xs :=
  owns_same ho (fun g hg => h.block g (owns_lt' ho g hg) (hS g hg))
structure Left (w w' : World) (F F' : List Nat) : Prop where
  keeps : Keeps (fun k => k ∈ F) w w'
  old : ∀ k ∈ F', k ∈ F ∨ w.heap.size ≤ k
theorem Left.refl (w : World) (F : List Nat) : Left w w F F := ⟨Keeps.refl _ w, fun _ h => .inl h⟩
theorem Left.trans {w w' w'' : World} {F F' F'' : List Nat} (h : Left w w' F F') (k : Left w' w'' F' F'') : Left w w'' F F'' :=
  ⟨h.keeps.trans' k.keeps (fun _ _ e => e) (fun i hi e => (h.old i e).elim id (fun e' => by omega)),
   fun i hi => (k.old i hi).elim (h.old i) (fun e => .inr (by have := h.keeps.size; omega))⟩
structure KS (w : World) where
  val : World
  property : Keeps (fun _ => False) w val
end Go.Proofs.YtchbhmolnoggfaaGreatDoor

namespace Go.Proofs.YtchbhmolnoggfaaGreatDoor
open Go.RowKit
structure Ins where
  code : Int
  dst : Int
  oR : Bool
  oN : Int
  xR : Bool
  xN : Int
  yR : Bool
  yN : Int
  op : Int
  rel : Int
  to : Int
def ins0 : Ins := ⟨0, 0, false, 0, false, 0, false, 0, 0, 0, 0⟩
instance : Inhabited Ins := ⟨ins0⟩
def Ins.cells (q : Ins) : List Value := [.int .i64 q.code, .int .i64 q.dst, .bool q.oR, .int .i64 q.oN, .bool q.xR, .int .i64 q.xN, .bool q.yR, .int .i64 q.yN, .int .i64 q.op, .int .i64 q.rel, .int .i64 q.to]
def rg (n : Int) : Bool := decide (0 ≤ n) && decide (n < 16)
def opk (r : Bool) (n : Int) : Bool := !r || rg n
def btw (n lo hi : Int) (u : Bool) : Bool := if u then decide (lo ≤ n) && decide (n ≤ hi) else n == 0
def fts (r : Bool) (n : Int) (u : Bool) : Bool := if u then opk r n else !r && n == 0
def kdD (c : Int) : Bool := c == 1 || c == 2 || c == 5 || c == 6
def kdO (c : Int) : Bool := c == 1 || c == 2 || c == 3 || c == 4
def kdX (c : Int) : Bool := c == 3 || c == 5 || c == 6 || c == 7 || c == 10
def kdY (c : Int) : Bool := c == 6 || c == 7
def kdR (c : Int) : Bool := c == 7
def kdL (c : Int) : Bool := c == 7 || c == 8
def Ins.can (q : Ins) (n : Int) : Bool :=
  (decide (1 ≤ q.code) && decide (q.code ≤ 10)) && (btw q.dst 0 15 (kdD q.code) && btw q.rel 1 6 (kdR q.code) && btw q.to 0 n (kdL q.code) && btw q.op 1 12 (q.code == 6)) && (fts q.oR q.oN (kdO q.code) && fts q.xR q.xN (kdX q.code) && fts q.yR q.yN (kdY q.code))
section
variable (w : World)
theorem isReg_any (n : Int) : Calls Tryz.prog 69 #[.int .i64 n] w fun e w' => e = .returned (.bool (rg n)) ∧ w' = w := by
  unfold rg
  cases h1 : decide (0 ≤ n) <;> cases h2 : decide (n < 16) <;>
  (go_enter Tryz.func69, Tryz.ntmps69
   go_wp2
   go_ret
   exact ⟨rfl, rfl⟩)
end
end Go.Proofs.YtchbhmolnoggfaaGreatDoor

namespace Go.Proofs.YtchbhmolnoggfaaGreatDoor
open Go.RowKit
def hasB (s : ByteArray) (c : Nat) : Bool := s.data.toList.any (fun b => b.toNat == c)
theorem retB {a b : Bool} (h : a = b) : Ending.returned (.bool a) = .returned (.bool b) := by rw [h]
def kdS (c : Int) : ByteArray := if c = 1 ∨ c = 2 then ⟨#[100, 111]⟩ else if c = 3 then ⟨#[111, 120]⟩ else if c = 4 then ⟨#[111]⟩ else if c = 5 then ⟨#[100, 120]⟩ else if c = 6 then ⟨#[100, 120, 121]⟩ else if c = 7 then ⟨#[120, 114, 121, 108]⟩ else if c = 8 then ⟨#[108]⟩ else if c = 10 then ⟨#[120]⟩ else ⟨#[]⟩
theorem kindsOf_any (w : World) (c : Int) (h : 1 ≤ c ∧ c ≤ 10) : Calls Tryz.prog 26 #[.int .i64 c] w fun e w' => e = .returned (.string (kdS c)) ∧ w' = w := by
  rcases (by omega : c = 1 ∨ c = 2 ∨ c = 3 ∨ c = 4 ∨ c = 5 ∨ c = 6 ∨ c = 7 ∨ c = 8 ∨ c = 9 ∨ c = 10) with rfl | rfl | rfl | rfl | rfl | rfl | rfl | rfl | rfl | rfl <;>
  (go_enter Tryz.func26, Tryz.ntmps26
   go_wp2
   go_ret
   exact ⟨rfl, rfl⟩)
end Go.Proofs.YtchbhmolnoggfaaGreatDoor

namespace Go.Proofs.YtchbhmolnoggfaaGreatDoor
open Go.RowKit
theorem can_in {q : Ins} {n : Int} (h : 1 ≤ q.code ∧ q.code ≤ 10) : q.can n = ((btw q.dst 0 15 (kdD q.code) && btw q.rel 1 6 (kdR q.code) && btw q.to 0 n (kdL q.code) && btw q.op 1 12 (q.code == 6)) && (fts q.oR q.oN (kdO q.code) && fts q.xR q.xN (kdX q.code) && fts q.yR q.yN (kdY q.code))) := by
  unfold Ins.can
  have h1 : decide (1 ≤ q.code) = true := by simp; omega
  have h2 : decide (q.code ≤ 10) = true := by simp; omega
  rw [h1, h2]; rfl
end Go.Proofs.YtchbhmolnoggfaaGreatDoor

namespace Go.Proofs.YtchbhmolnoggfaaGreatDoor
open Go.RowKit
structure CL (w : World) (b : Nat) (l : List Value) : Prop where
  c : ∀ o v, l[o]? = some v → w.cell? ⟨b, o, none⟩ = some v
  z : ∀ o, o < l.length → w.frozen? ⟨b, o, none⟩ = false
section
variable {w w' : World} {b : Nat} {l : List Value} {S : Nat → Prop}
theorem CL.lt (h : CL w b l) (hl : 0 < l.length) : b < w.heap.size := World.block_lt_of_cell? _ _ (h.c 0 l[0] (by simp [hl]))
theorem CL.keep (h : CL w b l) (hl : 0 < l.length) (k : Keeps S w w') (hS : ¬ S b) : CL w' b l :=
  ⟨fun o v e => k.cell (h.c o v e) hS, fun o ho => (k.frozen (p := ⟨b, o, none⟩) (h.lt hl) hS).trans (h.z o ho)⟩
theorem CL.set (h : CL w b l) {o : Nat} (ho : o < l.length) (v : Value) : CL (w.setCell ⟨b, o, none⟩ v) b (l.set o v) := by
  refine ⟨fun p u e => ?_, fun p hp => ?_⟩
  · by_cases hpo : o = p
    · subst hpo
      rw [List.getElem?_set_self ho] at e
      cases e
      exact World.cell?_setCell_same _ _ _ (h.c o l[o] (by simp [ho]))
    · rw [List.getElem?_set_ne hpo] at e
      rw [World.cell?_setCell_other _ _ _ _ (by intro e2; injection e2 with _ e3; omega)]
      exact h.c p u e
  · simp only [World.frozen?_setCell]
    exact h.z p (by simpa using hp)
theorem CL.other (h : CL w b l) {p : Addr} (hne : p.block ≠ b) (v : Value) : CL (w.setCell p v) b l :=
  ⟨fun o u e => by rw [World.cell?_setCell_other _ _ _ _ (by intro e2; exact hne (by rw [e2]))]; exact h.c o u e, fun o ho => by simp only [World.frozen?_setCell]; exact h.z o ho⟩
theorem CL.alloc (h : CL w b l) (hl : 0 < l.length) (ob : Obj) : CL (w.alloc ob) b l := h.keep (S := fun _ => False) hl ((Keeps.refl _ w).alloc ob) (fun e => e)
def sets (l : List Value) (o : Nat) (vs : List Value) : List Value := l.take o ++ vs ++ l.drop (o + vs.length)
theorem CL.there (h : CL w b l) {o n : Nat} (ho : o + n ≤ l.length) : w.there b o n := fun j hj =>
  ⟨by rw [h.c (o + j) l[o + j] (by simp)]; rfl, h.z (o + j) (by omega)⟩
theorem CL.range (h : CL w b l) (o n : Nat) : w.rangeAt b o ((l.drop o).take n) := fun j v e => by
  rw [List.getElem?_take] at e
  split at e
  · rw [List.getElem?_drop] at e; exact h.c (o + j) v e
  · cases e
theorem CL.sets (h : CL w b l) {o : Nat} {vs : List Value} (ho : o + vs.length ≤ l.length) : CL (w.setCells b o vs) b (sets l o vs) := by
  have ht := h.there ho
  have hl : (Go.Proofs.YtchbhmolnoggfaaGreatDoor.sets l o vs).length = l.length := by simp [Go.Proofs.YtchbhmolnoggfaaGreatDoor.sets]; omega
  refine ⟨fun p u e => ?_, fun p hp => ?_⟩
  · unfold Go.Proofs.YtchbhmolnoggfaaGreatDoor.sets at e
    by_cases h1 : p < o
    · rw [World.cell?_setCells_out b vs o w ⟨b, p, none⟩ (fun _ _ => .inl h1)]
      rw [List.append_assoc, List.getElem?_append_left (by simp; omega), List.getElem?_take_of_lt h1] at e
      exact h.c p u e
    · by_cases h2 : p < o + vs.length
      · have := World.cell?_setCells_in b vs o w (fun i hi => (ht i hi).1) (p - o) (by omega)
        rw [show o + (p - o) = p by omega] at this
        rw [this]
        rw [List.append_assoc, List.getElem?_append_right (by simp; omega), List.getElem?_append_left (by simp; omega)] at e
        simp only [List.length_take, Nat.min_eq_left (show o ≤ l.length by omega)] at e
        rw [List.getElem?_eq_getElem (by omega)] at e
        exact e
      · rw [World.cell?_setCells_out b vs o w ⟨b, p, none⟩ (fun _ _ => .inr (by show o + vs.length ≤ p; omega))]
        rw [List.getElem?_append_right (by simp; omega), List.getElem?_drop] at e
        simp only [List.length_append, List.length_take, Nat.min_eq_left (show o ≤ l.length by omega)] at e
        rw [show o + vs.length + (p - (o + vs.length)) = p by omega] at e
        exact h.c p u e
  · rw [World.frozen?_setCells]
    exact h.z p (by omega)
theorem Keeps.setCells {S : Nat → Prop} {a : World} {b : Nat} (hp : b < a.heap.size → S b) : ∀ (vs : List Value) (o : Nat) {b' : World}, Keeps S a b' → Keeps S a (b'.setCells b o vs)
  | [], _, _, h => h
  | v :: r, o, _, h => Keeps.setCells hp r (o + 1) (h.setCell (p := ⟨b, o, none⟩) hp v)
theorem Keeps.setA {a b' : World} (h : Keeps (fun k => k = b) a b') (o : Nat) (v : Value) : Keeps (fun k => k = b) a (b'.setCell ⟨b, o, none⟩ v) := h.setCell (fun _ => rfl) v
theorem Keeps.setsA {a b' : World} (h : Keeps (fun k => k = b) a b') (o : Nat) (vs : List Value) : Keeps (fun k => k = b) a (b'.setCells b o vs) := Keeps.setCells (S := fun k => k = b) (fun _ => rfl) vs o h
theorem CL.drew (h : CL w b l) : CL w.drew b l := ⟨h.c, h.z⟩
end
theorem CL.made (w : World) (l : List Value) (t : TypeId) : CL (w.alloc (.cells l.toArray t)) w.heap.size l := by
  refine ⟨fun o v e => ?_, fun o _ => ?_⟩
  · have : o < l.length := (List.getElem?_eq_some_iff.1 e).1
    simp [e]
  · simp
theorem run_store_nf (P : Program) (W : World) (p : Addr) (h : (W.cell? p).isSome = true) (hz : W.frozen? p = false) : (store p .nilFunc).run P W = .ok () (W.setCell p .nilFunc) := by
  obtain ⟨u, hu⟩ := Option.isSome_iff_exists.1 h
  rw [run_store P W _ _ _ rfl]; simp [hu, hz]
theorem run_store_f (P : Program) (W : World) (p : Addr) (f : Fn) (a b : Array Value) (h : (W.cell? p).isSome = true) (hz : W.frozen? p = false) : (store p (.func f a b)).run P W = .ok () (W.setCell p (.func f a b)) := by
  obtain ⟨u, hu⟩ := Option.isSome_iff_exists.1 h
  rw [run_store P W _ _ _ rfl]; simp [hu, hz]
theorem wpList_load_run {P : Program} {w : World} {ops : Array Oper} {rest : List Oper} {o : Oper} {a : Act} {Q : Exit → Act → World → Prop} (hgd : o.guard = none) (ty : TypeId) (x : Operand) (ho : o.op = .load ty x) (ad : Addr) (hx : a.eval x = .pointer (some ad)) (v : Value)
    (hr : (loadVar ty ad).run P w = .ok v w) (h : wpList P ops Q rest (a.put o.dst v) w) : wpList P ops Q (o :: rest) a w :=
  wpList_plain hgd fun _ hK => by
    unfold Oper.wp execOp
    simp only [ho, hx, Instr.loadAt, Instr.sureAddr, Sem.run_bind, Sem.run_pure, Result.andThen_ok, hr]
    exact hK _ _ h
theorem wpAnyH_one {P : Program} {ops : Array Oper} {Q : Exit → Act → World → Prop} {md : Region.Mode} {S : World → Prop} {fuel : Nat} {listed : Array Bool} {a : Act} {w : World} {o : Oper} (i : Nat) (hr : Region.ready md ops listed = [i]) (hoi : ops[i]? = some o) (hgd : o.guard = none)
    (h : Oper.wp P o a w (fun a' w' => S w' ∧ (S w' → wpAnyH P md ops Q S fuel (listed.setIfInBounds i true) a' w')) Q) : wpAnyH P md ops Q S (fuel + 1) listed a w := by
  refine wpAnyH_ready hr (by simp) (AllReadyH.cons hoi (fun K hK => ?_) AllReadyH.nil)
  rw [if_pos (by simp [Region.wanted, hgd])]
  exact Oper.wp_mono (fun a' w' e => hK.out _ _ e.1 e.2) h
theorem wpAnyH_store {P : Program} {ops : Array Oper} {Q : Exit → Act → World → Prop} {md : Region.Mode} {S : World → Prop} {fuel : Nat} {listed : Array Bool} {a : Act} {w : World} {o : Oper} (i : Nat) (hr : Region.ready md ops listed = [i]) (hoi : ops[i]? = some o) (hgd : o.guard = none)
    (ty : TypeId) (x y : Operand) (ho : o.op = .store ty x y) (b off n : Nat) (cells : Array Value) (hx : a.eval x = .pointer (some ⟨b, off, none⟩)) (hy : a.eval y = .agg cells) (hn : cells.size = n) (ht : w.there b off n) (hi : (P.info? ty).map (·.size) = some n) (h1 : cells.all (·.oneCell') = true)
    (hS : S (w.setCells b off cells.toList)) (h : S (w.setCells b off cells.toList) → wpAnyH P md ops Q S fuel (listed.setIfInBounds i true) (a.put o.dst undef) (w.setCells b off cells.toList)) : wpAnyH P md ops Q S (fuel + 1) listed a w := by
  refine wpAnyH_ready hr (by simp) (AllReadyH.cons hoi (fun K hK => ?_) AllReadyH.nil)
  rw [if_pos (by simp [Region.wanted, hgd])]
  exact wp_store_mid ty x y ho b off cells hx hy (hn ▸ ht) (hn ▸ hi) h1 (hK.out _ _ hS h)
theorem wpList_store_cl {P : Program} {ops : Array Oper} {rest : List Oper} {op : Oper} {a : Act} {w : World} {Q : Exit → Act → World → Prop} (hgd : op.guard = none) (ty : TypeId) (x y : Operand) (ho : op.op = .store ty x y)
    (b o n : Nat) (cells : Array Value) (hx : a.eval x = .pointer (some ⟨b, o, none⟩)) (hy : a.eval y = .agg cells) (hn : cells.size = n) {l : List Value} (hC : CL w b l) (hl : o + n ≤ l.length)
    (hi : (P.info? ty).map (·.size) = some n) (h1 : cells.all (·.oneCell') = true)
    (h : ∀ w1, CL w1 b (sets l o cells.toList) → Keeps (fun k => k = b) w w1 → w1.heap.size = w.heap.size → wpList P ops Q rest (a.put op.dst undef) w1) : wpList P ops Q (op :: rest) a w :=
  wpList_store_mid hgd ty x y ho b o cells hx hy (hn ▸ hC.there hl) (hn ▸ hi) h1
    (h _ (hC.sets (by simp only [Array.length_toList]; omega)) ((Keeps.refl _ w).setsA _ _) (by
      have : ∀ (vs : List Value) (o : Nat) (w : World), (w.setCells b o vs).heap.size = w.heap.size := by
        intro vs
        induction vs with
        | nil => intro o w; rfl
        | cons v r ih => intro o w; show (World.setCells _ b (o + 1) r).heap.size = _; rw [ih]; simp
      exact this _ _ _))
end Go.Proofs.YtchbhmolnoggfaaGreatDoor

namespace Go.Proofs.YtchbhmolnoggfaaGreatDoor
open Go.RowKit
def eqI (u q : Ins) : Bool := u.code == q.code && u.dst == q.dst && (u.oR == q.oR && u.oN == q.oN) && (u.xR == q.xR && u.xN == q.xN) && (u.yR == q.yR && u.yN == q.yN) && u.op == q.op && u.rel == q.rel && u.to == q.to
def Ins.lay (u q : Ins) (s : Int) : Ins := if s = 1 then { u with dst := q.dst } else if s = 2 then { u with oR := q.oR, oN := q.oN } else if s = 3 then { u with xR := q.xR, xN := q.xN } else if s = 4 then { u with yR := q.yR, yN := q.yN } else if s = 5 then { u with rel := q.rel } else { u with to := q.to }
def isRel (r : Int) : Bool := decide (1 ≤ r) && decide (r ≤ 6)
def isOp (r : Int) : Bool := decide (1 ≤ r) && decide (r ≤ 12)
def Ins.oks (q : Ins) (n : Int) (s : Int) : Bool := if s = 1 then rg q.dst else if s = 2 then opk q.oR q.oN else if s = 3 then opk q.xR q.xN else if s = 4 then opk q.yR q.yN else if s = 5 then isRel q.rel else decide (0 ≤ q.to) && decide (q.to ≤ n)
def slo (c : Nat) : List Int := ([[], [1, 2], [1, 2], [2, 3], [2], [1, 3], [1, 3, 4], [3, 5, 4, 6], [6], [], [3]] : List (List Int)).getD c []
def Ins.lays (u q : Ins) (l : List Int) : Ins := l.foldl (fun u s => u.lay q s) u
def Ins.cab (q : Ins) (n : Int) (c : Nat) : Bool := ((if c = 6 then isOp q.op else true) && (slo c).all (q.oks n)) && eqI (({ ins0 with code := q.code, op := if c = 6 then q.op else 0 } : Ins).lays q (slo c)) q
theorem cab_can {q : Ins} {n : Int} {c : Nat} (hc : q.code = (c : Int)) (h : 1 ≤ c ∧ c ≤ 10) : q.cab n c = q.can n := by
  rw [can_in (by omega), Bool.eq_iff_iff]
  obtain ⟨a0, a1, a2, a3, a4, a5, a6, a7, a8, a9, a10⟩ := q
  simp only at hc
  subst hc
  rcases (by omega : c = 1 ∨ c = 2 ∨ c = 3 ∨ c = 4 ∨ c = 5 ∨ c = 6 ∨ c = 7 ∨ c = 8 ∨ c = 9 ∨ c = 10) with rfl | rfl | rfl | rfl | rfl | rfl | rfl | rfl | rfl | rfl <;>
  (cases a2 <;> cases a4 <;> cases a6 <;> simp [Ins.cab, slo, Ins.lays, Ins.lay, Ins.oks, eqI, ins0, isOp, isRel, btw, fts, rg, opk, kdD, kdO, kdX, kdY, kdR, kdL, and_assoc] <;> omega)
end Go.Proofs.YtchbhmolnoggfaaGreatDoor

namespace Go.Proofs.YtchbhmolnoggfaaGreatDoor
open Go.RowKit
def opT (i : Nat) : ByteArray := ⟨(([#[], #[97, 100, 100], #[115, 117, 98], #[109, 117, 108], #[100, 105, 118], #[114, 101, 109], #[97, 110, 100], #[111, 114], #[120, 111, 114], #[115, 104, 108], #[115, 104, 114], #[109, 105, 110], #[109, 97, 120]] : List (Array UInt8)).getD i #[])⟩
def relT (i : Nat) : ByteArray := ⟨(([#[], #[61, 61], #[33, 61], #[60], #[60, 61], #[62], #[62, 61]] : List (Array UInt8)).getD i #[])⟩
def look (tab : Nat → ByteArray) (s : ByteArray) : Nat → Nat → Nat
  | _, 0 => 0
  | i, n + 1 => if (tab i).toList == s.toList then i else look tab s (i + 1) n
def lookE (bad : Int) (n : Nat) : Int := if n = 0 then bad else 0
theorem look_hit (tab : Nat → ByteArray) (s : ByteArray) (i n : Nat) (h : ((tab i).toList == s.toList) = true) : look tab s i (n + 1) = i := by
  show (if (tab i).toList == s.toList then i else _) = i; rw [if_pos h]
theorem look_miss (tab : Nat → ByteArray) (s : ByteArray) (i n : Nat) (h : ((tab i).toList == s.toList) = false) : look tab s i (n + 1) = look tab s (i + 1) n := by
  show (if (tab i).toList == s.toList then i else _) = _; rw [if_neg (by simp [h])]
def nameAt (tab : Nat → ByteArray) (top : Int) (op : Int) : ByteArray := if 1 ≤ op ∧ op ≤ top then tab op.toNat else ⟨#[]⟩
end Go.Proofs.YtchbhmolnoggfaaGreatDoor

namespace Go.Proofs.YtchbhmolnoggfaaGreatDoor
open Go.RowKit
attribute [local go_sem] Oper.semAt_some run_store_nf run_store_f
def OT (w : World) : Prop := ∀ i, i < 13 → w.cell? ⟨1, i, none⟩ = some (.string (opT i))
def RT (w : World) : Prop := ∀ i, i < 7 → w.cell? ⟨3, i, none⟩ = some (.string (relT i))
theorem OT.keep {w w' : World} {S : Nat → Prop} (h : OT w) (k : Keeps S w w') (hS : ¬ S 1) : OT w' := fun i hi => k.cell (h i hi) hS
theorem RT.keep {w w' : World} {S : Nat → Prop} (h : RT w) (k : Keeps S w w') (hS : ¬ S 3) : RT w' := fun i hi => k.cell (h i hi) hS
end Go.Proofs.YtchbhmolnoggfaaGreatDoor

namespace Go.Proofs.YtchbhmolnoggfaaGreatDoor
open Go.RowKit
attribute [local go_sem] Oper.semAt_some run_store_nf run_store_f
def SLI (w : World) (v : Value) (l : List Int) : Prop := ∃ a cap, v = .slice a l.length cap ∧ ∀ j x, l[j]? = some x → ∃ b off, a = some ⟨b, off, none⟩ ∧ w.cell? ⟨b, off + j, none⟩ = some (.int .i64 x)
def SH (w : World) : Prop := ∀ c, 1 ≤ c → c ≤ 10 → ∃ v, w.cell? ⟨0, c * 2 + 1, none⟩ = some v ∧ SLI w v (slo c)
structure LT (w : World) : Prop where
  ot : OT w
  rt : RT w
  sh : SH w
theorem SLI.keep {w w' : World} {v : Value} {l : List Int} (h : SLI w v l) (k : Keeps (fun _ => False) w w') : SLI w' v l := by
  obtain ⟨a, cap, hv, hl⟩ := h
  refine ⟨a, cap, hv, fun j x hx => ?_⟩
  obtain ⟨b, off, e1, e2⟩ := hl j x hx
  exact ⟨b, off, e1, k.cell e2 (fun e => e)⟩
theorem LT.keep {w w' : World} (h : LT w) (k : Keeps (fun _ => False) w w') : LT w' := by
  refine ⟨h.ot.keep k (fun e => e), h.rt.keep k (fun e => e), fun c h1 h2 => ?_⟩
  obtain ⟨v, e, hl⟩ := h.sh c h1 h2
  exact ⟨v, k.cell e (fun e => e), hl.keep k⟩
theorem LT.lt {w : World} (h : LT w) : 3 < w.heap.size := World.block_lt_of_cell? _ _ (h.rt 0 (by decide))
theorem iIn : (Tryz.prog.info? 65).map (·.size) = some 11 := by kernel_rfl
theorem slo_le (c : Nat) : (slo c).length ≤ 4 ∧ ∀ x ∈ slo c, 1 ≤ x ∧ x ≤ 6 := by
  by_cases h : c ≤ 10
  · rcases (by omega : c = 0 ∨ c = 1 ∨ c = 2 ∨ c = 3 ∨ c = 4 ∨ c = 5 ∨ c = 6 ∨ c = 7 ∨ c = 8 ∨ c = 9 ∨ c = 10) with rfl | rfl | rfl | rfl | rfl | rfl | rfl | rfl | rfl | rfl | rfl <;> simp [slo]
  · have : slo c = [] := by
      unfold slo
      rw [List.getD_eq_getElem?_getD, List.getElem?_eq_none (by show 11 ≤ c; omega)]; rfl
    rw [this]; simp
theorem run_ins {W : World} {b : Nat} {q : Ins} (h : CL W b q.cells) : (loadVar 65 ⟨b, 0, none⟩).run Tryz.prog W = .ok (.agg q.cells.toArray) W :=
  run_loadVar_mid W b 0 65 q.cells _ (fun j v e => by have := h.c j v e; rwa [Nat.zero_add]) Tryz.underlying65 rfl (by rw [iIn]; rfl)
def canTail (f : Func) : Code := match f.body with | some (.seq _ (.seq _ (.seq _ (.seq _ (.seq _ t))))) => t | _ => .skip
end Go.Proofs.YtchbhmolnoggfaaGreatDoor

namespace Go.Proofs.YtchbhmolnoggfaaGreatDoor
open Go.RowKit
attribute [local go_sem] Oper.semAt_some run_store_nf run_store_f
def ISL (w : World) (a : Option Addr) (l : List Ins) : Prop := ∀ i, i < l.length → ∃ b off, a = some ⟨b, off, none⟩ ∧ ∀ j v, (l.getD i ins0).cells[j]? = some v → w.cell? ⟨b, off + i * 11 + j, none⟩ = some v
theorem ISL.keep {w w' : World} {a : Option Addr} {l : List Ins} (h : ISL w a l) (k : Keeps (fun _ => False) w w') : ISL w' a l := fun i hi => by
  obtain ⟨b, off, e, hc⟩ := h i hi
  exact ⟨b, off, e, fun j v hv => k.cell (hc j v hv) (fun e => e)⟩
def firstBad (l : List Ins) (n : Int) : Nat → Option Nat
  | 0 => none
  | m + 1 => if (l.getD (l.length - (m + 1)) ins0).can n = false then some (l.length - (m + 1)) else firstBad l n m
def fbE : Option Nat → Int | some _ => 108 | none => 0
def fbI : Option Nat → Int | some i => (i : Int) | none => 0
def chk (l : List Ins) : Int × Int := if 64 < l.length then (106, 0) else (fbE (firstBad l l.length l.length), fbI (firstBad l l.length l.length))
theorem run_insAt {W : World} {t : TypeId} {b o : Nat} {q : Ins} (hc : ∀ j v, q.cells[j]? = some v → W.cell? ⟨b, o + j, none⟩ = some v) (hu : ∃ fs, Tryz.prog.underlying t = some (.struct fs)) (hi : (Tryz.prog.info? t).map (·.size) = some 11) : (loadVar t ⟨b, o, none⟩).run Tryz.prog W = .ok (.agg q.cells.toArray) W := by
  obtain ⟨fs, hu⟩ := hu
  exact run_loadVar_mid W b o t q.cells _ hc hu rfl (by rw [hi]; rfl)
theorem all_oneCell_ins (q : Ins) : q.cells.toArray.all (·.oneCell') = true := all_oneCell_toArray (by simp [Ins.cells, Value.oneCell'])
end Go.Proofs.YtchbhmolnoggfaaGreatDoor

namespace Go.Proofs.YtchbhmolnoggfaaGreatDoor
open Go.RowKit
attribute [local go_sem] Oper.semAt_some run_store_nf run_store_f
theorem iRn : (Tryz.prog.info? 59).map (·.size) = some 11 := by kernel_rfl
end Go.Proofs.YtchbhmolnoggfaaGreatDoor

namespace Go.Proofs.YtchbhmolnoggfaaGreatDoor
open Go.RowKit
end Go.Proofs.YtchbhmolnoggfaaGreatDoor

namespace Go.Proofs.YtchbhmolnoggfaaGreatDoor
open Go.RowKit Go.Deep Go.ChangeShapes Go.WideShapes Go.ChangeAt
attribute [local go_sem] Oper.semAt_some run_store_nf run_store_f
theorem add_at (b off n : Nat) : (⟨b, off, none⟩ : Addr).add n = ⟨b, off + n, none⟩ := by
  unfold Addr.add; split <;> simp_all
theorem oI : Tryz.prog.underlying 22 = some (.slice 65) := by kernel_rfl
theorem oI0 : (Tryz.prog.info? 65).map (fun i => (i.zero, i.size, i.bytes)) = some (some (.agg #[.int .i64 0, .int .i64 0, .bool false, .int .i64 0, .bool false, .int .i64 0, .bool false, .int .i64 0, .int .i64 0, .int .i64 0, .int .i64 0]), 11, 88) := by kernel_rfl
theorem oIi : ∃ i, Tryz.prog.info? 65 = some i ∧ i.zero = some (.agg #[.int .i64 0, .int .i64 0, .bool false, .int .i64 0, .bool false, .int .i64 0, .bool false, .int .i64 0, .int .i64 0, .int .i64 0, .int .i64 0]) ∧ i.size = 11 ∧ i.bytes = 88 := by
  have h := oI0
  cases hq : Tryz.prog.info? 65 with
  | none => rw [hq] at h; cases h
  | some i =>
    rw [hq] at h
    injection h with h
    injection h with h1 h2
    injection h2 with h2 h3
    exact ⟨i, rfl, h1, h2, h3⟩
def icl (l : List Ins) : List Value := l.flatMap Ins.cells
theorem owns_base {w : World} {base : Nat} {e : TypeId} {size : Nat} {v : Value} {n : Nat} {xs : List Value} (h : w.ownsRow base e size v n xs) (k : Nat) (hk : v.ownBlock = some k) : base ≤ k := by
  rcases h.2 with ⟨rfl, _⟩ | ⟨g, cap, cur, rfl, hb, hg, rest⟩
  · cases hk
  · cases hk; exact hb
theorem results_cell1 {fn : Func} {p : Tmp} {ty : TypeId} (h : fn.results = #[.cell p ty]) (tmps : Array Value) (P : Program) (w : World) :
    (results fn tmps).run P w = ((asAddr (tmps.getD p undef)).run P w).andThen fun a w₁ => (loadVar ty a).run P w₁ := by
  simp only [results, h]
  simp [Sem.run_bind, Result.andThen]
theorem wp_append_run {P : Program} {w : World} {o : Oper} {a : Act} {K : Act → World → Prop} {Q : Exit → Act → World → Prop} (s x : Operand) (t : TypeId)
    (ho : o.op = .call { callee := .builtin .append, args := #[s, x], argTypes := #[t, t] }) (v src v' : Value) (w' : World) (hs : a.eval s = v) (hx : a.eval x = src)
    (hr : (Builtin.append_ #[t, t] o.type #[v, src]).run P w = .ok v' w') (h : K (a.put o.dst v') w') : Oper.wp P o a w K Q := by
  unfold Oper.wp execOp
  simp only [ho, resolve, invoke, builtin, Sem.run_bind, Sem.run_pure, Result.andThen_ok, List.map_toArray, List.map_cons, List.map_nil, hs, hx, hr]
  exact h
def OwB {W : World} {base : Nat} {e : TypeId} {size : Nat} {v : Value} {n : Nat} {xs : List Value} (_ : W.ownsRow base e size v n xs) (i : Nat) : Prop := v.ownBlock = some i
end Go.Proofs.YtchbhmolnoggfaaGreatDoor

namespace Go.Proofs.YtchbhmolnoggfaaGreatDoor
open Go.RowKit
attribute [local go_sem] Oper.semAt_some run_store_nf run_store_f
theorem ins_len (q : Ins) : q.cells.length = 11 := rfl
theorem icl_get : ∀ (l : List Ins) (i j : Nat) (v : Value), i < l.length → (l.getD i ins0).cells[j]? = some v → (icl l)[i * 11 + j]? = some v
  | [], _, _, _, h, _ => by simp at h
  | q :: l, 0, j, v, _, hv => by
    have hv : q.cells[j]? = some v := hv
    have hj : j < q.cells.length := (List.getElem?_eq_some_iff.1 hv).1
    show (q.cells ++ l.flatMap Ins.cells)[0 * 11 + j]? = some v
    rw [Nat.zero_mul, Nat.zero_add, List.getElem?_append_left hj]; exact hv
  | q :: l, i + 1, j, v, h, hv => by
    have hv : (l.getD i ins0).cells[j]? = some v := hv
    have h' : i < l.length := by simpa using h
    show (q.cells ++ l.flatMap Ins.cells)[(i + 1) * 11 + j]? = some v
    rw [List.getElem?_append_right (by rw [ins_len]; omega), ins_len, show (i + 1) * 11 + j - 11 = i * 11 + j by omega]
    exact icl_get l i j v h' hv
theorem isl_of_owns {W : World} {base n : Nat} {v : Value} {l : List Ins} (h : W.ownsRow base 65 11 v n (icl l)) (hn : l.length = n) : ∃ a cap, v = .slice a n cap ∧ ISL W a l := by
  rcases h.2 with ⟨rfl, h0⟩ | ⟨g, cap, cur, rfl, _⟩
  · have hz : n = 0 := by first | exact h0.1 | omega
    subst hz
    exact ⟨none, 0, rfl, fun i hi => by omega⟩
  · refine ⟨_, cap, rfl, fun i hi => ⟨g, 0, rfl, fun j v hv => ?_⟩⟩
    have e := icl_get l i j v hi hv
    have hc := h.cells (g := g) rfl (i * 11 + j) v e
    rw [add_at] at hc
    rw [Nat.zero_add] at hc ⊢
    exact hc
end Go.Proofs.YtchbhmolnoggfaaGreatDoor

namespace Go.Proofs.YtchbhmolnoggfaaGreatDoor
open Go.RowKit
def digB (c : UInt8) : Bool := decide (48 ≤ c.toNat) && decide (c.toNat ≤ 57)
theorem digB_iff (c : UInt8) : digB c = true ↔ 48 ≤ c.toNat ∧ c.toNat ≤ 57 := by unfold digB; simp
def natv (a : Nat) (l : List UInt8) : Nat := l.foldl (fun acc c => acc * 10 + (c.toNat - 48)) a
theorem natv_nil (a : Nat) : natv a [] = a := by unfold natv; rw [List.foldl_nil]
theorem natv_cons (a : Nat) (c : UInt8) (r : List UInt8) : natv a (c :: r) = natv (a * 10 + (c.toNat - 48)) r := by unfold natv; rw [List.foldl_cons]
theorem natv_append (l r : List UInt8) : ∀ a : Nat, natv a (l ++ r) = natv (natv a l) r := by
  induction l with
  | nil => intro a; rw [List.nil_append, natv_nil]
  | cons c l ih => intro a; rw [List.cons_append, natv_cons, natv_cons, ih]
theorem natv_snoc (a : Nat) (l : List UInt8) (c : UInt8) : natv a (l ++ [c]) = natv a l * 10 + (c.toNat - 48) := by rw [natv_append, natv_cons, natv_nil]
theorem natv_ge (l : List UInt8) : ∀ a : Nat, a * 10 ^ l.length ≤ natv a l := by
  induction l with
  | nil => intro a; rw [natv_nil, List.length_nil, Nat.pow_zero, Nat.mul_one]; exact Nat.le_refl _
  | cons c r ih =>
    intro a
    have h := ih (a * 10 + (c.toNat - 48))
    rw [natv_cons, List.length_cons, Nat.pow_succ]
    refine Nat.le_trans ?_ h
    rw [Nat.mul_comm (10 ^ r.length) 10, ← Nat.mul_assoc]
    exact Nat.mul_le_mul_right _ (Nat.le_add_right _ _)
theorem natv_lt (l : List UInt8) : ∀ a : Nat, l.all digB = true → natv a l < (a + 1) * 10 ^ l.length := by
  induction l with
  | nil => intro a _; rw [natv_nil, List.length_nil, Nat.pow_zero, Nat.mul_one]; exact Nat.lt_succ_self _
  | cons c r ih =>
    intro a h
    rw [List.all_cons, Bool.and_eq_true] at h
    have hc := (digB_iff c).1 h.1
    have h1 := ih (a * 10 + (c.toNat - 48)) h.2
    rw [natv_cons, List.length_cons, Nat.pow_succ]
    refine Nat.lt_of_lt_of_le h1 ?_
    rw [Nat.mul_comm (10 ^ r.length) 10, ← Nat.mul_assoc]
    exact Nat.mul_le_mul_right _ (by omega)
theorem natv_mono {x y : Nat} {a b : List UInt8} (h : x < y) (hl : a.length = b.length) (ha : a.all digB = true) : natv x a < natv y b := by
  have h1 := natv_lt a x ha
  have h2 := natv_ge b y
  rw [hl] at h1
  have h3 : (x + 1) * 10 ^ b.length ≤ y * 10 ^ b.length := Nat.mul_le_mul_right _ h
  omega
theorem less_iff : ∀ (x : Nat) (a b : List UInt8), a.length = b.length → a.all digB = true → b.all digB = true →
    (Op.bytesLess a b = true ↔ natv x a < natv x b) ∧ ((a == b) = true ↔ natv x a = natv x b)
  | x, [], [], _, _, _ => by rw [natv_nil]; simp [Op.bytesLess]
  | x, c :: a, e :: b, hl, ha, hb => by
    rw [List.all_cons, Bool.and_eq_true] at ha hb
    have hc := (digB_iff c).1 ha.1
    have he := (digB_iff e).1 hb.1
    have hl' : a.length = b.length := by simpa using hl
    rw [natv_cons, natv_cons]
    by_cases h1 : c.toNat < e.toNat
    · have m := natv_mono (x := x * 10 + (c.toNat - 48)) (y := x * 10 + (e.toNat - 48)) (by omega) hl' ha.2
      have hce : c < e := UInt8.lt_iff_toNat_lt.2 h1
      have hne : c ≠ e := fun k => by subst k; omega
      refine ⟨⟨fun _ => m, fun _ => by simp [Op.bytesLess, hce]⟩, ⟨fun k => ?_, fun k => by omega⟩⟩
      simp at k; exact absurd k.1 hne
    · by_cases h2 : e.toNat < c.toNat
      · have m := natv_mono (x := x * 10 + (e.toNat - 48)) (y := x * 10 + (c.toNat - 48)) (by omega) hl'.symm hb.2
        have hce : ¬ c < e := fun k => h1 (UInt8.lt_iff_toNat_lt.1 k)
        have hne : c ≠ e := fun k => by subst k; omega
        refine ⟨⟨fun k => ?_, fun k => by omega⟩, ⟨fun k => ?_, fun k => by omega⟩⟩
        · simp [Op.bytesLess, hce, hne] at k
        · simp at k; exact absurd k.1 hne
      · have hce : c = e := UInt8.toNat_inj.1 (by omega)
        subst hce
        have ih := less_iff (x * 10 + (c.toNat - 48)) a b hl' ha.2 hb.2
        have hcc : ¬ c < c := fun k => by have := UInt8.lt_iff_toNat_lt.1 k; omega
        refine ⟨?_, ?_⟩
        · rw [← ih.1]; simp [Op.bytesLess, hcc]
        · rw [← ih.2]; simp
def numForm : List UInt8 → Bool
  | [] => false
  | c :: r =>
    if c.toNat = 45 then (match r with
      | [] => false
      | e :: _ => if e.toNat = 48 then false else r.all digB)
    else if c.toNat = 48 then r.isEmpty
    else (c :: r).all digB
theorem numForm_cons (c : UInt8) (r : List UInt8) : numForm (c :: r) = if c.toNat = 45 then (match r with
      | [] => false
      | e :: _ => if e.toNat = 48 then false else r.all digB)
    else if c.toNat = 48 then r.isEmpty
    else (c :: r).all digB := rfl
def neg? : List UInt8 → Bool
  | [] => false
  | c :: _ => decide (c.toNat = 45)
def digs : List UInt8 → List UInt8
  | [] => []
  | c :: r => if c.toNat = 45 then r else c :: r
def lim (l : List UInt8) : Nat := if neg? l then 9223372036854775808 else 9223372036854775807
def prsV (l : List UInt8) : Int := if numForm l = true ∧ natv 0 (digs l) ≤ lim l then (if neg? l then -((natv 0 (digs l) : Nat) : Int) else ((natv 0 (digs l) : Nat) : Int)) else 0
def prsE (l : List UInt8) : Int := if numForm l = true then (if natv 0 (digs l) ≤ lim l then 0 else 13) else 12
theorem form_digs {l : List UInt8} (h : numForm l = true) : (digs l).all digB = true ∧ digs l ≠ [] ∧ (digs l = [48] ∨ ∃ e r, digs l = e :: r ∧ 49 ≤ e.toNat) ∧ (neg? l = true → ∃ e r, digs l = e :: r ∧ 49 ≤ e.toNat) := by
  match l, h with
  | c :: r, h =>
    rw [numForm_cons] at h
    by_cases h1 : c.toNat = 45
    · rw [if_pos h1] at h
      have hd : digs (c :: r) = r := by show (if _ then _ else _) = _; rw [if_pos h1]
      rw [hd]
      match r, h with
      | e :: r', h =>
        simp only at h
        by_cases h2 : e.toNat = 48
        · rw [if_pos h2] at h; cases h
        · rw [if_neg h2] at h
          have h3 := h
          rw [List.all_cons, Bool.and_eq_true] at h3
          have he := (digB_iff e).1 h3.1
          exact ⟨h, by simp, .inr ⟨e, r', rfl, by omega⟩, fun _ => ⟨e, r', rfl, by omega⟩⟩
    · rw [if_neg h1] at h
      have hd : digs (c :: r) = c :: r := by show (if _ then _ else _) = _; rw [if_neg h1]
      have hn : neg? (c :: r) = false := by show decide _ = _; simp [h1]
      rw [hd, hn]
      by_cases h2 : c.toNat = 48
      · rw [if_pos h2] at h
        have hr : r = [] := by simpa using h
        subst hr
        have hc : c = 48 := UInt8.toNat_inj.1 h2
        subst hc
        exact ⟨by decide, by simp, .inl rfl, fun k => by cases k⟩
      · rw [if_neg h2] at h
        have h3 := h
        rw [List.all_cons, Bool.and_eq_true] at h3
        have he := (digB_iff c).1 h3.1
        exact ⟨h, by simp, .inr ⟨c, r, rfl, by omega⟩, fun k => by cases k⟩
theorem uintM_digits (M : Nat) (hM : M ≤ 18446744073709551615) : ∀ (r : List UInt8) (acc : Nat), r.all digB = true → acc ≤ M → Lib.parseUintM M acc r = if natv acc r ≤ M then .ok (natv acc r) else .range
  | [], acc, _, h => by rw [natv_nil, if_pos h]; rfl
  | c :: r, acc, h, ha => by
    rw [List.all_cons, Bool.and_eq_true] at h
    have hc := (digB_iff c).1 h.1
    have hge := natv_ge r (acc * 10 + (c.toNat - 48))
    have hp : 0 < 10 ^ r.length := Nat.pow_pos (by decide)
    have hge' : acc * 10 + (c.toNat - 48) ≤ natv (acc * 10 + (c.toNat - 48)) r := by
      refine Nat.le_trans ?_ hge
      exact Nat.le_mul_of_pos_right _ hp
    rw [natv_cons]
    unfold Lib.parseUintM
    rw [if_pos hc]
    by_cases h1 : 1844674407370955162 ≤ acc
    · rw [if_pos h1, if_neg (by omega)]
    · rw [if_neg h1]
      by_cases h2 : M < acc * 10 + (c.toNat - 48)
      · rw [if_pos h2, if_neg (by omega)]
      · rw [if_neg h2]
        exact uintM_digits M hM r _ h.2 (by omega)
theorem parseInt_form {l : List UInt8} (h : numForm l = true) : Lib.parseIntB 64 l = if natv 0 (digs l) ≤ lim l then .ok (prsV l) else .range := by
  obtain ⟨h1, h2, _, _⟩ := form_digs h
  match l, h, h1, h2 with
  | c :: r, h, h1, h2 =>
    have hc43 : c.toNat ≠ 43 := by
      intro k
      rw [numForm_cons, if_neg (by omega), if_neg (by omega), List.all_cons, Bool.and_eq_true] at h
      have := (digB_iff c).1 h.1
      omega
    have hd : (if c.toNat = 43 ∨ c.toNat = 45 then r else c :: r) = digs (c :: r) := by
      show _ = if c.toNat = 45 then r else c :: r
      by_cases k : c.toNat = 45
      · rw [if_pos (.inr k), if_pos k]
      · rw [if_neg (by omega), if_neg k]
    have hu : Lib.parseUintB 64 (digs (c :: r)) = if natv 0 (digs (c :: r)) ≤ 18446744073709551615 then .ok (natv 0 (digs (c :: r))) else .range := by
      unfold Lib.parseUintB
      rw [if_neg h2]
      exact uintM_digits _ (by decide) _ 0 h1 (by decide)
    unfold Lib.parseIntB
    simp only [hd, hu]
    have hN : neg? (c :: r) = decide (c.toNat = 45) := rfl
    have hV : ∀ x : Nat, x = natv 0 (digs (c :: r)) → x ≤ lim (c :: r) → prsV (c :: r) = if neg? (c :: r) then -((x : Nat) : Int) else ((x : Nat) : Int) := by
      intro x hx hl
      unfold prsV
      rw [← hx, if_pos ⟨h, hl⟩]
    have hL : lim (c :: r) = if c.toNat = 45 then 9223372036854775808 else 9223372036854775807 := by unfold lim; rw [hN]; by_cases k : c.toNat = 45 <;> simp [k]
    generalize hv : natv 0 (digs (c :: r)) = v at *
    rw [hL] at hV ⊢
    have hV' := hV v rfl
    rw [hN] at hV'
    by_cases k : c.toNat = 45
    · simp only [k, if_true, decide_true] at hV' ⊢
      by_cases h3 : v ≤ 9223372036854775808
      · rw [if_pos h3, if_pos (by omega), hV' h3]
        simp [show ¬ (9223372036854775808 < v) by omega]
      · rw [if_neg h3]
        by_cases h4 : v ≤ 18446744073709551615
        · rw [if_pos h4]; simp [show 9223372036854775808 < v by omega]
        · rw [if_neg h4]
    · simp only [k, if_false, decide_false, Bool.false_eq_true] at hV' ⊢
      by_cases h3 : v ≤ 9223372036854775807
      · rw [if_pos h3, if_pos (by omega), hV' h3]
        simp [show ¬ (9223372036854775808 ≤ v) by omega]
      · rw [if_neg h3]
        by_cases h4 : v ≤ 18446744073709551615
        · rw [if_pos h4]; simp [show 9223372036854775808 ≤ v by omega]
        · rw [if_neg h4]
end Go.Proofs.YtchbhmolnoggfaaGreatDoor

namespace Go.Proofs.YtchbhmolnoggfaaGreatDoor
open Go.RowKit
def six (b : Int) : Nat := (b % 64).toNat
def ap (op a b : Int) : Int :=
  if op = 1 then wrap64 (a + b) else if op = 2 then wrap64 (a - b) else if op = 3 then wrap64 (a * b)
  else if op = 4 then (if b = 0 then 0 else wrap64 (a.tdiv b))
  else if op = 5 then (if b = 0 then a else a.tmod b)
  else if op = 6 then bits .and .i64 a b else if op = 7 then bits .or .i64 a b else if op = 8 then bits .xor .i64 a b
  else if op = 9 then wrap64 (a * 2 ^ six b) else if op = 10 then a / 2 ^ six b
  else if op = 11 then (if b < a then b else a) else if op = 12 then (if a < b then b else a) else 0
def Kept (B : Nat) (W w : World) : Prop := Below B W w ∧ B ≤ w.heap.size
theorem Kept.step {B : Nat} {W w w' : World} (h : Kept B W w) (k : Below w.heap.size w w') : Kept B W w' :=
  ⟨h.1.trans (k.mono h.2), Nat.le_trans h.2 k.size⟩
theorem Kept.cell {B : Nat} {W w : World} (h : Kept B W w) {p : Addr} (hp : p.block < B) : w.cell? p = W.cell? p := h.1.cell hp
theorem Kept.below {B : Nat} {W w : World} (h : Kept B W w) : Below B W w := h.1
end Go.Proofs.YtchbhmolnoggfaaGreatDoor

namespace Go.Proofs.YtchbhmolnoggfaaGreatDoor
open Go.RowKit
def In64 (a : Int) : Prop := -9223372036854775808 ≤ a ∧ a ≤ 9223372036854775807
end Go.Proofs.YtchbhmolnoggfaaGreatDoor

