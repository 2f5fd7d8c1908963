import Derived.Test.YteomlhcllmlkpaaGreatDoorTxSt
import Derived.IntWalk
namespace Go.Proofs.YteomlhcllmlkpaaGreatDoor
open Go.RowKit
attribute [local go_sem] Oper.semAt_some run_store_nf run_store_f

/-- The step that comes next: the number of its function. -/
abbrev Nx := Option Nat
def fnv (ab : Nat) : Nx → Value
  | none => .nilFunc
  | some f => .func (.func f) #[.pointer (some ⟨ab, 0, none⟩)] #[]
/-- What an attempt is given: its scene's blocks, its table's cells, its map. -/
structure Sc where
  mb : Nat
  wb : Nat
  gb : Nat
  db : Nat
  ve : Value
  vm : Option Nat
  vf : Value
  om : Nat
/-- An attempt's numbers. -/
structure Tx where
  thread : Int
  stamp : Int
  prio : Int
  no : Nat
  rank : Int
  alive : Bool
  flag : Bool
  nx : Nx
  phase : Int
  object : Int
  base : Int
  made : Int
  entry : Int
  why : Int
  aob : Int
  aver : Int
  aord : Int
  place : Int
  loc : Int
  holder : Int
  status : Int
  current : Int
  found : Nx
  enemy : Int
  tries : Int
  waited : Int
  left : Int
  goOn : Nx
def iv (a : Int) : Value := .int .i64 a
def pv (b : Nat) : Value := .pointer (some ⟨b, 0, none⟩)
def Tx.cells (x : Tx) (c : Sc) (ab : Nat) : List Value :=
  [.pointer (some ⟨c.mb, 0, none⟩), .pointer (some ⟨c.wb, 0, none⟩), .pointer (some ⟨c.gb, 0, none⟩), .pointer (some ⟨c.db, 0, none⟩),
   .int .i64 x.thread, .int .i64 x.stamp, .int .i64 x.prio, .int .i64 (x.no : Int), .int .i64 x.rank, .bool x.alive, .bool x.flag,
   c.ve, .map c.vm, c.vf, .map (some c.om), fnv ab x.nx,
   .int .i64 x.phase, .int .i64 x.object, .int .i64 x.base, .int .i64 x.made, .int .i64 x.entry, .int .i64 x.why,
   .int .i64 x.aob, .int .i64 x.aver, .int .i64 x.aord, .int .i64 x.place, .int .i64 x.loc, .int .i64 x.holder, .int .i64 x.status, .int .i64 x.current, fnv ab x.found,
   .int .i64 x.enemy, .int .i64 x.tries, .int .i64 x.waited, .int .i64 x.left, fnv ab x.goOn]
/-- An operation that has begun. -/
def Tx.op (x : Tx) (ph ob : Int) : Tx := { x with phase := ph, object := ob, base := 0, made := 0, entry := -1, why := 0, aob := 0, aver := 0, aord := 0, place := 0, loc := 0, holder := 0, status := 0, current := 0, found := none, enemy := -1, tries := 0, waited := 0, left := 0, goOn := none }
/-- No operation. -/
def Tx.thru (x : Tx) : Tx := { x with nx := none, phase := 0, object := 0, base := 0, made := 0, entry := 0, why := 0, aob := 0, aver := 0, aord := 0, place := 0, loc := 0, holder := 0, status := 0, current := 0, found := none, enemy := 0, tries := 0, waited := 0, left := 0, goOn := none }

theorem i76 : (Tryz.prog.info? 76).map (·.size) = some 20 := by kernel_rfl
theorem i72 : (Tryz.prog.info? 72).map (·.size) = some 9 := by kernel_rfl
theorem i46 : (Tryz.prog.info? 46).map (·.size) = some 26 := by kernel_rfl
section
variable {w w' : World} {x : Tx} {c : Sc} {ab : Nat}
set_option maxHeartbeats 1600000 in
set_option maxRecDepth 1000000 in
theorem abegin (h : CL w ab (x.cells c ab)) (ph ob : Int) :
    Calls Tryz.prog 23 #[.pointer (some ⟨ab, 0, none⟩), .int .i64 ph, .int .i64 ob] w fun e w' => e = .returned (.tuple #[]) ∧ CL w' ab ((x.op ph ob).cells c ab) ∧ Keeps (fun k => k = ab) w w' := by
  go_enter Tryz.func23, Tryz.ntmps23
  go_wp2_with (refine wpList_store_cl rfl 76 _ _ rfl ab 16 20 _ rfl rfl rfl h (by show 36 ≤ 36; decide) i76 (by simp [Value.oneCell']) ?_; intro w1 h1 k1 _)
  go_end0
  exact ⟨rfl, h1, k1⟩
set_option maxHeartbeats 1600000 in
set_option maxRecDepth 1000000 in
theorem athrough (h : CL w ab (x.cells c ab)) :
    Calls Tryz.prog 73 #[.pointer (some ⟨ab, 0, none⟩)] w fun e w' => e = .returned (.tuple #[]) ∧ CL w' ab (x.thru.cells c ab) ∧ Keeps (fun k => k = ab) w w' := by
  have f15 := h.c 15 _ rfl
  have zf15 := h.z 15 (by show 15 < 36; decide)
  have h1 := h.set (o := 15) (by show 15 < 36; decide) .nilFunc
  go_enter Tryz.func73, Tryz.ntmps73
  go_wp2_with (refine wpList_store_cl rfl 76 _ _ rfl ab 16 20 _ rfl rfl rfl h1 (by show 36 ≤ 36; decide) i76 (by simp [Value.oneCell']) ?_; intro w2 h2 k2 _)
  go_end0
  exact ⟨rfl, h2, ((Keeps.refl _ w).setA _ _).trans k2⟩
/-- An object that is opened is looked at. -/
def Tx.opn (x : Tx) (fd : Nat) : Tx := { x with nx := some 51, aob := x.object, aver := 0, aord := -1, place := 0, loc := 0, holder := 0, status := 0, current := 0, found := some fd }
set_option maxHeartbeats 1600000 in
set_option maxRecDepth 1000000 in
theorem alook (h : CL w ab (x.cells c ab)) (fd : Nat) :
    Calls Tryz.prog 26 #[.pointer (some ⟨ab, 0, none⟩), .func (.func fd) #[.pointer (some ⟨ab, 0, none⟩)] #[]] w fun e w' => e = .returned (.tuple #[]) ∧ CL w' ab ((x.opn fd).cells c ab) ∧ Keeps (fun k => k = ab) w w' := by
  have f17 := h.c 17 _ rfl
  have hmf : ∀ (fn : Fn) (first cap : Array Value) (w : World), (Instr.makeFunc fn first cap).run Tryz.prog w = .ok (.func fn first cap) w := fun _ _ _ _ => rfl
  go_enter Tryz.func26, Tryz.ntmps26
  go_wp2_with (refine wpList_store_cl rfl 72 _ _ rfl ab 22 9 _ rfl rfl rfl h (by show 31 ≤ 36; decide) i72 (by simp [Value.oneCell']) ?_; intro w1 h1 k1 _; have g15 := h1.c 15 _ rfl; have zg15 := h1.z 15 (by show 15 < 36; decide); clear f17)
  go_end0
  exact ⟨rfl, h1.set (o := 15) (by show 15 < 36; decide) _, k1.setA _ _⟩
end
end Go.Proofs.YteomlhcllmlkpaaGreatDoor
