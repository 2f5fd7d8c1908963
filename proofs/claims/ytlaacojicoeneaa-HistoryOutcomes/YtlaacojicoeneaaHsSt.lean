import Derived.Test.YtlaacojicoeneaaTxSt
namespace Go.Proofs.Ytlaacojicoeneaa
open Go.RowKit
/-- A row. -/
structure Rw where
  step : Int
  thread : Int
  job : Int
  try_ : Int
  no : Int
  kind : Int
  phase : Int
  object : Int
  entry : Int
  enemy : Int
  cell : Int
  seen : Int
  wrote : Int
  done : Bool
  abort : Bool
  timeout : Bool
  wait : Int
  told : Bool
  vN : Int
  vX : Int
  vD : Bool
  puts : Bool
  pN : Int
  pX : Int
  pD : Bool
  fin : Int
def Rw.cells (r : Rw) : List Value :=
  [.int .i64 r.step, .int .i64 r.thread, .int .i64 r.job, .int .i64 r.try_, .int .i64 r.no, .int .i64 r.kind, .int .i64 r.phase, .int .i64 r.object, .int .i64 r.entry, .int .i64 r.enemy, .int .i64 r.cell, .int .i64 r.seen, .int .i64 r.wrote,
   .bool r.done, .bool r.abort, .bool r.timeout, .int .i64 r.wait, .bool r.told, .int .i64 r.vN, .int .i64 r.vX, .bool r.vD, .bool r.puts, .int .i64 r.pN, .int .i64 r.pX, .bool r.pD, .int .i64 r.fin]
def rw0 : Rw := ⟨0, 0, 0, 0, 0, 0, 0, 0, 0, 0, 0, 0, 0, false, false, false, 0, false, 0, 0, false, false, 0, 0, false, 0⟩
instance : Inhabited Rw := ⟨rw0⟩
/-- The fields that are looked at, of a row in a block of its own. -/
structure RB (w : World) (b : Nat) (r : Rw) : Prop where
  cl : CL w b r.cells
  c0 : w.cell? ⟨b, 0, none⟩ = some (.int .i64 r.step)
  c1 : w.cell? ⟨b, 1, none⟩ = some (.int .i64 r.thread)
  c2 : w.cell? ⟨b, 2, none⟩ = some (.int .i64 r.job)
  c3 : w.cell? ⟨b, 3, none⟩ = some (.int .i64 r.try_)
  c4 : w.cell? ⟨b, 4, none⟩ = some (.int .i64 r.no)
  c5 : w.cell? ⟨b, 5, none⟩ = some (.int .i64 r.kind)
  c6 : w.cell? ⟨b, 6, none⟩ = some (.int .i64 r.phase)
  c7 : w.cell? ⟨b, 7, none⟩ = some (.int .i64 r.object)
  c8 : w.cell? ⟨b, 8, none⟩ = some (.int .i64 r.entry)
  c11 : w.cell? ⟨b, 11, none⟩ = some (.int .i64 r.seen)
  c13 : w.cell? ⟨b, 13, none⟩ = some (.bool r.done)
  c17 : w.cell? ⟨b, 17, none⟩ = some (.bool r.told)
  c21 : w.cell? ⟨b, 21, none⟩ = some (.bool r.puts)
  c25 : w.cell? ⟨b, 25, none⟩ = some (.int .i64 r.fin)
theorem RB.of {w : World} {b : Nat} {r : Rw} (h : CL w b r.cells) : RB w b r :=
  ⟨h, h.c 0 _ rfl, h.c 1 _ rfl, h.c 2 _ rfl, h.c 3 _ rfl, h.c 4 _ rfl, h.c 5 _ rfl, h.c 6 _ rfl, h.c 7 _ rfl, h.c 8 _ rfl, h.c 11 _ rfl, h.c 13 _ rfl, h.c 17 _ rfl, h.c 21 _ rfl, h.c 25 _ rfl⟩
theorem rb_made (w : World) (r : Rw) : RB (w.alloc (.cells r.cells.toArray 39)) w.heap.size r := RB.of (CL.made w _ _)
/-- A row's block is made at the entry of a function that takes one. -/
theorem rw_box (w : World) (r : Rw) : ∃ w0, w0 = w.alloc (.cells r.cells.toArray 39) ∧ Keeps (fun _ => False) w w0 ∧ RB w0 w.heap.size r ∧ w0.heap.size = w.heap.size + 1 := ⟨_, rfl, (Keeps.refl _ w).alloc _, rb_made w r, by simp⟩
end Go.Proofs.Ytlaacojicoeneaa
