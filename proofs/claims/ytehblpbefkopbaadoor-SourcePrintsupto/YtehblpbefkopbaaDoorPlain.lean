import Derived.WalkKit
import Derived.ProofKit
import Derived.Laws.BitsAllLaws
import Derived.Laws.Bits64
namespace Go.Proofs.YtehblpbefkopbaaDoor
open Go.RowKit

/-- The lowest six bits of a number. -/
def six (b : Int) : Nat := (b % 64).toNat

/-- What an operator answers. -/
def ap (op a b : Int) : Int :=
  if op = 1 then wrap64 (a + b) else if op = 2 then wrap64 (a - b) else if op = 3 then wrap64 (a * b)
  else if op = 4 then (if b = 0 then 0 else wrap64 (a.tdiv b))
  else if op = 5 then (if b = 0 then a else a.tmod b)
  else if op = 6 then bits .and .i64 a b else if op = 7 then bits .or .i64 a b else if op = 8 then bits .xor .i64 a b
  else if op = 9 then wrap64 (a * 2 ^ six b) else if op = 10 then a / 2 ^ six b
  else if op = 11 then (if b < a then b else a) else if op = 12 then (if a < b then b else a) else 0

theorem ap1 (a b : Int) : ap 1 a b = wrap64 (a + b) := rfl
theorem ap2 (a b : Int) : ap 2 a b = wrap64 (a - b) := rfl
theorem ap3 (a b : Int) : ap 3 a b = wrap64 (a * b) := rfl
theorem ap4 (a b : Int) : ap 4 a b = if b = 0 then 0 else wrap64 (a.tdiv b) := rfl
theorem ap5 (a b : Int) : ap 5 a b = if b = 0 then a else a.tmod b := rfl
theorem ap6 (a b : Int) : ap 6 a b = bits .and .i64 a b := rfl
theorem ap7 (a b : Int) : ap 7 a b = bits .or .i64 a b := rfl
theorem ap8 (a b : Int) : ap 8 a b = bits .xor .i64 a b := rfl
theorem ap9 (a b : Int) : ap 9 a b = wrap64 (a * 2 ^ six b) := rfl
theorem ap10 (a b : Int) : ap 10 a b = a / 2 ^ six b := rfl
theorem ap11 (a b : Int) : ap 11 a b = if b < a then b else a := rfl
theorem ap12 (a b : Int) : ap 12 a b = if a < b then b else a := rfl

theorem six_lt (b : Int) : six b < 64 := by unfold six; omega

/-- The mask of six bits, as the text reckons it. -/
theorem mask6 (b : Int) : bits .and .u64 (IntKind.u64.wrap b) 63 = ((six b : Nat) : Int) := by
  have h0 : 0 ≤ IntKind.u64.wrap b := by rw [IntKind.wrap_u64]; omega
  have h1 : IntKind.u64.wrap b < 18446744073709551616 := by rw [IntKind.wrap_u64]; omega
  rw [u64_and _ _ h0 h1 (by decide) (by decide)]
  have e : (63 : Int).toNat = 63 := rfl
  rw [e, nat_mask6, IntKind.wrap_u64]
  unfold six
  congr 1
  omega

/-- A world that was kept below a bound, and reaches up to it. -/
def Kept (B : Nat) (W w : World) : Prop := Below B W w ∧ B ≤ w.heap.size
theorem Kept.step {B : Nat} {W w w' : World} (h : Kept B W w) (k : Below w.heap.size w w') : Kept B W w' :=
  ⟨h.1.trans (k.mono h.2), Nat.le_trans h.2 k.size⟩
theorem Kept.start (w : World) (o : Obj) : Kept (w.heap.size + 1) (w.alloc o) (w.alloc o) := ⟨Below.refl _ _, by simp⟩
theorem Kept.cell {B : Nat} {W w : World} (h : Kept B W w) {p : Addr} (hp : p.block < B) : w.cell? p = W.cell? p := h.1.cell hp
theorem Kept.below {B : Nat} {W w : World} (h : Kept B W w) : Below B W w := h.1
end Go.Proofs.YtehblpbefkopbaaDoor
