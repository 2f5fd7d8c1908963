import Derived.WalkKit
import Derived.ProofKit
namespace Go.Proofs.YtanmpioplckgbaaDoor
open Go.RowKit

/-- The operators' names, by their places; place 0 is nobody's. -/
def opT (i : Nat) : ByteArray := ⟨(([#[], #[97, 100, 100], #[115, 117, 98], #[109, 117, 108], #[100, 105, 118], #[114, 101, 109], #[97, 110, 100], #[111, 114], #[120, 111, 114], #[115, 104, 108], #[115, 104, 114], #[109, 105, 110], #[109, 97, 120]] : List (Array UInt8)).getD i #[])⟩
/-- The relations' names. -/
def relT (i : Nat) : ByteArray := ⟨(([#[], #[61, 61], #[33, 61], #[60], #[60, 61], #[62], #[62, 61]] : List (Array UInt8)).getD i #[])⟩

/-- The first place from i on, of n, that holds s; else 0. -/
def look (tab : Nat → ByteArray) (s : ByteArray) : Nat → Nat → Nat
  | _, 0 => 0
  | i, n + 1 => if (tab i).toList == s.toList then i else look tab s (i + 1) n
/-- The error beside it. -/
def lookE (bad : Int) (n : Nat) : Int := if n = 0 then bad else 0
theorem look_hit (tab : Nat → ByteArray) (s : ByteArray) (i n : Nat) (h : ((tab i).toList == s.toList) = true) : look tab s i (n + 1) = i := by
  show (if (tab i).toList == s.toList then i else _) = i; rw [if_pos h]
theorem look_miss (tab : Nat → ByteArray) (s : ByteArray) (i n : Nat) (h : ((tab i).toList == s.toList) = false) : look tab s i (n + 1) = look tab s (i + 1) n := by
  show (if (tab i).toList == s.toList then i else _) = _; rw [if_neg (by simp [h])]
/-- A name by an operator's number, whatever it is. -/
def nameAt (tab : Nat → ByteArray) (top : Int) (op : Int) : ByteArray := if 1 ≤ op ∧ op ≤ top then tab op.toNat else ⟨#[]⟩
end Go.Proofs.YtanmpioplckgbaaDoor
