import Derived.Test.YtanmpioplckgbaaDoorLgQ
namespace Go.Proofs.YtanmpioplckgbaaDoor
open Go.RowKit
attribute [local go_sem] Oper.semAt_some run_store_nf run_store_f
/-- A slice's block is new. -/
def NewB (w : World) (v : Value) : Prop := ∀ a n c, v = .slice a n c → ∀ b off, a = some ⟨b, off, none⟩ → w.heap.size ≤ b
theorem NewB.mk {w : World} {x n c : Nat} (h : w.heap.size ≤ x) : NewB w (.slice (some ⟨x, 0, none⟩) n c) := fun _ _ _ e b off h' => by
  injection e with e1 _ _
  rw [← e1] at h'
  injection h' with h'
  injection h' with h1 _ _
  omega
theorem NewB.nil {w : World} {n c : Nat} : NewB w (.slice none n c) := fun _ _ _ e b off h' => by
  injection e with e1 _ _
  rw [← e1] at h'
  cases h'
/-- The places at which a walk may go on. -/
def Ins.nxt (q : Ins) (p : Int) : List Int := if q.code = 8 then [q.to] else if q.code = 7 then [q.to, p + 1] else if q.code = 9 ∨ q.code = 10 then [] else [p + 1]
end Go.Proofs.YtanmpioplckgbaaDoor
