import Derived.Test.YtgcfckbmmdajhaaLiC
namespace Go.Proofs.Ytgcfckbmmdajhaa
open Go.RowKit Go.Maps Go.ChangeMaps Go.MapKept Go.WideShapes
theorem SV.len {w : World} {mb n : Nat} {f : Int → Bool} (h : SV w mb n f) (ty : TypeId) : (Builtin.len_ #[53] ty #[.map (some mb)]).run Try.prog w = .ok (.int .i64 n) w := by
  obtain ⟨D, h1, h2, _⟩ := h
  rw [h1.len underS ty, h2]
theorem wpList_len_sv {w : World} {ops : Array Oper} {rest : List Oper} {o : Oper} {a : Act} {Q : Exit → Act → World → Prop} (hg : o.guard = none) (m : Operand) (hop : o.op = Op.call { callee := Callee.builtin Builtin.len, args := #[m], argTypes := #[53] }) {mb n : Nat} {f : Int → Bool} (hm : a.eval m = .map (some mb)) (h : SV w mb n f)
    (hK : wpList Try.prog ops Q rest (a.put o.dst (.int .i64 n)) w) : wpList Try.prog ops Q (o :: rest) a w := by
  obtain ⟨D, h1, h2, _⟩ := h
  refine wpList_len_own w hg m 53 hop 2 67 underS unitElem mb n D hm h1 ?_
  rw [h2]
  exact hK
/-- What a set answers to a call (yes, result), and what is in it afterwards (how many, which): a relation, for the least number is told by what it is. -/
def Did (c : Cl) (n : Nat) (f : Int → Bool) (y : Bool) (r : Int) (n' : Nat) (f' : Int → Bool) : Prop :=
  if c.kind = 1 then y = !f c.key ∧ r = 0 ∧ n' = upN (f c.key) n ∧ f' = putF f c.key
  else if c.kind = 2 then y = f c.key ∧ r = 0 ∧ n' = dnN (f c.key) n ∧ f' = delF f c.key
  else if c.kind = 3 then y = f c.key ∧ r = 0 ∧ n' = n ∧ f' = f
  else if c.kind = 4 then (if n = 0 then y = false ∧ r = 0 ∧ n' = n ∧ f' = f else y = true ∧ Lst f r ∧ n' = dnN (f r) n ∧ f' = delF f r)
  else if c.kind = 5 then y = true ∧ r = n ∧ n' = n ∧ f' = f
  else if f c.key = false ∨ f c.other = true then y = false ∧ r = 0 ∧ n' = n ∧ f' = f
  else y = (putF f c.other) c.key ∧ r = 0 ∧ n' = dnN ((putF f c.other) c.key) (upN (f c.other) n) ∧ f' = delF (putF f c.other) c.key
end Go.Proofs.Ytgcfckbmmdajhaa
