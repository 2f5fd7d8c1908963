import Derived.Test.YtgcfckbmmdajhaaLjA
namespace Go.Proofs.Ytgcfckbmmdajhaa
open Go.RowKit
theorem wpList_stopL {P : Program} {ops : Array Oper} {rest : List Oper} {o : Oper} {a : Act} {w : World} {Q : Exit → Act → World → Prop} (d : Tmp) (_ : o.dst = some d) (h : Hid (wpList P ops Q (o :: rest) a w)) : wpList P ops Q (o :: rest) a w := h.out
/-- What May answers. -/
def MaP (l : List Cl) (w : World) (e : Ending) (w' : World) : Prop := ∃ b, e = .returned (.bool b) ∧ (b = true ↔ MayL l) ∧ Keeps (fun _ => False) w w'
end Go.Proofs.Ytgcfckbmmdajhaa
