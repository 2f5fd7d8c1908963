import Derived.Test.YtehblpbefkopbaaDoorXaE
import Derived.Laws.Rows
import Derived.Lib.SmallJoins
import Derived.Lib.IndexMore
import Derived.Lib.LastIndexByte
namespace Go.Proofs.YtehblpbefkopbaaDoor
open Go.RowKit Go.ChangeShapes Go.WideShapes Go.ChangeAt
attribute [local go_sem] Oper.semAt_some run_store_nf run_store_f
theorem Keeps.ofBelow {w w' : World} (h : Below w.heap.size w w') : Keeps (fun _ => False) w w' := ⟨h.os, h.tape, h.output, h.size, fun k hk _ => h.block k hk⟩
/-- A table of the package's own: its cells. -/
def bndC : List Value := bnds.flatMap fun x => [.string (bs x.1), .int .i64 (x.2.1 : Int), .int .i64 (x.2.2 : Int)]
def usC : List Value := [false, false, false, false, false, true, true, false, false, false, false, true, true, false, false, false, true, false, false, false, false, true, false, true, true, false, true, false, true, false, false, false, false, false, false, false, true, false, false, false].map Value.bool
structure SG (w : World) : Prop where
  kw : ∀ i v, (kpt.map fun x => Value.string (bs x))[i]? = some v → w.cell? ⟨2, i, none⟩ = some v
  bn : ∀ i v, bndC[i]? = some v → w.cell? ⟨1, i, none⟩ = some v
  us : ∀ i v, usC[i]? = some v → w.cell? ⟨0, i, none⟩ = some v
theorem SG.keep {S : Nat → Prop} {w w' : World} (h : SG w) (k : Keeps S w w') (hS : ∀ i, i < 6 → ¬ S i) : SG w' :=
  ⟨fun i v e => k.cell (h.kw i v e) (hS 2 (by decide)), fun i v e => k.cell (h.bn i v e) (hS 1 (by decide)), fun i v e => k.cell (h.us i v e) (hS 0 (by decide))⟩
/-- A value of so many cells that stand in a row. -/
theorem run_load_cells {P : Program} (w : World) (b : Nat) (ty : TypeId) (cs : List Value) (d : TypeDesc) (hc : ∀ (j : Nat) (v : Value), cs[j]? = some v → w.cell? ⟨b, j, none⟩ = some v)
    (hu : P.underlying ty = some d) (hd : (match d with | .struct _ | .array _ _ => true | _ => false) = true) (hi : (P.info? ty).map (·.size) = some cs.length) :
    (loadVar ty ⟨b, 0, none⟩).run P w = .ok (.agg cs.toArray) w := by
  have hl : (loadCells ⟨b, 0, none⟩ cs.length).run P w = .ok cs.toArray w :=
    run_loadCells_list (P := P) w ⟨b, 0, none⟩ cs (fun j v hv => by
      have hadd : (⟨b, 0, none⟩ : Addr).add j = ⟨b, j, none⟩ := by unfold Addr.add; split <;> simp_all
      rw [hadd]
      exact hc j v hv)
  cases hq : P.info? ty with
  | none => simp [hq] at hi
  | some i =>
    have hs : i.size = cs.length := by simpa [hq] using hi
    have hagg : (isAgg ty).run P w = .ok true w := by
      unfold isAgg
      rw [Sem.run_bind, run_underlying hu w]
      cases d <;> simp_all
    simp [loadVar, Sem.run_bind, hagg, sizeOf, typeInfo, hq, hs, hl]
def sgV : Value := .agg (sgs.map fun x => Value.string (bs x)).toArray
def kwV : Value := .agg (kpt.map fun x => Value.string (bs x)).toArray
def bnV : Value := .agg bndC.toArray
theorem kw_load {w : World} (h : SG w) : (loadVar 127 ⟨2, 0, none⟩).run Tryd.prog w = .ok kwV w := run_load_cells w _ _ _ _ h.kw Tryd.underlying127 rfl (by kernel_rfl)
theorem bn_load {w : World} (h : SG w) : (loadVar 117 ⟨1, 0, none⟩).run Tryd.prog w = .ok bnV w := run_load_cells w _ _ _ _ h.bn Tryd.underlying117 rfl (by kernel_rfl)
theorem kw_ix (w : World) : ∀ k : Nat, k < 9 → (Instr.index 127 kwV (.int .i64 (k : Int))).run Tryd.prog w = .ok (.string (bs (kpt.getD k []))) w
  | 0, _ => by kernel_rfl
  | 1, _ => by kernel_rfl
  | 2, _ => by kernel_rfl
  | 3, _ => by kernel_rfl
  | 4, _ => by kernel_rfl
  | 5, _ => by kernel_rfl
  | 6, _ => by kernel_rfl
  | 7, _ => by kernel_rfl
  | 8, _ => by kernel_rfl
  | n + 9, h => absurd h (by omega)
theorem bn_ix (w : World) : ∀ k : Nat, k < 20 → (Instr.index 117 bnV (.int .i64 (k : Int))).run Tryd.prog w = .ok (.agg #[.string (bs (bnds.getD k ([], 0, 0)).1), .int .i64 ((bnds.getD k ([], 0, 0)).2.1 : Int), .int .i64 ((bnds.getD k ([], 0, 0)).2.2 : Int)]) w
  | 0, _ => by kernel_rfl
  | 1, _ => by kernel_rfl
  | 2, _ => by kernel_rfl
  | 3, _ => by kernel_rfl
  | 4, _ => by kernel_rfl
  | 5, _ => by kernel_rfl
  | 6, _ => by kernel_rfl
  | 7, _ => by kernel_rfl
  | 8, _ => by kernel_rfl
  | 9, _ => by kernel_rfl
  | 10, _ => by kernel_rfl
  | 11, _ => by kernel_rfl
  | 12, _ => by kernel_rfl
  | 13, _ => by kernel_rfl
  | 14, _ => by kernel_rfl
  | 15, _ => by kernel_rfl
  | 16, _ => by kernel_rfl
  | 17, _ => by kernel_rfl
  | 18, _ => by kernel_rfl
  | 19, _ => by kernel_rfl
  | n + 20, h => absurd h (by omega)
theorem getD_step {α : Type} (L : List α) (d : α) (k : Nat) (h : k < L.length) : L.drop k = L.getD k d :: L.drop (k + 1) := by
  rw [List.drop_eq_getElem_cons h, List.getD_eq_getElem?_getD, List.getElem?_eq_getElem h]; rfl
theorem bs_nil : bs [] = { data := #[] } := rfl
end Go.Proofs.YtehblpbefkopbaaDoor
