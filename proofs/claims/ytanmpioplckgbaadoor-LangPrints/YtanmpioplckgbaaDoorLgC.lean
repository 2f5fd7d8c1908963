import Derived.Test.YtanmpioplckgbaaDoorLgB
import Derived.Test.YtanmpioplckgbaaDoorTxSt
import Derived.Laws.StructEq
namespace Go.Proofs.YtanmpioplckgbaaDoor
open Go.RowKit
/-- Field by field. -/
def eqI (u q : Ins) : Bool := u.code == q.code && u.dst == q.dst && (u.oR == q.oR && u.oN == q.oN) && (u.xR == q.xR && u.xN == q.xN) && (u.yR == q.yR && u.yN == q.yN) && u.op == q.op && u.rel == q.rel && u.to == q.to
set_option maxHeartbeats 1000000 in
set_option maxRecDepth 100000 in
theorem eql_ins (w : World) (u q : Ins) : (Op.equalIn 10000 31 (.agg u.cells.toArray) (.agg q.cells.toArray)).run Tryd.prog w = .ok (eqI u q) w := by
  obtain ⟨a0, a1, a2, a3, a4, a5, a6, a7, a8, a9, a10⟩ := u
  obtain ⟨b0, b1, b2, b3, b4, b5, b6, b7, b8, b9, b10⟩ := q
  rw [run_equalIn_agg w 9999 _ _ _ (by kernel_rfl) (by kernel_rfl)]
  unfold Program.fieldsOf
  rw [Tryd.underlying31]
  simp only [Ins.cells, eqI]
  go_simp
  (repeat' split) <;> simp_all
theorem eqI_iff {u q : Ins} : eqI u q = true ↔ u = q := by
  obtain ⟨a0, a1, a2, a3, a4, a5, a6, a7, a8, a9, a10⟩ := u
  obtain ⟨b0, b1, b2, b3, b4, b5, b6, b7, b8, b9, b10⟩ := q
  simp only [eqI, Bool.and_eq_true, beq_iff_eq, Ins.mk.injEq]
  exact ⟨fun h => ⟨h.1.1.1.1.1.1.1, h.1.1.1.1.1.1.2, h.1.1.1.1.1.2.1, h.1.1.1.1.1.2.2, h.1.1.1.1.2.1, h.1.1.1.1.2.2, h.1.1.1.2.1, h.1.1.1.2.2, h.1.1.2, h.1.2, h.2⟩, fun ⟨h1, h2, h3, h4, h5, h6, h7, h8, h9, h10, h11⟩ => ⟨⟨⟨⟨⟨⟨⟨h1, h2⟩, h3, h4⟩, h5, h6⟩, h7, h8⟩, h9⟩, h10⟩, h11⟩⟩
/-- One field is taken over. -/
def Ins.lay (u q : Ins) (s : Int) : Ins := if s = 1 then { u with dst := q.dst } else if s = 2 then { u with oR := q.oR, oN := q.oN } else if s = 3 then { u with xR := q.xR, xN := q.xN } else if s = 4 then { u with yR := q.yR, yN := q.yN } else if s = 5 then { u with rel := q.rel } else { u with to := q.to }
/-- A relation, an operator. -/
def isRel (r : Int) : Bool := decide (1 ≤ r) && decide (r ≤ 6)
def isOp (r : Int) : Bool := decide (1 ≤ r) && decide (r ≤ 12)
/-- Is a field in its bounds? -/
def Ins.oks (q : Ins) (n : Int) (s : Int) : Bool := if s = 1 then rg q.dst else if s = 2 then opk q.oR q.oN else if s = 3 then opk q.xR q.xN else if s = 4 then opk q.yR q.yN else if s = 5 then isRel q.rel else decide (0 ≤ q.to) && decide (q.to ≤ n)
/-- A code's slots. -/
def slo (c : Nat) : List Int := ([[], [1, 2], [1, 2], [2, 3], [2], [1, 3], [1, 3, 4], [3, 5, 4, 6], [6], [], [3]] : List (List Int)).getD c []
def Ins.lays (u q : Ins) (l : List Int) : Ins := l.foldl (fun u s => u.lay q s) u
/-- What canBe answers. -/
def Ins.cab (q : Ins) (n : Int) (c : Nat) : Bool := ((if c = 6 then isOp q.op else true) && (slo c).all (q.oks n)) && eqI (({ ins0 with code := q.code, op := if c = 6 then q.op else 0 } : Ins).lays q (slo c)) q
theorem cab_can {q : Ins} {n : Int} {c : Nat} (hc : q.code = (c : Int)) (h : 1 ≤ c ∧ c ≤ 10) : q.cab n c = q.can n := by
  rw [can_in (by omega), Bool.eq_iff_iff]
  obtain ⟨a0, a1, a2, a3, a4, a5, a6, a7, a8, a9, a10⟩ := q
  simp only at hc
  subst hc
  rcases (by omega : c = 1 ∨ c = 2 ∨ c = 3 ∨ c = 4 ∨ c = 5 ∨ c = 6 ∨ c = 7 ∨ c = 8 ∨ c = 9 ∨ c = 10) with rfl | rfl | rfl | rfl | rfl | rfl | rfl | rfl | rfl | rfl <;>
  (cases a2 <;> cases a4 <;> cases a6 <;> simp [Ins.cab, slo, Ins.lays, Ins.lay, Ins.oks, eqI, ins0, isOp, isRel, btw, fts, rg, opk, kdD, kdO, kdX, kdY, kdR, kdL, and_assoc] <;> omega)
end Go.Proofs.YtanmpioplckgbaaDoor
