import Derived.Test.YtanmpioplckgbaaDoorKeepSt
import Derived.Test.YtanmpioplckgbaaDoorRows
import Derived.OpenShut
import Derived.WalkLawsBesides
namespace Go.Proofs.YtanmpioplckgbaaDoor
open Go.RowKit
/-- An instruction. -/
structure Ins where
  code : Int
  dst : Int
  oR : Bool
  oN : Int
  xR : Bool
  xN : Int
  yR : Bool
  yN : Int
  op : Int
  rel : Int
  to : Int
def ins0 : Ins := ⟨0, 0, false, 0, false, 0, false, 0, 0, 0, 0⟩
instance : Inhabited Ins := ⟨ins0⟩
def Ins.cells (q : Ins) : List Value := [.int .i64 q.code, .int .i64 q.dst, .bool q.oR, .int .i64 q.oN, .bool q.xR, .int .i64 q.xN, .bool q.yR, .int .i64 q.yN, .int .i64 q.op, .int .i64 q.rel, .int .i64 q.to]
/-- A register's number. -/
def rg (n : Int) : Bool := decide (0 ≤ n) && decide (n < 16)
/-- An operand in its bounds. -/
def opk (r : Bool) (n : Int) : Bool := !r || rg n
/-- A number that is used lies from lo to hi; else it is 0. -/
def btw (n lo hi : Int) (u : Bool) : Bool := if u then decide (lo ≤ n) && decide (n ≤ hi) else n == 0
/-- An operand that is used, or is not. -/
def fts (r : Bool) (n : Int) (u : Bool) : Bool := if u then opk r n else !r && n == 0
/-- What a code uses. -/
def kdD (c : Int) : Bool := c == 1 || c == 2 || c == 5 || c == 6
def kdO (c : Int) : Bool := c == 1 || c == 2 || c == 3 || c == 4
def kdX (c : Int) : Bool := c == 3 || c == 5 || c == 6 || c == 7 || c == 10
def kdY (c : Int) : Bool := c == 6 || c == 7
def kdR (c : Int) : Bool := c == 7
def kdL (c : Int) : Bool := c == 7 || c == 8
/-- Can an instruction be, among n? -/
def Ins.can (q : Ins) (n : Int) : Bool :=
  (decide (1 ≤ q.code) && decide (q.code ≤ 10)) && (btw q.dst 0 15 (kdD q.code) && btw q.rel 1 6 (kdR q.code) && btw q.to 0 n (kdL q.code) && btw q.op 1 12 (q.code == 6)) && (fts q.oR q.oN (kdO q.code) && fts q.xR q.xN (kdX q.code) && fts q.yR q.yN (kdY q.code))
section
variable (w : World)
theorem isReg_any (n : Int) : Calls Tryd.prog 50 #[.int .i64 n] w fun e w' => e = .returned (.bool (rg n)) ∧ w' = w := by
  unfold rg
  cases h1 : decide (0 ≤ n) <;> cases h2 : decide (n < 16) <;>
  (go_enter Tryd.func50, Tryd.ntmps50
   go_wp2
   go_ret
   exact ⟨rfl, rfl⟩)
theorem between_any (n lo hi : Int) (u : Bool) : Calls Tryd.prog 45 #[.int .i64 n, .int .i64 lo, .int .i64 hi, .bool u] w fun e w' => e = .returned (.bool (btw n lo hi u)) ∧ w' = w := by
  unfold btw
  cases u
  · go_enter Tryd.func45, Tryd.ntmps45
    go_wp2
    go_ret
    exact ⟨rfl, rfl⟩
  · cases h1 : decide (lo ≤ n) <;> cases h2 : decide (n ≤ hi) <;>
    (go_enter Tryd.func45, Tryd.ntmps45
     go_wp2
     go_ret
     exact ⟨rfl, rfl⟩)
theorem inBounds_any (r : Bool) (n : Int) : Calls Tryd.prog 51 #[.agg #[.bool r, .int .i64 n]] w fun e w' => e = .returned (.bool (opk r n)) ∧ Keeps (fun _ => False) w w' := by
  have k : Keeps (fun _ => False) w (w.alloc (.cells #[.bool r, .int .i64 n] 27)) := (Keeps.refl _ w).alloc _
  unfold opk
  cases r
  · go_enter Tryd.func51, Tryd.ntmps51
    go_wp2
    go_ret
    exact ⟨rfl, k⟩
  · go_enter Tryd.func51, Tryd.ntmps51
    go_wp2_with (go_at_call 50; refine (isReg_any _ _).mono ?_; rintro e w' ⟨rfl, rfl⟩)
    go_ret
    exact ⟨rfl, k⟩
theorem fits_any (r : Bool) (n : Int) (u : Bool) : Calls Tryd.prog 47 #[.agg #[.bool r, .int .i64 n], .bool u] w fun e w' => e = .returned (.bool (fts r n u)) ∧ Keeps (fun _ => False) w w' := by
  have k : Keeps (fun _ => False) w (w.alloc (.cells #[.bool r, .int .i64 n] 40)) := (Keeps.refl _ w).alloc _
  unfold fts opk rg
  cases u <;> cases r
  · go_enter Tryd.func47, Tryd.ntmps47
    go_wp2
    go_ret
    exact ⟨rfl, k⟩
  · go_enter Tryd.func47, Tryd.ntmps47
    go_wp2
    go_ret
    exact ⟨rfl, k⟩
  · go_enter Tryd.func47, Tryd.ntmps47
    go_wp2
    go_ret
    exact ⟨rfl, k⟩
  · cases h1 : decide (0 ≤ n) <;> cases h2 : decide (n < 16) <;>
    (go_enter Tryd.func47, Tryd.ntmps47
     go_wp2
     go_ret
     exact ⟨rfl, k⟩)
end
end Go.Proofs.YtanmpioplckgbaaDoor
