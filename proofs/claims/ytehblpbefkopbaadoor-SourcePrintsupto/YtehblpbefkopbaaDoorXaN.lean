import Derived.Test.YtehblpbefkopbaaDoorXaM
namespace Go.Proofs.YtehblpbefkopbaaDoor
open Go.RowKit Go.ChangeShapes Go.WideShapes Go.ChangeAt Go.Deep
attribute [local go_sem] Oper.semAt_some run_store_nf run_store_f
/-- How much a reader has still to read. -/
def mR (r : Nat) (W : World) : Nat := match W.cell? ⟨r, 1, none⟩ with
  | some v => slen v
  | none => 0
theorem mR_eq {W : World} {r : Nat} {T R : Bs} (h : RdM W r T R) : mR r W = R.length := by
  unfold mR
  rw [h.c.c 1 _ rfl]
  rfl
/-- An expression on its way, in a box. -/
structure ExL (w : World) (r : Nat) (T : Bs) (bx : Nat) (Wr : World) (tt : Tr) (Rc : Bs) (k n : Int) (s : ByteArray) (p : Option Addr) (m c : Nat) : Prop where
  b : CL Wr bx [.int .i64 k, .int .i64 n, .string s, .slice p m c]
  t : TC Wr (fun g => w.heap.size < g ∧ g ≠ bx) 32 tt [.int .i64 k, .int .i64 n, .string s, .slice p m c]
  h : RdM Wr r T Rc
  kk : Keeps (fun k => k = r) w Wr
  m : CL Wr w.heap.size zE
  lo : w.heap.size < bx
theorem ExL.keep {w : World} {r : Nat} {T : Bs} {bx : Nat} {Wr W' : World} {tt : Tr} {Rc : Bs} {k n : Int} {s : ByteArray} {p : Option Addr} {m c : Nat} (e : ExL w r T bx Wr tt Rc k n s p m c) (k' : Keeps (fun _ => False) Wr W') : ExL w r T bx W' tt Rc k n s p m c :=
  ⟨e.b.keep (by show 0 < 4; decide) k' (fun e => e), e.t.stay (k'.stay (fun _ _ _ e => e)), e.h.keep k' (fun _ _ e => e) (fun e => e), e.kk.trans (k'.mono (fun _ _ e => e.elim)), e.m.keep (by show 0 < 4; decide) k' (fun e => e), e.lo⟩
theorem ExL.go {w : World} {r : Nat} {T : Bs} {bx : Nat} {Wr W' : World} {tt : Tr} {Rc R' : Bs} {k n : Int} {s : ByteArray} {p : Option Addr} {m c : Nat} (e : ExL w r T bx Wr tt Rc k n s p m c) (k' : Keeps (fun i => i = r) Wr W') (h' : RdM W' r T R') (hr : r < w.heap.size) : ExL w r T bx W' tt R' k n s p m c :=
  ⟨e.b.keep (by show 0 < 4; decide) k' (fun q => by have := e.lo; omega), e.t.stay (k'.stay (fun i hi _ q => by have := hi.1; omega)), h', e.kk.trans k', e.m.keep (by show 0 < 4; decide) k' (fun q => by omega), e.lo⟩
end Go.Proofs.YtehblpbefkopbaaDoor
