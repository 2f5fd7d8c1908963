import Derived.Test.YtblcjohhelokkabGreatDoorLgF
import Derived.Deep.QuietTactic
namespace Go.Proofs.YtblcjohhelokkabGreatDoor
open Go.RowKit
attribute [local go_sem] Oper.semAt_some run_store_nf run_store_f
/-- A run alone, as far as it has come. -/
structure Rs where
  regs : Nat → Int
  st : Nat → Int
  nm : Nat → Int
  rd : Nat
  pl : Int
  oc : Int
  rs : Int
/-- A run in memory. -/
structure RM (w : World) (B : Nat) (ov gv : Value) (s : Rs) : Prop where
  o : w.cell? ⟨B, 0, none⟩ = some ov
  g : w.cell? ⟨B, 1, none⟩ = some gv
  r : ∀ i, i < 16 → w.cell? ⟨B, 2 + i, none⟩ = some (.int .i64 (s.regs i))
  t : ∀ i, i < 16 → w.cell? ⟨B, 18 + i * 2, none⟩ = some (.int .i64 (s.st i))
  n : ∀ i, i < 16 → w.cell? ⟨B, 18 + i * 2 + 1, none⟩ = some (.int .i64 (s.nm i))
  d : w.cell? ⟨B, 50, none⟩ = some (.int .i64 (s.rd : Int))
  p : w.cell? ⟨B, 51, none⟩ = some (.int .i64 s.pl)
  c : w.cell? ⟨B, 52, none⟩ = some (.int .i64 s.oc)
  u : w.cell? ⟨B, 53, none⟩ = some (.int .i64 s.rs)
  z : ∀ j, j < 54 → w.frozen? ⟨B, j, none⟩ = false
theorem RM.lt {w : World} {B : Nat} {ov gv : Value} {s : Rs} (h : RM w B ov gv s) : B < w.heap.size := World.block_lt_of_cell? w ⟨B, 0, none⟩ h.o
theorem RM.keep {w w' : World} {B : Nat} {ov gv : Value} {s : Rs} {S : Nat → Prop} (h : RM w B ov gv s) (k : Keeps S w w') (hS : ¬ S B) : RM w' B ov gv s :=
  ⟨k.cell h.o hS, k.cell h.g hS, fun i hi => k.cell (h.r i hi) hS, fun i hi => k.cell (h.t i hi) hS, fun i hi => k.cell (h.n i hi) hS, k.cell h.d hS, k.cell h.p hS, k.cell h.c hS, k.cell h.u hS, fun j hj => (k.frozen (p := ⟨B, j, none⟩) h.lt hS).trans (h.z j hj)⟩
theorem RM.setR {w : World} {B : Nat} {ov gv : Value} {s : Rs} (h : RM w B ov gv s) {i : Nat} (hi : i < 16) (x : Int) : RM (w.setCell ⟨B, 2 + i, none⟩ (.int .i64 x)) B ov gv { s with regs := fun k => if k = i then x else s.regs k } := by
  have oth : ∀ j v, j ≠ 2 + i → w.cell? ⟨B, j, none⟩ = some v → (w.setCell ⟨B, 2 + i, none⟩ (.int .i64 x)).cell? ⟨B, j, none⟩ = some v := fun j v hj e => by
    rw [World.cell?_setCell_other _ _ _ _ (by intro e2; injection e2 with _ e3; omega)]; exact e
  exact ⟨oth 0 _ (by omega) h.o, oth 1 _ (by omega) h.g, fun k hk => by
    by_cases e : k = i
    · subst e
      simp only [if_true]
      exact World.cell?_setCell_same _ _ _ (h.r k hk)
    · simp only [if_neg e]
      exact oth (2 + k) _ (by omega) (h.r k hk), fun k hk => oth (18 + k * 2) _ (by omega) (h.t k hk), fun k hk => oth (18 + k * 2 + 1) _ (by omega) (h.n k hk), oth 50 _ (by omega) h.d, oth 51 _ (by omega) h.p, oth 52 _ (by omega) h.c, oth 53 _ (by omega) h.u, fun j hj => by simp only [World.frozen?_setCell]; exact h.z j hj⟩
theorem RM.setT {w : World} {B : Nat} {ov gv : Value} {s : Rs} (h : RM w B ov gv s) {i : Nat} (hi : i < 16) (x : Int) : RM (w.setCell ⟨B, 18 + i * 2, none⟩ (.int .i64 x)) B ov gv { s with st := fun k => if k = i then x else s.st k } := by
  have oth : ∀ j v, j ≠ 18 + i * 2 → w.cell? ⟨B, j, none⟩ = some v → (w.setCell ⟨B, 18 + i * 2, none⟩ (.int .i64 x)).cell? ⟨B, j, none⟩ = some v := fun j v hj e => by
    rw [World.cell?_setCell_other _ _ _ _ (by intro e2; injection e2 with _ e3; omega)]; exact e
  exact ⟨oth 0 _ (by omega) h.o, oth 1 _ (by omega) h.g, fun k hk => oth (2 + k) _ (by omega) (h.r k hk), fun k hk => by
    by_cases e : k = i
    · subst e
      simp only [if_true]
      exact World.cell?_setCell_same _ _ _ (h.t k hk)
    · simp only [if_neg e]
      exact oth (18 + k * 2) _ (by omega) (h.t k hk), fun k hk => oth (18 + k * 2 + 1) _ (by omega) (h.n k hk), oth 50 _ (by omega) h.d, oth 51 _ (by omega) h.p, oth 52 _ (by omega) h.c, oth 53 _ (by omega) h.u, fun j hj => by simp only [World.frozen?_setCell]; exact h.z j hj⟩
theorem RM.setN {w : World} {B : Nat} {ov gv : Value} {s : Rs} (h : RM w B ov gv s) {i : Nat} (hi : i < 16) (x : Int) : RM (w.setCell ⟨B, 18 + i * 2 + 1, none⟩ (.int .i64 x)) B ov gv { s with nm := fun k => if k = i then x else s.nm k } := by
  have oth : ∀ j v, j ≠ 18 + i * 2 + 1 → w.cell? ⟨B, j, none⟩ = some v → (w.setCell ⟨B, 18 + i * 2 + 1, none⟩ (.int .i64 x)).cell? ⟨B, j, none⟩ = some v := fun j v hj e => by
    rw [World.cell?_setCell_other _ _ _ _ (by intro e2; injection e2 with _ e3; omega)]; exact e
  exact ⟨oth 0 _ (by omega) h.o, oth 1 _ (by omega) h.g, fun k hk => oth (2 + k) _ (by omega) (h.r k hk), fun k hk => oth (18 + k * 2) _ (by omega) (h.t k hk), fun k hk => by
    by_cases e : k = i
    · subst e
      simp only [if_true]
      exact World.cell?_setCell_same _ _ _ (h.n k hk)
    · simp only [if_neg e]
      exact oth (18 + k * 2 + 1) _ (by omega) (h.n k hk), oth 50 _ (by omega) h.d, oth 51 _ (by omega) h.p, oth 52 _ (by omega) h.c, oth 53 _ (by omega) h.u, fun j hj => by simp only [World.frozen?_setCell]; exact h.z j hj⟩
theorem RM.setD {w : World} {B : Nat} {ov gv : Value} {s : Rs} (h : RM w B ov gv s) (x : Nat) : RM (w.setCell ⟨B, 50, none⟩ (.int .i64 (x : Int))) B ov gv { s with rd := x } := by
  have oth : ∀ j v, j ≠ 50 → w.cell? ⟨B, j, none⟩ = some v → (w.setCell ⟨B, 50, none⟩ (.int .i64 (x : Int))).cell? ⟨B, j, none⟩ = some v := fun j v hj e => by
    rw [World.cell?_setCell_other _ _ _ _ (by intro e2; injection e2 with _ e3; omega)]; exact e
  exact ⟨oth 0 _ (by omega) h.o, oth 1 _ (by omega) h.g, fun k hk => oth (2 + k) _ (by omega) (h.r k hk), fun k hk => oth (18 + k * 2) _ (by omega) (h.t k hk), fun k hk => oth (18 + k * 2 + 1) _ (by omega) (h.n k hk), World.cell?_setCell_same _ _ _ h.d, oth 51 _ (by omega) h.p, oth 52 _ (by omega) h.c, oth 53 _ (by omega) h.u, fun j hj => by simp only [World.frozen?_setCell]; exact h.z j hj⟩
theorem RM.setP {w : World} {B : Nat} {ov gv : Value} {s : Rs} (h : RM w B ov gv s) (x : Int) : RM (w.setCell ⟨B, 51, none⟩ (.int .i64 x)) B ov gv { s with pl := x } := by
  have oth : ∀ j v, j ≠ 51 → w.cell? ⟨B, j, none⟩ = some v → (w.setCell ⟨B, 51, none⟩ (.int .i64 x)).cell? ⟨B, j, none⟩ = some v := fun j v hj e => by
    rw [World.cell?_setCell_other _ _ _ _ (by intro e2; injection e2 with _ e3; omega)]; exact e
  exact ⟨oth 0 _ (by omega) h.o, oth 1 _ (by omega) h.g, fun k hk => oth (2 + k) _ (by omega) (h.r k hk), fun k hk => oth (18 + k * 2) _ (by omega) (h.t k hk), fun k hk => oth (18 + k * 2 + 1) _ (by omega) (h.n k hk), oth 50 _ (by omega) h.d, World.cell?_setCell_same _ _ _ h.p, oth 52 _ (by omega) h.c, oth 53 _ (by omega) h.u, fun j hj => by simp only [World.frozen?_setCell]; exact h.z j hj⟩
theorem RM.setC {w : World} {B : Nat} {ov gv : Value} {s : Rs} (h : RM w B ov gv s) (x : Int) : RM (w.setCell ⟨B, 52, none⟩ (.int .i64 x)) B ov gv { s with oc := x } := by
  have oth : ∀ j v, j ≠ 52 → w.cell? ⟨B, j, none⟩ = some v → (w.setCell ⟨B, 52, none⟩ (.int .i64 x)).cell? ⟨B, j, none⟩ = some v := fun j v hj e => by
    rw [World.cell?_setCell_other _ _ _ _ (by intro e2; injection e2 with _ e3; omega)]; exact e
  exact ⟨oth 0 _ (by omega) h.o, oth 1 _ (by omega) h.g, fun k hk => oth (2 + k) _ (by omega) (h.r k hk), fun k hk => oth (18 + k * 2) _ (by omega) (h.t k hk), fun k hk => oth (18 + k * 2 + 1) _ (by omega) (h.n k hk), oth 50 _ (by omega) h.d, oth 51 _ (by omega) h.p, World.cell?_setCell_same _ _ _ h.c, oth 53 _ (by omega) h.u, fun j hj => by simp only [World.frozen?_setCell]; exact h.z j hj⟩
theorem RM.setU {w : World} {B : Nat} {ov gv : Value} {s : Rs} (h : RM w B ov gv s) (x : Int) : RM (w.setCell ⟨B, 53, none⟩ (.int .i64 x)) B ov gv { s with rs := x } := by
  have oth : ∀ j v, j ≠ 53 → w.cell? ⟨B, j, none⟩ = some v → (w.setCell ⟨B, 53, none⟩ (.int .i64 x)).cell? ⟨B, j, none⟩ = some v := fun j v hj e => by
    rw [World.cell?_setCell_other _ _ _ _ (by intro e2; injection e2 with _ e3; omega)]; exact e
  exact ⟨oth 0 _ (by omega) h.o, oth 1 _ (by omega) h.g, fun k hk => oth (2 + k) _ (by omega) (h.r k hk), fun k hk => oth (18 + k * 2) _ (by omega) (h.t k hk), fun k hk => oth (18 + k * 2 + 1) _ (by omega) (h.n k hk), oth 50 _ (by omega) h.d, oth 51 _ (by omega) h.p, oth 52 _ (by omega) h.c, World.cell?_setCell_same _ _ _ h.u, fun j hj => by simp only [World.frozen?_setCell]; exact h.z j hj⟩
/-- The objects' numbers in memory, apart from a block. -/
def OBJ (w : World) (B : Nat) (a : Option Addr) (os : List Int) : Prop := ∀ i x, os[i]? = some x → ∃ b off, a = some ⟨b, off, none⟩ ∧ b ≠ B ∧ w.cell? ⟨b, off + i, none⟩ = some (.int .i64 x)
/-- Given reads in memory, apart from a block. -/
def GIV (w : World) (B : Nat) (a : Option Addr) (gs : List (Bool × Int)) : Prop := ∀ i x, gs[i]? = some x → ∃ b off, a = some ⟨b, off, none⟩ ∧ b ≠ B ∧ w.cell? ⟨b, off + i * 2, none⟩ = some (.bool x.1) ∧ w.cell? ⟨b, off + i * 2 + 1, none⟩ = some (.int .i64 x.2)
theorem OBJ.keep {w w' : World} {B : Nat} {a : Option Addr} {os : List Int} (h : OBJ w B a os) (k : Keeps (fun k => k = B) w w') : OBJ w' B a os := fun i x hi => by
  obtain ⟨b, off, e, hb, hc⟩ := h i x hi
  exact ⟨b, off, e, hb, k.cell hc hb⟩
theorem GIV.keep {w w' : World} {B : Nat} {a : Option Addr} {gs : List (Bool × Int)} (h : GIV w B a gs) (k : Keeps (fun k => k = B) w w') : GIV w' B a gs := fun i x hi => by
  obtain ⟨b, off, e, hb, hc, hd⟩ := h i x hi
  exact ⟨b, off, e, hb, k.cell hc hb, k.cell hd hb⟩
/-- What a source says. -/
def Rs.sv (s : Rs) (r : Bool) (n : Int) : Int := if r then s.regs n.toNat else n
set_option maxHeartbeats 500000 in
set_option maxRecDepth 100000 in
theorem msource {w : World} {B : Nat} {ov gv : Value} {s : Rs} (h : RM w B ov gv s) (r : Bool) (n : Int) (ho : opk r n = true) : Calls Tryz.prog 37 #[.pointer (some ⟨B, 0, none⟩), .agg #[.bool r, .int .i64 n]] w fun e w' => e = .returned (.int .i64 (s.sv r n)) ∧ Keeps (fun _ => False) w w' := by
  have k0 : Keeps (fun _ => False) w (w.alloc (.cells #[.bool r, .int .i64 n] 47)) := (Keeps.refl _ w).alloc _
  cases r with
  | false =>
    clear ho
    go_enter Tryz.func37, Tryz.ntmps37
    go_wp2
    go_ret
    exact ⟨rfl, k0⟩
  | true =>
    have hn : 0 ≤ n ∧ n < 16 := by
      unfold opk rg at ho
      simpa using ho
    obtain ⟨k, rfl⟩ : ∃ k : Nat, n = (k : Int) := ⟨n.toNat, by omega⟩
    have hc := k0.cell (h.r k (by omega)) (fun e => e)
    have h0 : (0 : Int) ≤ (k : Int) := by omega
    have h6 : (k : Int) < 16 := by omega
    have c0 : (w.alloc (.cells #[.bool true, .int .i64 (k : Int)] 47)).cell? ⟨w.heap.size, 1, none⟩ = some (.int .i64 (k : Int)) := (CL.made w [.bool true, .int .i64 (k : Int)] 47).c 1 _ rfl
    clear h ho
    go_enter Tryz.func37, Tryz.ntmps37
    go_wp2
    go_quiet (fail)
    go_wp2
    go_ret
    exact ⟨by unfold Rs.sv; rw [if_pos rfl, Int.toNat_natCast]; rfl, k0.drewN _⟩
end Go.Proofs.YtblcjohhelokkabGreatDoor
