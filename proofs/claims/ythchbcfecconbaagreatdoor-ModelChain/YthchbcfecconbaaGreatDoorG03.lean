import Derived.Test.YthchbcfecconbaaGreatDoorG02
import Derived.Deep.QuietTactic
import Derived.Test.YthchbcfecconbaaGreatDoorG01
import Derived.Maps.AppendAt
namespace Go.Proofs.YthchbcfecconbaaGreatDoor
open Go.RowKit
attribute [local go_sem] Oper.semAt_some run_store_nf run_store_f
structure Rs where
  regs : Nat → Int
  st : Nat → Int
  nm : Nat → Int
  rd : Nat
  pl : Int
  oc : Int
  rs : Int
structure RM (w : World) (B : Nat) (ov gv : Value) (s : Rs) : Prop where
  o : w.cell? ⟨B, 0, none⟩ = some ov
  g : w.cell? ⟨B, 1, none⟩ = some gv
  r : ∀ i, i < 16 → w.cell? ⟨B, 2 + i, none⟩ = some (.int .i64 (s.regs i))
  t : ∀ i, i < 16 → w.cell? ⟨B, 18 + i * 2, none⟩ = some (.int .i64 (s.st i))
  n : ∀ i, i < 16 → w.cell? ⟨B, 18 + i * 2 + 1, none⟩ = some (.int .i64 (s.nm i))
  d : w.cell? ⟨B, 50, none⟩ = some (.int .i64 (s.rd : Int))
  p : w.cell? ⟨B, 51, none⟩ = some (.int .i64 s.pl)
  c : w.cell? ⟨B, 52, none⟩ = some (.int .i64 s.oc)
  u : w.cell? ⟨B, 53, none⟩ = some (.int .i64 s.rs)
  z : ∀ j, j < 54 → w.frozen? ⟨B, j, none⟩ = false
theorem RM.lt {w : World} {B : Nat} {ov gv : Value} {s : Rs} (h : RM w B ov gv s) : B < w.heap.size := World.block_lt_of_cell? w ⟨B, 0, none⟩ h.o
theorem RM.keep {w w' : World} {B : Nat} {ov gv : Value} {s : Rs} {S : Nat → Prop} (h : RM w B ov gv s) (k : Keeps S w w') (hS : ¬ S B) : RM w' B ov gv s :=
  ⟨k.cell h.o hS, k.cell h.g hS, fun i hi => k.cell (h.r i hi) hS, fun i hi => k.cell (h.t i hi) hS, fun i hi => k.cell (h.n i hi) hS, k.cell h.d hS, k.cell h.p hS, k.cell h.c hS, k.cell h.u hS, fun j hj => (k.frozen (p := ⟨B, j, none⟩) h.lt hS).trans (h.z j hj)⟩
theorem RM.setR {w : World} {B : Nat} {ov gv : Value} {s : Rs} (h : RM w B ov gv s) {i : Nat} (hi : i < 16) (x : Int) : RM (w.setCell ⟨B, 2 + i, none⟩ (.int .i64 x)) B ov gv { s with regs := fun k => if k = i then x else s.regs k } := by
  have oth : ∀ j v, j ≠ 2 + i → w.cell? ⟨B, j, none⟩ = some v → (w.setCell ⟨B, 2 + i, none⟩ (.int .i64 x)).cell? ⟨B, j, none⟩ = some v := fun j v hj e => by
    rw [World.cell?_setCell_other _ _ _ _ (by intro e2; injection e2 with _ e3; omega)]; exact e
  exact ⟨oth 0 _ (by omega) h.o, oth 1 _ (by omega) h.g, fun k hk => by
    by_cases e : k = i
    · subst e
      simp only [if_true]
      exact World.cell?_setCell_same _ _ _ (h.r k hk)
    · simp only [if_neg e]
      exact oth (2 + k) _ (by omega) (h.r k hk), fun k hk => oth (18 + k * 2) _ (by omega) (h.t k hk), fun k hk => oth (18 + k * 2 + 1) _ (by omega) (h.n k hk), oth 50 _ (by omega) h.d, oth 51 _ (by omega) h.p, oth 52 _ (by omega) h.c, oth 53 _ (by omega) h.u, fun j hj => by simp only [World.frozen?_setCell]; exact h.z j hj⟩
theorem RM.setT {w : World} {B : Nat} {ov gv : Value} {s : Rs} (h : RM w B ov gv s) {i : Nat} (hi : i < 16) (x : Int) : RM (w.setCell ⟨B, 18 + i * 2, none⟩ (.int .i64 x)) B ov gv { s with st := fun k => if k = i then x else s.st k } := by
  have oth : ∀ j v, j ≠ 18 + i * 2 → w.cell? ⟨B, j, none⟩ = some v → (w.setCell ⟨B, 18 + i * 2, none⟩ (.int .i64 x)).cell? ⟨B, j, none⟩ = some v := fun j v hj e => by
    rw [World.cell?_setCell_other _ _ _ _ (by intro e2; injection e2 with _ e3; omega)]; exact e
  exact ⟨oth 0 _ (by omega) h.o, oth 1 _ (by omega) h.g, fun k hk => oth (2 + k) _ (by omega) (h.r k hk), fun k hk => by
    by_cases e : k = i
    · subst e
      simp only [if_true]
      exact World.cell?_setCell_same _ _ _ (h.t k hk)
    · simp only [if_neg e]
      exact oth (18 + k * 2) _ (by omega) (h.t k hk), fun k hk => oth (18 + k * 2 + 1) _ (by omega) (h.n k hk), oth 50 _ (by omega) h.d, oth 51 _ (by omega) h.p, oth 52 _ (by omega) h.c, oth 53 _ (by omega) h.u, fun j hj => by simp only [World.frozen?_setCell]; exact h.z j hj⟩
theorem RM.setN {w : World} {B : Nat} {ov gv : Value} {s : Rs} (h : RM w B ov gv s) {i : Nat} (hi : i < 16) (x : Int) : RM (w.setCell ⟨B, 18 + i * 2 + 1, none⟩ (.int .i64 x)) B ov gv { s with nm := fun k => if k = i then x else s.nm k } := by
  have oth : ∀ j v, j ≠ 18 + i * 2 + 1 → w.cell? ⟨B, j, none⟩ = some v → (w.setCell ⟨B, 18 + i * 2 + 1, none⟩ (.int .i64 x)).cell? ⟨B, j, none⟩ = some v := fun j v hj e => by
    rw [World.cell?_setCell_other _ _ _ _ (by intro e2; injection e2 with _ e3; omega)]; exact e
  exact ⟨oth 0 _ (by omega) h.o, oth 1 _ (by omega) h.g, fun k hk => oth (2 + k) _ (by omega) (h.r k hk), fun k hk => oth (18 + k * 2) _ (by omega) (h.t k hk), fun k hk => by
    by_cases e : k = i
    · subst e
      simp only [if_true]
      exact World.cell?_setCell_same _ _ _ (h.n k hk)
    · simp only [if_neg e]
      exact oth (18 + k * 2 + 1) _ (by omega) (h.n k hk), oth 50 _ (by omega) h.d, oth 51 _ (by omega) h.p, oth 52 _ (by omega) h.c, oth 53 _ (by omega) h.u, fun j hj => by simp only [World.frozen?_setCell]; exact h.z j hj⟩
theorem RM.setD {w : World} {B : Nat} {ov gv : Value} {s : Rs} (h : RM w B ov gv s) (x : Nat) : RM (w.setCell ⟨B, 50, none⟩ (.int .i64 (x : Int))) B ov gv { s with rd := x } := by
  have oth : ∀ j v, j ≠ 50 → w.cell? ⟨B, j, none⟩ = some v → (w.setCell ⟨B, 50, none⟩ (.int .i64 (x : Int))).cell? ⟨B, j, none⟩ = some v := fun j v hj e => by
    rw [World.cell?_setCell_other _ _ _ _ (by intro e2; injection e2 with _ e3; omega)]; exact e
  exact ⟨oth 0 _ (by omega) h.o, oth 1 _ (by omega) h.g, fun k hk => oth (2 + k) _ (by omega) (h.r k hk), fun k hk => oth (18 + k * 2) _ (by omega) (h.t k hk), fun k hk => oth (18 + k * 2 + 1) _ (by omega) (h.n k hk), World.cell?_setCell_same _ _ _ h.d, oth 51 _ (by omega) h.p, oth 52 _ (by omega) h.c, oth 53 _ (by omega) h.u, fun j hj => by simp only [World.frozen?_setCell]; exact h.z j hj⟩
theorem RM.setP {w : World} {B : Nat} {ov gv : Value} {s : Rs} (h : RM w B ov gv s) (x : Int) : RM (w.setCell ⟨B, 51, none⟩ (.int .i64 x)) B ov gv { s with pl := x } := by
  have oth : ∀ j v, j ≠ 51 → w.cell? ⟨B, j, none⟩ = some v → (w.setCell ⟨B, 51, none⟩ (.int .i64 x)).cell? ⟨B, j, none⟩ = some v := fun j v hj e => by
    rw [World.cell?_setCell_other _ _ _ _ (by intro e2; injection e2 with _ e3; omega)]; exact e
  exact ⟨oth 0 _ (by omega) h.o, oth 1 _ (by omega) h.g, fun k hk => oth (2 + k) _ (by omega) (h.r k hk), fun k hk => oth (18 + k * 2) _ (by omega) (h.t k hk), fun k hk => oth (18 + k * 2 + 1) _ (by omega) (h.n k hk), oth 50 _ (by omega) h.d, World.cell?_setCell_same _ _ _ h.p, oth 52 _ (by omega) h.c, oth 53 _ (by omega) h.u, fun j hj => by simp only [World.frozen?_setCell]; exact h.z j hj⟩
theorem RM.setC {w : World} {B : Nat} {ov gv : Value} {s : Rs} (h : RM w B ov gv s) (x : Int) : RM (w.setCell ⟨B, 52, none⟩ (.int .i64 x)) B ov gv { s with oc := x } := by
  have oth : ∀ j v, j ≠ 52 → w.cell? ⟨B, j, none⟩ = some v → (w.setCell ⟨B, 52, none⟩ (.int .i64 x)).cell? ⟨B, j, none⟩ = some v := fun j v hj e => by
    rw [World.cell?_setCell_other _ _ _ _ (by intro e2; injection e2 with _ e3; omega)]; exact e
  exact ⟨oth 0 _ (by omega) h.o, oth 1 _ (by omega) h.g, fun k hk => oth (2 + k) _ (by omega) (h.r k hk), fun k hk => oth (18 + k * 2) _ (by omega) (h.t k hk), fun k hk => oth (18 + k * 2 + 1) _ (by omega) (h.n k hk), oth 50 _ (by omega) h.d, oth 51 _ (by omega) h.p, World.cell?_setCell_same _ _ _ h.c, oth 53 _ (by omega) h.u, fun j hj => by simp only [World.frozen?_setCell]; exact h.z j hj⟩
theorem RM.setU {w : World} {B : Nat} {ov gv : Value} {s : Rs} (h : RM w B ov gv s) (x : Int) : RM (w.setCell ⟨B, 53, none⟩ (.int .i64 x)) B ov gv { s with rs := x } := by
  have oth : ∀ j v, j ≠ 53 → w.cell? ⟨B, j, none⟩ = some v → (w.setCell ⟨B, 53, none⟩ (.int .i64 x)).cell? ⟨B, j, none⟩ = some v := fun j v hj e => by
    rw [World.cell?_setCell_other _ _ _ _ (by intro e2; injection e2 with _ e3; omega)]; exact e
  exact ⟨oth 0 _ (by omega) h.o, oth 1 _ (by omega) h.g, fun k hk => oth (2 + k) _ (by omega) (h.r k hk), fun k hk => oth (18 + k * 2) _ (by omega) (h.t k hk), fun k hk => oth (18 + k * 2 + 1) _ (by omega) (h.n k hk), oth 50 _ (by omega) h.d, oth 51 _ (by omega) h.p, oth 52 _ (by omega) h.c, World.cell?_setCell_same _ _ _ h.u, fun j hj => by simp only [World.frozen?_setCell]; exact h.z j hj⟩
def OBJ (w : World) (B : Nat) (a : Option Addr) (os : List Int) : Prop := ∀ i x, os[i]? = some x → ∃ b off, a = some ⟨b, off, none⟩ ∧ b ≠ B ∧ w.cell? ⟨b, off + i, none⟩ = some (.int .i64 x)
def GIV (w : World) (B : Nat) (a : Option Addr) (gs : List (Bool × Int)) : Prop := ∀ i x, gs[i]? = some x → ∃ b off, a = some ⟨b, off, none⟩ ∧ b ≠ B ∧ w.cell? ⟨b, off + i * 2, none⟩ = some (.bool x.1) ∧ w.cell? ⟨b, off + i * 2 + 1, none⟩ = some (.int .i64 x.2)
theorem OBJ.keep {w w' : World} {B : Nat} {a : Option Addr} {os : List Int} (h : OBJ w B a os) (k : Keeps (fun k => k = B) w w') : OBJ w' B a os := fun i x hi => by
  obtain ⟨b, off, e, hb, hc⟩ := h i x hi
  exact ⟨b, off, e, hb, k.cell hc hb⟩
theorem GIV.keep {w w' : World} {B : Nat} {a : Option Addr} {gs : List (Bool × Int)} (h : GIV w B a gs) (k : Keeps (fun k => k = B) w w') : GIV w' B a gs := fun i x hi => by
  obtain ⟨b, off, e, hb, hc, hd⟩ := h i x hi
  exact ⟨b, off, e, hb, k.cell hc hb, k.cell hd hb⟩
def Rs.sv (s : Rs) (r : Bool) (n : Int) : Int := if r then s.regs n.toNat else n
set_option maxHeartbeats 500000 in
set_option maxRecDepth 100000 in
theorem msource {w : World} {B : Nat} {ov gv : Value} {s : Rs} (h : RM w B ov gv s) (r : Bool) (n : Int) (ho : opk r n = true) : Calls Tryz.prog 53 #[.pointer (some ⟨B, 0, none⟩), .agg #[.bool r, .int .i64 n]] w fun e w' => e = .returned (.int .i64 (s.sv r n)) ∧ Keeps (fun _ => False) w w' := by
  have k0 : Keeps (fun _ => False) w (w.alloc (.cells #[.bool r, .int .i64 n] 64)) := (Keeps.refl _ w).alloc _
  cases r with
  | false =>
    clear ho
    go_enter Tryz.func53, Tryz.ntmps53
    go_wp2
    go_ret
    exact ⟨rfl, k0⟩
  | true =>
    have hn : 0 ≤ n ∧ n < 16 := by
      unfold opk rg at ho
      simpa using ho
    obtain ⟨k, rfl⟩ : ∃ k : Nat, n = (k : Int) := ⟨n.toNat, by omega⟩
    have hc := k0.cell (h.r k (by omega)) (fun e => e)
    have h0 : (0 : Int) ≤ (k : Int) := by omega
    have h6 : (k : Int) < 16 := by omega
    have c0 : (w.alloc (.cells #[.bool true, .int .i64 (k : Int)] 64)).cell? ⟨w.heap.size, 1, none⟩ = some (.int .i64 (k : Int)) := (CL.made w [.bool true, .int .i64 (k : Int)] 64).c 1 _ rfl
    clear h ho
    go_enter Tryz.func53, Tryz.ntmps53
    go_wp2
    go_quiet (fail)
    go_wp2
    go_ret
    exact ⟨by unfold Rs.sv; rw [if_pos rfl, Int.toNat_natCast]; rfl, k0.drewN _⟩
end Go.Proofs.YthchbcfecconbaaGreatDoor

namespace Go.Proofs.YthchbcfecconbaaGreatDoor
open Go.RowKit
attribute [local go_sem] Oper.semAt_some run_store_nf run_store_f
set_option maxHeartbeats 500000 in
set_option maxRecDepth 100000 in
theorem mobj_ok {w : World} {B : Nat} {gv : Value} {a : Option Addr} {cap : Nat} {os : List Int} {s : Rs} (h : RM w B (.slice a os.length cap) gv s) (r : Bool) (n : Int) (ho : opk r n = true) (hx : 0 ≤ s.sv r n ∧ s.sv r n < os.length) : Calls Tryz.prog 50 #[.pointer (some ⟨B, 0, none⟩), .agg #[.bool r, .int .i64 n]] w fun e w' => e = .returned (.tuple #[.int .i64 (s.sv r n), .bool true]) ∧ Keeps (fun _ => False) w w' := by
  have k0 : Keeps (fun _ => False) w (w.alloc (.cells #[.bool r, .int .i64 n] 64)) := (Keeps.refl _ w).alloc _
  have hs := msource (h.keep k0 (fun e => e)) r n ho
  have hc := fun W (k : Keeps (fun _ => False) w W) => k.cell h.o (fun e => e)
  generalize s.sv r n = x at *
  have b1 : decide (x < 0) = false := by simp; omega
  have b2 : decide ((os.length : Int) ≤ x) = false := by simp; omega
  have b3 : ¬ x < 0 := by omega
  have b4 : ¬ (os.length : Int) ≤ x := by omega
  clear h ho
  go_enter Tryz.func50, Tryz.ntmps50
  go_wp2_with (go_at_call 53; refine hs.mono ?_; clear hs; rintro e w1 ⟨rfl, k1⟩; have K1 := k0.trans k1; have c1 := hc _ K1; clear hc)
  go_ret2
  exact ⟨rfl, K1⟩
set_option maxHeartbeats 500000 in
set_option maxRecDepth 100000 in
theorem mobj_no {w : World} {B : Nat} {gv : Value} {a : Option Addr} {cap : Nat} {os : List Int} {s : Rs} (h : RM w B (.slice a os.length cap) gv s) (r : Bool) (n : Int) (ho : opk r n = true) (hx : s.sv r n < 0 ∨ os.length ≤ s.sv r n) : Calls Tryz.prog 50 #[.pointer (some ⟨B, 0, none⟩), .agg #[.bool r, .int .i64 n]] w fun e w' => e = .returned (.tuple #[.int .i64 0, .bool false]) ∧ RM w' B (.slice a os.length cap) gv { s with oc := 3 } ∧ Keeps (fun k => k = B) w w' := by
  have k0 : Keeps (fun _ => False) w (w.alloc (.cells #[.bool r, .int .i64 n] 64)) := (Keeps.refl _ w).alloc _
  have hs := msource (h.keep k0 (fun e => e)) r n ho
  have hm := fun W (k : Keeps (fun _ => False) w W) => h.keep k (fun e => e)
  generalize s.sv r n = x at *
  clear h ho
  rcases hx with hx | hx
  · have b1 : decide (x < 0) = true := by simp; omega
    go_enter Tryz.func50, Tryz.ntmps50
    go_wp2_with (go_at_call 53; refine hs.mono ?_; clear hs; rintro e w1 ⟨rfl, k1⟩; have K1 := k0.trans k1; have H1 := hm _ K1; have c1 := H1.o; have c2 := H1.c; have z2 := H1.z 52 (by decide); clear hm)
    go_ret2
    exact ⟨rfl, H1.setC 3, (K1.mono (fun _ _ e => e.elim)).setA 52 _⟩
  · have b2 : decide ((os.length : Int) ≤ x) = true := by simp; omega
    by_cases hx0 : x < 0
    · exfalso; have : (0 : Int) ≤ os.length := by omega
      omega
    · have b1 : decide (x < 0) = false := by simp; omega
      go_enter Tryz.func50, Tryz.ntmps50
      go_wp2_with (go_at_call 53; refine hs.mono ?_; clear hs; rintro e w1 ⟨rfl, k1⟩; have K1 := k0.trans k1; have H1 := hm _ K1; have c1 := H1.o; have c2 := H1.c; have z2 := H1.z 52 (by decide); clear hm)
      go_ret2
      exact ⟨rfl, H1.setC 3, (K1.mono (fun _ _ e => e.elim)).setA 52 _⟩
def seenV (os : List Int) (gs : List (Bool × Int)) (rd x : Nat) : Int := if (gs.getD rd (false, 0)).1 = true then (gs.getD rd (false, 0)).2 else os.getD x 0
set_option maxHeartbeats 500000 in
set_option maxRecDepth 100000 in
theorem mseen {w : World} {B : Nat} {a ag : Option Addr} {cap cg : Nat} {os : List Int} {gs : List (Bool × Int)} {s : Rs} (h : RM w B (.slice a os.length cap) (.slice ag gs.length cg) s) (hO : OBJ w B a os) (hG : GIV w B ag gs) {x : Nat} (hx : x < os.length) : Calls Tryz.prog 78 #[.pointer (some ⟨B, 0, none⟩), .int .i64 (x : Int)] w fun e w' => e = .returned (.int .i64 (seenV os gs s.rd x)) ∧ ∃ n, w' = w.drewN n := by
  have c0 := h.o
  have c1 := h.g
  have c5 := h.d
  obtain ⟨b, off, rfl, hb, hoc⟩ := hO x _ (List.getElem?_eq_getElem hx)
  have hx0 : (0 : Int) ≤ (x : Int) := by omega
  have hx1 : (x : Int) < (os.length : Int) := by omega
  have hos : os.getD x 0 = os[x] := by rw [List.getD_eq_getElem?_getD, List.getElem?_eq_getElem hx]; rfl
  generalize s.rd = rd at *
  unfold seenV
  rw [hos]
  generalize os[x] = ox at *
  generalize os.length = N at *
  clear hos h hO
  by_cases hr : rd < gs.length
  · have hrI : decide ((rd : Int) < (gs.length : Int)) = true := by simp; omega
    have hrJ : (rd : Int) < (gs.length : Int) := by omega
    have hr0 : (0 : Int) ≤ (rd : Int) := by omega
    have hgd : gs.getD rd (false, 0) = gs[rd] := by rw [List.getD_eq_getElem?_getD, List.getElem?_eq_getElem hr]; rfl
    obtain ⟨bg, og, rfl, hbg, hg1, hg2⟩ := hG rd _ (List.getElem?_eq_getElem hr)
    rw [hgd]
    generalize gs[rd] = gq at *
    obtain ⟨gu, gx⟩ := gq
    simp only at hg1 hg2 ⊢
    generalize gs.length = M at *
    clear hgd hG
    cases gu with
    | true =>
      go_enter Tryz.func78, Tryz.ntmps78
      go_wp2
      go_quiet (fail)
      go_wp2
      go_quiet (fail)
      go_wp2
      go_ret
      exact ⟨rfl, _, rfl⟩
    | false =>
      go_enter Tryz.func78, Tryz.ntmps78
      go_wp2
      go_quiet (fail)
      go_wp2
      go_ret
      exact ⟨rfl, _, rfl⟩
  · have hrI : decide ((rd : Int) < (gs.length : Int)) = false := by simp; omega
    have hgd : gs.getD rd (false, 0) = (false, 0) := by rw [List.getD_eq_getElem?_getD, List.getElem?_eq_none (by omega)]; rfl
    rw [hgd]
    generalize gs.length = M at *
    clear hgd hG
    go_enter Tryz.func78, Tryz.ntmps78
    go_wp2
    go_quiet (fail)
    go_wp2
    go_ret
    exact ⟨rfl, _, rfl⟩
end Go.Proofs.YthchbcfecconbaaGreatDoor

namespace Go.Proofs.YthchbcfecconbaaGreatDoor
open Go.RowKit
attribute [local go_sem] Oper.semAt_some run_store_nf run_store_f
def Rs.rdo (s : Rs) (os : List Int) (gs : List (Bool × Int)) (x : Nat) : Rs := if s.st x = 0 then { s with st := fun k => if k = x then 1 else s.st k, nm := fun k => if k = x then seenV os gs s.rd x else s.nm k, rd := s.rd + 1 } else s
def Rs.wro (s : Rs) (os : List Int) (x : Nat) : Rs := if s.st x = 2 then s else { s with st := fun k => if k = x then 2 else s.st k, nm := fun k => if k = x then os.getD x 0 else s.nm k }
set_option maxHeartbeats 800000 in
set_option maxRecDepth 100000 in
theorem mread {w : World} {B : Nat} {a ag : Option Addr} {cap cg : Nat} {os : List Int} {gs : List (Bool × Int)} {s : Rs} (h : RM w B (.slice a os.length cap) (.slice ag gs.length cg) s) (hO : OBJ w B a os) (hG : GIV w B ag gs) {x : Nat} (hx : x < os.length) (h16 : os.length ≤ 16) (hrd : s.rd < 1000000) : Calls Tryz.prog 51 #[.pointer (some ⟨B, 0, none⟩), .int .i64 (x : Int)] w fun e w' => e = .returned (.int .i64 ((s.rdo os gs x).nm x)) ∧ RM w' B (.slice a os.length cap) (.slice ag gs.length cg) (s.rdo os gs x) ∧ Keeps (fun k => k = B) w w' := by
  have ct := h.t x (by omega)
  have cn := h.n x (by omega)
  have hx0 : (0 : Int) ≤ (x : Int) := by omega
  have hx6 : (x : Int) < 16 := by omega
  unfold Rs.rdo
  by_cases hs : s.st x = 0
  · rw [if_pos hs]
    rw [hs] at ct
    have hse := mseen (h.keep (S := fun _ => False) (Keeps.refl _ w).drew (fun e => e)) (hO.keep (Keeps.refl _ w).drew) (hG.keep (Keeps.refl _ w).drew) hx
    have hse' := hse
    have zt := h.z (18 + x * 2) (by omega)
    have zn := h.z (18 + x * 2 + 1) (by omega)
    generalize seenV os gs s.rd x = sv at *
    clear hse
    have e1 : ({ s with st := fun k => if k = x then 1 else s.st k, nm := fun k => if k = x then sv else s.nm k, rd := s.rd + 1 } : Rs).nm x = sv := if_pos rfl
    rw [e1]
    clear e1 hO hG
    go_enter Tryz.func51, Tryz.ntmps51
    go_wp2_with fail
    go_region_held3 (fun _ => True) (trivial) (first | (go_at_call 78; refine hse'.mono ?_; rintro e w1 ⟨rfl, n1, e1⟩; subst w1))
    have H1 := ((h.keep (S := fun _ => False) ((Keeps.refl _ w).drewN (1 + n1)) (fun e => e)).setT (i := x) (by omega) 1).setN (i := x) (by omega) sv
    have K1 : Keeps (fun k => k = B) w (((w.drewN (1 + n1)).setCell ⟨B, 18 + x * 2, none⟩ (.int .i64 1)).setCell ⟨B, 18 + x * 2 + 1, none⟩ (.int .i64 sv)) := (((Keeps.refl _ w).drewN (1 + n1)).setA _ _).setA _ _
    generalize ((w.drewN (1 + n1)).setCell ⟨B, 18 + x * 2, none⟩ (.int .i64 1)).setCell ⟨B, 18 + x * 2 + 1, none⟩ (.int .i64 sv) = W1 at *
    have c5 := H1.d
    have z5 := H1.z 50 (by decide)
    have cn1 := H1.n x (by omega)
    simp only at cn1
    have hw : IntKind.i64.wrap ((s.rd : Int) + 1) = (s.rd : Int) + 1 := by rw [IntKind.wrap_i64]; omega
    have hrd0 : (0 : Int) ≤ (s.rd : Int) := by omega
    have hrd1 : (s.rd : Int) < 1000000 := by omega
    have H2 := H1.setD (s.rd + 1)
    have e3 : ((s.rd + 1 : Nat) : Int) = (s.rd : Int) + 1 := by omega
    rw [e3] at H2
    clear H1 h ct cn zt zn e3 hs
    go_wp2_with fail
    go_ret
    exact ⟨rfl, H2, K1.setA 50 _⟩
  · rw [if_neg hs]
    have hb : (s.st x == 0) = false := by simpa using hs
    clear hO hG
    go_enter Tryz.func51, Tryz.ntmps51
    go_wp2
    go_ret
    exact ⟨rfl, h, Keeps.refl _ _⟩
set_option maxHeartbeats 800000 in
set_option maxRecDepth 100000 in
theorem mwrite {w : World} {B : Nat} {a : Option Addr} {cap : Nat} {gv : Value} {os : List Int} {s : Rs} (h : RM w B (.slice a os.length cap) gv s) (hO : OBJ w B a os) {x : Nat} (hx : x < os.length) (h16 : os.length ≤ 16) : Calls Tryz.prog 52 #[.pointer (some ⟨B, 0, none⟩), .int .i64 (x : Int)] w fun e w' => e = .returned (.int .i64 ((s.wro os x).nm x)) ∧ RM w' B (.slice a os.length cap) gv (s.wro os x) ∧ Keeps (fun k => k = B) w w' := by
  have ct := h.t x (by omega)
  have cn := h.n x (by omega)
  have co := h.o
  have hx0 : (0 : Int) ≤ (x : Int) := by omega
  have hx6 : (x : Int) < 16 := by omega
  have hxl : (x : Int) < (os.length : Int) := by omega
  unfold Rs.wro
  by_cases hs : s.st x = 2
  · rw [if_pos hs]
    rw [hs] at ct
    clear hO
    go_enter Tryz.func52, Tryz.ntmps52
    go_wp2
    go_ret
    exact ⟨rfl, h, Keeps.refl _ _⟩
  · rw [if_neg hs]
    have hb : (s.st x != 2) = true := by simpa using hs
    have hb2 : (s.st x == 2) = false := by simpa using hs
    obtain ⟨b, off, rfl, hbB, hoc⟩ := hO x _ (List.getElem?_eq_getElem hx)
    have hos : os.getD x 0 = os[x] := by rw [List.getD_eq_getElem?_getD, List.getElem?_eq_getElem hx]; rfl
    rw [hos]
    generalize os[x] = ov at *
    have e1 : ({ s with st := fun k => if k = x then 2 else s.st k, nm := fun k => if k = x then ov else s.nm k } : Rs).nm x = ov := if_pos rfl
    rw [e1]
    have zt := h.z (18 + x * 2) (by omega)
    have zn := h.z (18 + x * 2 + 1) (by omega)
    have nbB : ¬ b = B := hbB
    have nBb : ¬ B = b := fun e => hbB e.symm
    clear e1 hos hO
    generalize os.length = N at *
    go_enter Tryz.func52, Tryz.ntmps52
    go_wp2_with fail
    have H1 := ((h.keep (S := fun _ => False) (Keeps.refl _ w).drew (fun e => e)).setT (i := x) (by omega) 2).setN (i := x) (by omega) ov
    have KZ : ((w.setCell ⟨B, 18 + x * 2, none⟩ (.int .i64 2)).setCell ⟨B, 18 + x * 2 + 1, none⟩ (.int .i64 ov)).drew.cell? ⟨B, 0, none⟩ = some (.slice (some ⟨b, off, none⟩) N cap) ∧ ((w.setCell ⟨B, 18 + x * 2, none⟩ (.int .i64 2)).setCell ⟨B, 18 + x * 2 + 1, none⟩ (.int .i64 ov)).drew.cell? ⟨b, off + x, none⟩ = some (.int .i64 ov) := ⟨H1.o, ((((Keeps.refl (fun k => k = B) w).drew.setA (18 + x * 2) (.int .i64 2)).setA (18 + x * 2 + 1) (.int .i64 ov)).cell hoc hbB)⟩
    go_region_held3 (fun w' => w'.cell? ⟨B, 0, none⟩ = some (.slice (some ⟨b, off, none⟩) N cap) ∧ w'.cell? ⟨b, off + x, none⟩ = some (.int .i64 ov)) (first | (go_keep; done) | exact KZ) (fail)
    have cn1 := H1.n x (by omega)
    simp only at cn1
    have K1 : Keeps (fun k => k = B) w ((w.drew.setCell ⟨B, 18 + x * 2, none⟩ (.int .i64 2)).setCell ⟨B, 18 + x * 2 + 1, none⟩ (.int .i64 ov)) := ((Keeps.refl _ w).drew.setA _ _).setA _ _
    go_wp2_with fail
    go_ret
    exact ⟨rfl, H1, K1⟩
end Go.Proofs.YthchbcfecconbaaGreatDoor

namespace Go.Proofs.YthchbcfecconbaaGreatDoor
open Go.RowKit
abbrev Pr := Int × Int
def fix (l : List Pr) (x : Int) : Option Nat := l.findIdx? (fun p => p.1 == x)
theorem fix_some {l : List Pr} {x : Int} {i : Nat} (h : fix l x = some i) : ∃ n, l[i]? = some (x, n) := by
  unfold fix at h
  obtain ⟨h1, h2, -⟩ := List.findIdx?_eq_some_iff_getElem.1 h
  refine ⟨l[i].2, ?_⟩
  rw [List.getElem?_eq_getElem h1]
  have e : l[i].1 = x := by simpa using h2
  rw [← e]
theorem fix_none {l : List Pr} {x : Int} (h : fix l x = none) : ∀ p ∈ l, p.1 ≠ x := fun p hp e => by
  unfold fix at h
  have := List.findIdx?_eq_none_iff.1 h p hp
  simp [e] at this
structure Ds where
  regs : Nat → Int
  own : List Pr
  held : List Pr
  rd : Nat
  pl : Int
  cnt : Int
  oc : Int
  rs : Int
def wout (l : List Pr) (x : Int) : List Pr := l.filter (fun p => p.1 != x)
def Ds.rdo (d : Ds) (os : List Int) (gs : List (Bool × Int)) (x : Nat) : Ds := if (fix d.own x).isSome || (fix d.held x).isSome then d else { d with held := d.held ++ [((x : Int), seenV os gs d.rd x)], rd := d.rd + 1 }
def Ds.wro (d : Ds) (os : List Int) (x : Nat) : Ds := if (fix d.own x).isSome then d else { d with own := d.own ++ [((x : Int), os.getD x 0)], held := wout d.held x }
structure PL2 (s : Rs) (k : Int) (l : List Pr) : Prop where
  rg : ∀ p ∈ l, 0 ≤ p.1 ∧ p.1 < 16
  nd : (l.map (·.1)).Nodup
  eq : ∀ x : Nat, x < 16 → ∀ n, ((x : Int), n) ∈ l ↔ s.st x = k ∧ s.nm x = n
theorem PL2.has {s : Rs} {k : Int} {l : List Pr} (h : PL2 s k l) {x : Nat} (hx : x < 16) {i : Nat} (hi : fix l x = some i) : s.st x = k ∧ l[i]? = some ((x : Int), s.nm x) := by
  obtain ⟨n, hn⟩ := fix_some hi
  obtain ⟨h1, h2⟩ := (h.eq x hx n).1 (List.mem_of_getElem? hn)
  rw [h2]
  exact ⟨h1, hn⟩
theorem PL2.not {s : Rs} {k : Int} {l : List Pr} (h : PL2 s k l) {x : Nat} (hx : x < 16) (hi : fix l x = none) : s.st x ≠ k := fun e =>
  fix_none hi _ ((h.eq x hx (s.nm x)).2 ⟨e, rfl⟩) rfl
structure DR (s : Rs) (d : Ds) : Prop where
  rg : ∀ i, i < 16 → d.regs i = s.regs i
  ow : PL2 s 2 d.own
  hd : PL2 s 1 d.held
  rd : d.rd = s.rd
  st : ∀ x, x < 16 → s.st x = 0 ∨ s.st x = 1 ∨ s.st x = 2
theorem DR.rdo {s : Rs} {d : Ds} (h : DR s d) (os : List Int) (gs : List (Bool × Int)) {x : Nat} (hx : x < 16) : DR (s.rdo os gs x) (d.rdo os gs x) := by
  unfold Rs.rdo Ds.rdo
  cases ho : fix d.own x with
  | some i =>
    have := (h.ow.has hx ho).1
    rw [if_neg (by omega), if_pos (by simp)]
    exact h
  | none =>
    have n2 := h.ow.not hx ho
    cases hh : fix d.held x with
    | some i =>
      have := (h.hd.has hx hh).1
      rw [if_neg (by omega), if_pos (by simp)]
      exact h
    | none =>
      have n1 := h.hd.not hx hh
      have n0 : s.st x = 0 := by have := h.st x hx; omega
      rw [if_pos n0, if_neg (by simp), h.rd]
      refine ⟨h.rg, ⟨h.ow.rg, h.ow.nd, fun y hy n => ?_⟩, ⟨fun p hp => ?_, ?_, fun y hy n => ?_⟩, rfl, fun y hy => ?_⟩
      · simp only
        by_cases e : y = x
        · subst e
          rw [if_pos rfl, if_pos rfl]
          constructor
          · intro hm; exact absurd ((h.ow.eq y hy n).1 hm).1 n2
          · rintro ⟨e, _⟩; omega
        · rw [if_neg e, if_neg e]; exact h.ow.eq y hy n
      · rcases List.mem_append.1 hp with hp | hp
        · exact h.hd.rg p hp
        · simp at hp; subst hp; simp only; omega
      · rw [List.map_append, List.nodup_append]
        refine ⟨h.hd.nd, by simp, fun a ha b hb => ?_⟩
        simp at hb
        subst hb
        obtain ⟨p, hp, rfl⟩ := List.mem_map.1 ha
        exact fix_none hh p hp
      · simp only [List.mem_append, List.mem_singleton]
        by_cases e : y = x
        · subst e
          rw [if_pos rfl, if_pos rfl]
          constructor
          · rintro (hm | hm)
            · exact absurd ((h.hd.eq y hy n).1 hm).1 n1
            · injection hm with _ e2; exact ⟨rfl, e2.symm⟩
          · rintro ⟨_, e2⟩; right; rw [e2]
        · rw [if_neg e, if_neg e]
          constructor
          · rintro (hm | hm)
            · exact (h.hd.eq y hy n).1 hm
            · injection hm with e1 _; exact absurd (Int.ofNat.inj e1) e
          · intro hm; exact .inl ((h.hd.eq y hy n).2 hm)
      · simp only
        by_cases e : y = x
        · rw [if_pos e]; omega
        · rw [if_neg e]; exact h.st y hy
theorem mem_wout {l : List Pr} {x : Int} {p : Pr} : p ∈ wout l x ↔ p ∈ l ∧ p.1 ≠ x := by
  unfold wout
  rw [List.mem_filter]
  simp
theorem nd_wout {l : List Pr} (x : Int) (h : (l.map (·.1)).Nodup) : ((wout l x).map (·.1)).Nodup := by
  unfold wout
  exact h.sublist (List.filter_sublist.map _)
theorem DR.wro {s : Rs} {d : Ds} (h : DR s d) (os : List Int) {x : Nat} (hx : x < 16) : DR (s.wro os x) (d.wro os x) := by
  unfold Rs.wro Ds.wro
  cases ho : fix d.own x with
  | some i =>
    have := (h.ow.has hx ho).1
    rw [if_pos this, if_pos (by simp)]
    exact h
  | none =>
    have n2 := h.ow.not hx ho
    rw [if_neg n2, if_neg (by simp)]
    refine ⟨h.rg, ⟨fun p hp => ?_, ?_, fun y hy n => ?_⟩, ⟨fun p hp => h.hd.rg p (mem_wout.1 hp).1, nd_wout _ h.hd.nd, fun y hy n => ?_⟩, h.rd, fun y hy => ?_⟩
    · rcases List.mem_append.1 hp with hp | hp
      · exact h.ow.rg p hp
      · simp at hp; subst hp; simp only; omega
    · rw [List.map_append, List.nodup_append]
      refine ⟨h.ow.nd, by simp, fun a ha b hb => ?_⟩
      simp at hb
      subst hb
      obtain ⟨p, hp, rfl⟩ := List.mem_map.1 ha
      exact fix_none ho p hp
    · simp only [List.mem_append, List.mem_singleton]
      by_cases e : y = x
      · subst e
        rw [if_pos rfl, if_pos rfl]
        constructor
        · rintro (hm | hm)
          · exact absurd ((h.ow.eq y hy n).1 hm).1 n2
          · injection hm with _ e2; exact ⟨rfl, e2.symm⟩
        · rintro ⟨_, e2⟩; right; rw [e2]
      · rw [if_neg e, if_neg e]
        constructor
        · rintro (hm | hm)
          · exact (h.ow.eq y hy n).1 hm
          · injection hm with e1 _; exact absurd (Int.ofNat.inj e1) e
        · intro hm; exact .inl ((h.ow.eq y hy n).2 hm)
    · rw [mem_wout]
      simp only
      by_cases e : y = x
      · subst e
        rw [if_pos rfl, if_pos rfl]
        constructor
        · rintro ⟨_, e⟩; exact absurd rfl e
        · rintro ⟨e, _⟩; omega
      · rw [if_neg e, if_neg e]
        constructor
        · rintro ⟨hm, _⟩; exact (h.hd.eq y hy n).1 hm
        · intro hm; exact ⟨(h.hd.eq y hy n).2 hm, fun e1 => e (Int.ofNat.inj e1)⟩
    · simp only
      by_cases e : y = x
      · rw [if_pos e]; omega
      · rw [if_neg e]; exact h.st y hy
def setP (l : List Pr) (i : Nat) (n : Int) : List Pr := l.set i ((l.getD i (0, 0)).1, n)
theorem DR.put {s : Rs} {d : Ds} (h : DR s d) {x i : Nat} (hx : x < 16) (hi : fix d.own x = some i) (v : Int) : DR { s with nm := fun k => if k = x then v else s.nm k } { d with own := setP d.own i v } := by
  obtain ⟨h2, hg⟩ := h.ow.has hx hi
  have hl : i < d.own.length := (List.getElem?_eq_some_iff.1 hg).1
  have eg : d.own.getD i (0, 0) = ((x : Int), s.nm x) := by rw [List.getD_eq_getElem?_getD, hg]; rfl
  have em : (setP d.own i v).map (·.1) = d.own.map (·.1) := by
    unfold setP
    rw [List.map_set, eg]
    simp only
    apply List.ext_getElem?
    intro k
    by_cases e : i = k
    · subst e
      rw [List.getElem?_set_self (by simpa using hl), List.getElem?_map, hg]; rfl
    · rw [List.getElem?_set_ne e]
  have key : ∀ p, p ∈ setP d.own i v ↔ (p = ((x : Int), v) ∨ (p ∈ d.own ∧ p.1 ≠ x)) := fun p => by
    unfold setP
    rw [eg]
    simp only
    rw [List.mem_iff_getElem?]
    constructor
    · rintro ⟨k, hk⟩
      by_cases e : i = k
      · subst e
        rw [List.getElem?_set_self hl] at hk
        exact .inl (Option.some.inj hk).symm
      · rw [List.getElem?_set_ne e] at hk
        refine .inr ⟨List.mem_of_getElem? hk, fun e2 => e ?_⟩
        have h1 : (d.own.map (·.1))[i]? = some (x : Int) := by rw [List.getElem?_map, hg]; rfl
        have h3 : (d.own.map (·.1))[k]? = some (x : Int) := by rw [List.getElem?_map, hk, ← e2]; rfl
        exact (List.getElem?_inj (by simpa using hl) h.ow.nd).1 (h1.trans h3.symm)
    · rintro (rfl | ⟨hm, hne⟩)
      · exact ⟨i, List.getElem?_set_self hl⟩
      · obtain ⟨k, hk⟩ := List.mem_iff_getElem?.1 hm
        refine ⟨k, ?_⟩
        rw [List.getElem?_set_ne (fun e => ?_)]
        · exact hk
        · subst e
          rw [hg] at hk
          exact hne (by rw [← Option.some.inj hk])
  refine ⟨h.rg, ⟨fun p hp => ?_, by rw [em]; exact h.ow.nd, fun y hy n => ?_⟩, ⟨h.hd.rg, h.hd.nd, fun y hy n => ?_⟩, h.rd, h.st⟩
  · rcases (key p).1 hp with rfl | ⟨hm, _⟩
    · simp only; omega
    · exact h.ow.rg p hm
  · rw [key]
    simp only
    by_cases e : y = x
    · subst e
      rw [if_pos rfl]
      constructor
      · rintro (e | ⟨_, e⟩)
        · injection e with _ e2; exact ⟨h2, e2.symm⟩
        · exact absurd rfl e
      · rintro ⟨_, e⟩; left; rw [e]
    · rw [if_neg e]
      constructor
      · rintro (e1 | ⟨hm, _⟩)
        · injection e1 with e1 _; exact absurd (Int.ofNat.inj e1) e
        · exact (h.ow.eq y hy n).1 hm
      · intro hm; exact .inr ⟨(h.ow.eq y hy n).2 hm, fun e1 => e (Int.ofNat.inj e1)⟩
  · simp only
    by_cases e : y = x
    · subst e
      rw [if_pos rfl]
      constructor
      · intro hm; have := ((h.hd.eq y hy n).1 hm).1; omega
      · rintro ⟨e, _⟩; omega
    · rw [if_neg e]; exact h.hd.eq y hy n
theorem DR.drop {s : Rs} {d : Ds} (h : DR s d) {x : Nat} (hx : x < 16) : DR (if s.st x = 1 then { s with st := fun k => if k = x then 0 else s.st k, nm := fun k => if k = x then 0 else s.nm k } else s) { d with held := wout d.held x } := by
  have hw : ∀ (y : Nat), y < 16 → y ≠ x → ∀ n, ((y : Int), n) ∈ wout d.held x ↔ s.st y = 1 ∧ s.nm y = n := fun y hy e n => by
    rw [mem_wout]
    constructor
    · rintro ⟨hm, _⟩; exact (h.hd.eq y hy n).1 hm
    · intro hm; exact ⟨(h.hd.eq y hy n).2 hm, fun e1 => e (Int.ofNat.inj e1)⟩
  split
  · rename_i h1
    refine ⟨h.rg, ⟨h.ow.rg, h.ow.nd, fun y hy n => ?_⟩, ⟨fun p hp => h.hd.rg p (mem_wout.1 hp).1, nd_wout _ h.hd.nd, fun y hy n => ?_⟩, h.rd, fun y hy => ?_⟩
    · simp only
      by_cases e : y = x
      · subst e
        rw [if_pos rfl, if_pos rfl]
        constructor
        · intro hm; have := ((h.ow.eq y hy n).1 hm).1; omega
        · rintro ⟨e, _⟩; omega
      · rw [if_neg e, if_neg e]; exact h.ow.eq y hy n
    · simp only
      by_cases e : y = x
      · subst e
        rw [if_pos rfl, if_pos rfl, mem_wout]
        constructor
        · rintro ⟨_, e⟩; exact absurd rfl e
        · rintro ⟨e, _⟩; omega
      · rw [if_neg e, if_neg e]; exact hw y hy e n
    · simp only
      by_cases e : y = x
      · rw [if_pos e]; omega
      · rw [if_neg e]; exact h.st y hy
  · rename_i h1
    refine ⟨h.rg, h.ow, ⟨fun p hp => h.hd.rg p (mem_wout.1 hp).1, nd_wout _ h.hd.nd, fun y hy n => ?_⟩, h.rd, h.st⟩
    by_cases e : y = x
    · subst e
      rw [mem_wout]
      constructor
      · rintro ⟨_, e⟩; exact absurd rfl e
      · rintro ⟨e, _⟩; exact absurd e h1
    · exact hw y hy e n
end Go.Proofs.YthchbcfecconbaaGreatDoor

namespace Go.Proofs.YthchbcfecconbaaGreatDoor
open Go.RowKit
attribute [local go_sem] Oper.semAt_some run_store_nf run_store_f
theorem iRn : (Tryz.prog.info? 62).map (·.size) = some 11 := by kernel_rfl
set_option maxHeartbeats 500000 in
set_option maxRecDepth 100000 in
theorem rcheck_any {w : World} {a : Option Addr} {cap : Nat} {l : List Ins} (hl : ISL w a l) (hlen : l.length ≤ 9223372036854775807) : Calls Tryz.prog 24 #[.slice a l.length cap] w fun e w' => e = .returned (.tuple #[.int .i64 (chk l).1, .int .i64 (chk l).2]) ∧ Keeps (fun _ => False) w w' := by
  unfold chk
  by_cases h64 : 64 < l.length
  · rw [if_pos h64]
    have b1 : decide ((64 : Int) < (l.length : Int)) = true := by simp; omega
    have b2 : decide (64 < l.length) = true := by simp; omega
    go_enter Tryz.func24, Tryz.ntmps24
    go_wp2
    go_ret2
    exact ⟨rfl, Keeps.refl _ w⟩
  · rw [if_neg h64]
    have b1 : decide ((64 : Int) < (l.length : Int)) = false := by simp; omega
    have b2 : decide (64 < l.length) = false := by simp; omega
    have hN64 : l.length ≤ 64 := by omega
    clear h64
    generalize hF : firstBad l l.length l.length = F at *
    generalize hN : l.length = N at *
    go_enter Tryz.func24, Tryz.ntmps24
    go_wp2_with fail
    go_loopw [4] (fun iv Wr => ∃ k : Nat, iv = .int .i64 (k : Int) ∧ k ≤ N ∧ firstBad l N (N - k) = F ∧ Keeps (fun _ => False) w Wr) (fun iv _ => N - (intOf iv).toNat)
    case atStart => exact ⟨0, rfl, Nat.zero_le _, hF, Keeps.refl _ w⟩
    case round =>
      obtain ⟨k, rfl, hk, hf, kr⟩ := hrel
      by_cases hlt : k < N
      · have hltI : decide ((k : Int) < (N : Int)) = true := by simp; omega
        have hltJ : (k : Int) < (N : Int) := by omega
        obtain ⟨b, off, rfl, hc⟩ := hl k (by omega)
        have hc' : ∀ j v, (l.getD k ins0).cells[j]? = some v → wr.cell? ⟨b, off + k * 11 + j, none⟩ = some v := fun j v e => kr.cell (hc j v e) (fun e => e)
        have hR1 := run_insAt (t := 62) hc' ⟨_, Tryz.underlying62⟩ iRn
        have hfb : Hid (_ = _) := fb_lt (l := l) (n := (N : Int)) (k := k) (by omega)
        rw [hN] at hfb
        have hff : Hid (_ = _) := hf
        generalize l.getD k ins0 = q at *
        have hcan := rcan_any wr q (N : Int)
        have hnx : Hid (_ = _) := hfb.out.symm.trans hff.out
        clear hfb hff hf hc hc' hF
        cases hb : q.can N with
        | true =>
          have HN : Hid (firstBad l N (N - (k + 1)) = F) := by
            show _ = _
            rw [← hnx.out, hb]; rfl
          rw [hb] at hcan
          go_wp2_with (first | (refine wpList_load_run rfl 62 _ rfl ⟨b, off + k * 11, none⟩ rfl _ hR1 ?_; clear hR1) | (go_at_call 36; refine hcan.mono ?_; rintro e w6 ⟨rfl, k6⟩))
          go_roundw
          case rel => exact ⟨k + 1, by go_num, by omega, HN.out, kr.trans k6⟩
          case measure => simp [intOf]; omega
        | false =>
          have HN : Hid (F = some k) := by
            show _ = _
            rw [← hnx.out, hb]; rfl
          rw [hb] at hcan
          go_wp2_with (first | (refine wpList_load_run rfl 62 _ rfl ⟨b, off + k * 11, none⟩ rfl _ hR1 ?_; clear hR1) | (go_at_call 36; refine hcan.mono ?_; rintro e w6 ⟨rfl, k6⟩))
          go_ret2
          exact ⟨by rw [HN.out]; rfl, kr.trans k6⟩
      · obtain rfl : k = N := by omega
        have hltI : decide ((k : Int) < (k : Int)) = false := by simp
        rw [Nat.sub_self] at hf
        subst hf
        go_wp2_with fail
        go_ret2
        exact ⟨rfl, kr⟩
end Go.Proofs.YthchbcfecconbaaGreatDoor

namespace Go.Proofs.YthchbcfecconbaaGreatDoor
open Go.RowKit
theorem next_one {k : Nat} (h : 256 ≤ k) : Builtin.nextslicecap (k + 1) k ≤ k + (k + 768) / 4 := by
  unfold Builtin.nextslicecap
  rw [if_neg (by omega), if_neg (by omega)]
  unfold Builtin.growBy
  rw [if_neg (by omega)]
  unfold Builtin.growBy
  rw [if_pos (by omega)]
  exact Nat.le_refl _
theorem run_append_more {P : Program} {w : World} (base : Nat) (t ty e : TypeId) (i : TypeInfo) (z : Value) (size bytes : Nat) (ht : P.underlying t = some (.slice e)) (hi : P.info? e = some i) (hz : i.zero = some z)
    (hsize : i.size = size) (hby : i.bytes = bytes) (hzs : z.cells.size = size) (hsz : 0 < size) (hb0 : 0 < bytes) (hb1 : bytes ≤ 4096)
    (v : Value) (n : Nat) (xs : List Value) (hown : w.ownsRow base e size v n xs)
    (a : Addr) (c : Nat) (news : List Value) (hl : news.length = size) (hnews : ∀ j u, news[j]? = some u → w.cell? (a.add j) = some u) (h1 : ∀ u ∈ news, u.oneCell' = true)
    (hbytes : (n + 1) * bytes ≤ 140737488363520) (hbase : base ≤ w.heap.size) :
    ∃ v' w', (Builtin.append_ #[t, t] ty #[v, .slice (some a) 1 c]).run P w = .ok v' w' ∧ w'.ownsRow base e size v' (n + 1) (xs ++ news) ∧ w.grownBy w' v.ownBlock := by
  have hn1 : n + 1 ≤ 140737488363520 := Nat.le_trans (Nat.le_mul_of_pos_right _ hb0) hbytes
  have h63 : n + 1 ≤ maxLen := by unfold maxLen; omega
  by_cases hs : (n + 1) * bytes ≤ 140737488355328
  · obtain ⟨v', w', hr, ho, hg, _, _⟩ := run_append_own_at (P := P) (w := w) base t ty e i z size bytes ht hi hz hsize hby hzs hsz v n xs hown a 1 c news (by omega) hnews h1 h63 hs hbase
    exact ⟨v', w', hr, ho, hg⟩
  have hnb : (n + 1) * bytes ≤ (n + 1) * 4096 := Nat.mul_le_mul_left _ hb1
  have hn : 256 ≤ n := by omega
  have hlen : (xs ++ news).length = (n + 1) * size := by rw [List.length_append, hown.1, hl, Nat.add_mul, Nat.one_mul]
  rcases hown.2 with ⟨rfl, h0⟩ | ⟨g, cap, cur, rfl, hbg, hg, hnc, hcm, hcs, htake⟩
  · omega
  subst hsize
  by_cases hroom : n + 1 ≤ cap
  · have hcur : (n + 1) * i.size ≤ cur.size := by rw [hcs]; exact Nat.mul_le_mul_right _ hroom
    have hfit : n * i.size + news.length ≤ cur.size := by rw [hl]; rw [Nat.add_mul, Nat.one_mul] at hcur; exact hcur
    have hr := run_append_room (P := P) w t ty e i ht hi g n cap cur hg a 1 c news (by omega) hnews h1 hroom hfit
    refine ⟨_, _, hr, ⟨hlen, .inr ⟨g, cap, _, rfl, hbg, setRow_heap w g cur _ e _ hg, hroom, hcm, ?_, ?_⟩⟩, ⟨rfl, rfl, rfl, by simp, fun k _ hk => setRow_other w g k _ (fun e => hk (by simp [Value.ownBlock, e]))⟩⟩
    · have e1 : cur.toList.length = cap * i.size := by rw [Array.length_toList]; exact hcs
      simp only [List.size_toArray, List.length_append, List.length_take, List.length_drop]
      omega
    · rw [htake, ← hlen]
      exact List.take_left
  · have hc : cap = n := by omega
    subst hc
    have holds : ∀ j u, xs[j]? = some u → w.cell? ((⟨g, 0, none⟩ : Addr).add j) = some u := hown.cells (g := g) rfl
    have hfit : Builtin.nextslicecap (cap + 1) cap * i.bytes ≤ 281474976710656 := by
      have e1 : Builtin.nextslicecap (cap + 1) cap * i.bytes ≤ (cap + (cap + 768) / 4) * i.bytes := Nat.mul_le_mul_right _ (next_one hn)
      have e2 : (cap + (cap + 768) / 4) * 4 ≤ (cap + 1) * 5 + 768 := by omega
      have e3 : (cap + (cap + 768) / 4) * 4 * i.bytes ≤ ((cap + 1) * 5 + 768) * i.bytes := Nat.mul_le_mul_right _ e2
      have e4 : ((cap + 1) * 5 + 768) * i.bytes = 5 * ((cap + 1) * i.bytes) + 768 * i.bytes := by rw [Nat.add_mul, Nat.mul_comm (cap + 1) 5, Nat.mul_assoc]
      have e5 : (cap + (cap + 768) / 4) * 4 * i.bytes = 4 * ((cap + (cap + 768) / 4) * i.bytes) := by rw [Nat.mul_right_comm, Nat.mul_comm]
      rw [← hby] at hbytes hb1
      omega
    have hr := run_append_grow (P := P) w t ty e i z ht hi hz ⟨g, 0, none⟩ cap cap xs hown.1 holds a 1 c news (by omega) hnews (by omega) (by omega) hfit
    have hge := grownCap_ge w (cap + 1) cap e
    refine ⟨_, _, hr, ⟨hlen, .inr ⟨w.heap.size, _, _, rfl, hbase, heap_alloc_new w.drew _, hge, grownCap_le_maxLen w (cap + 1) cap e h63, ?_, ?_⟩⟩, ⟨rfl, rfl, rfl, by simp, fun k hk _ => heap_alloc_old w.drew _ hk⟩⟩
    · have e2 : (xs.length + news.length) = (cap + 1) * i.size := by rw [← List.length_append]; exact hlen
      simp only [Array.size_append, List.size_toArray, size_zeroCells, hzs]
      rw [e2, ← Nat.add_mul]
      congr 1
      omega
    · simp only [Array.toList_append]
      rw [← hlen]
      exact List.take_left
end Go.Proofs.YthchbcfecconbaaGreatDoor

