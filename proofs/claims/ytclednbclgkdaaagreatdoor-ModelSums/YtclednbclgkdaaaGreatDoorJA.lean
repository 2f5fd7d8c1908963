import Derived.Test.YtclednbclgkdaaaGreatDoorLgF
import Derived.Deep.QuietTactic
import Derived.Test.YtclednbclgkdaaaGreatDoorLgS
import Derived.Test.YtclednbclgkdaaaGreatDoorApplied
import Derived.Test.YtclednbclgkdaaaGreatDoorHolds
namespace Go.Proofs.YtclednbclgkdaaaGreatDoor
open Go.RowKit
attribute [local go_sem] Oper.semAt_some run_store_nf run_store_f
/-- A run alone, as far as it has come. -/
structure Rs where
  regs : Nat → Int
  st : Nat → Int
  nm : Nat → Int
  rd : Nat
  pl : Int
  oc : Int
  rs : Int
/-- A run in memory. -/
structure RM (w : World) (B : Nat) (ov gv : Value) (s : Rs) : Prop where
  o : w.cell? ⟨B, 0, none⟩ = some ov
  g : w.cell? ⟨B, 1, none⟩ = some gv
  r : ∀ i, i < 16 → w.cell? ⟨B, 2 + i, none⟩ = some (.int .i64 (s.regs i))
  t : ∀ i, i < 16 → w.cell? ⟨B, 18 + i * 2, none⟩ = some (.int .i64 (s.st i))
  n : ∀ i, i < 16 → w.cell? ⟨B, 18 + i * 2 + 1, none⟩ = some (.int .i64 (s.nm i))
  d : w.cell? ⟨B, 50, none⟩ = some (.int .i64 (s.rd : Int))
  p : w.cell? ⟨B, 51, none⟩ = some (.int .i64 s.pl)
  c : w.cell? ⟨B, 52, none⟩ = some (.int .i64 s.oc)
  u : w.cell? ⟨B, 53, none⟩ = some (.int .i64 s.rs)
  z : ∀ j, j < 54 → w.frozen? ⟨B, j, none⟩ = false
theorem RM.lt {w : World} {B : Nat} {ov gv : Value} {s : Rs} (h : RM w B ov gv s) : B < w.heap.size := World.block_lt_of_cell? w ⟨B, 0, none⟩ h.o
theorem RM.keep {w w' : World} {B : Nat} {ov gv : Value} {s : Rs} {S : Nat → Prop} (h : RM w B ov gv s) (k : Keeps S w w') (hS : ¬ S B) : RM w' B ov gv s :=
  ⟨k.cell h.o hS, k.cell h.g hS, fun i hi => k.cell (h.r i hi) hS, fun i hi => k.cell (h.t i hi) hS, fun i hi => k.cell (h.n i hi) hS, k.cell h.d hS, k.cell h.p hS, k.cell h.c hS, k.cell h.u hS, fun j hj => (k.frozen (p := ⟨B, j, none⟩) h.lt hS).trans (h.z j hj)⟩
theorem RM.setR {w : World} {B : Nat} {ov gv : Value} {s : Rs} (h : RM w B ov gv s) {i : Nat} (hi : i < 16) (x : Int) : RM (w.setCell ⟨B, 2 + i, none⟩ (.int .i64 x)) B ov gv { s with regs := fun k => if k = i then x else s.regs k } := by
  have oth : ∀ j v, j ≠ 2 + i → w.cell? ⟨B, j, none⟩ = some v → (w.setCell ⟨B, 2 + i, none⟩ (.int .i64 x)).cell? ⟨B, j, none⟩ = some v := fun j v hj e => by
    rw [World.cell?_setCell_other _ _ _ _ (by intro e2; injection e2 with _ e3; omega)]; exact e
  exact ⟨oth 0 _ (by omega) h.o, oth 1 _ (by omega) h.g, fun k hk => by
    by_cases e : k = i
    · subst e
      simp only [if_true]
      exact World.cell?_setCell_same _ _ _ (h.r k hk)
    · simp only [if_neg e]
      exact oth (2 + k) _ (by omega) (h.r k hk), fun k hk => oth (18 + k * 2) _ (by omega) (h.t k hk), fun k hk => oth (18 + k * 2 + 1) _ (by omega) (h.n k hk), oth 50 _ (by omega) h.d, oth 51 _ (by omega) h.p, oth 52 _ (by omega) h.c, oth 53 _ (by omega) h.u, fun j hj => by simp only [World.frozen?_setCell]; exact h.z j hj⟩
theorem RM.setT {w : World} {B : Nat} {ov gv : Value} {s : Rs} (h : RM w B ov gv s) {i : Nat} (hi : i < 16) (x : Int) : RM (w.setCell ⟨B, 18 + i * 2, none⟩ (.int .i64 x)) B ov gv { s with st := fun k => if k = i then x else s.st k } := by
  have oth : ∀ j v, j ≠ 18 + i * 2 → w.cell? ⟨B, j, none⟩ = some v → (w.setCell ⟨B, 18 + i * 2, none⟩ (.int .i64 x)).cell? ⟨B, j, none⟩ = some v := fun j v hj e => by
    rw [World.cell?_setCell_other _ _ _ _ (by intro e2; injection e2 with _ e3; omega)]; exact e
  exact ⟨oth 0 _ (by omega) h.o, oth 1 _ (by omega) h.g, fun k hk => oth (2 + k) _ (by omega) (h.r k hk), fun k hk => by
    by_cases e : k = i
    · subst e
      simp only [if_true]
      exact World.cell?_setCell_same _ _ _ (h.t k hk)
    · simp only [if_neg e]
      exact oth (18 + k * 2) _ (by omega) (h.t k hk), fun k hk => oth (18 + k * 2 + 1) _ (by omega) (h.n k hk), oth 50 _ (by omega) h.d, oth 51 _ (by omega) h.p, oth 52 _ (by omega) h.c, oth 53 _ (by omega) h.u, fun j hj => by simp only [World.frozen?_setCell]; exact h.z j hj⟩
theorem RM.setN {w : World} {B : Nat} {ov gv : Value} {s : Rs} (h : RM w B ov gv s) {i : Nat} (hi : i < 16) (x : Int) : RM (w.setCell ⟨B, 18 + i * 2 + 1, none⟩ (.int .i64 x)) B ov gv { s with nm := fun k => if k = i then x else s.nm k } := by
  have oth : ∀ j v, j ≠ 18 + i * 2 + 1 → w.cell? ⟨B, j, none⟩ = some v → (w.setCell ⟨B, 18 + i * 2 + 1, none⟩ (.int .i64 x)).cell? ⟨B, j, none⟩ = some v := fun j v hj e => by
    rw [World.cell?_setCell_other _ _ _ _ (by intro e2; injection e2 with _ e3; omega)]; exact e
  exact ⟨oth 0 _ (by omega) h.o, oth 1 _ (by omega) h.g, fun k hk => oth (2 + k) _ (by omega) (h.r k hk), fun k hk => oth (18 + k * 2) _ (by omega) (h.t k hk), fun k hk => by
    by_cases e : k = i
    · subst e
      simp only [if_true]
      exact World.cell?_setCell_same _ _ _ (h.n k hk)
    · simp only [if_neg e]
      exact oth (18 + k * 2 + 1) _ (by omega) (h.n k hk), oth 50 _ (by omega) h.d, oth 51 _ (by omega) h.p, oth 52 _ (by omega) h.c, oth 53 _ (by omega) h.u, fun j hj => by simp only [World.frozen?_setCell]; exact h.z j hj⟩
theorem RM.setD {w : World} {B : Nat} {ov gv : Value} {s : Rs} (h : RM w B ov gv s) (x : Nat) : RM (w.setCell ⟨B, 50, none⟩ (.int .i64 (x : Int))) B ov gv { s with rd := x } := by
  have oth : ∀ j v, j ≠ 50 → w.cell? ⟨B, j, none⟩ = some v → (w.setCell ⟨B, 50, none⟩ (.int .i64 (x : Int))).cell? ⟨B, j, none⟩ = some v := fun j v hj e => by
    rw [World.cell?_setCell_other _ _ _ _ (by intro e2; injection e2 with _ e3; omega)]; exact e
  exact ⟨oth 0 _ (by omega) h.o, oth 1 _ (by omega) h.g, fun k hk => oth (2 + k) _ (by omega) (h.r k hk), fun k hk => oth (18 + k * 2) _ (by omega) (h.t k hk), fun k hk => oth (18 + k * 2 + 1) _ (by omega) (h.n k hk), World.cell?_setCell_same _ _ _ h.d, oth 51 _ (by omega) h.p, oth 52 _ (by omega) h.c, oth 53 _ (by omega) h.u, fun j hj => by simp only [World.frozen?_setCell]; exact h.z j hj⟩
theorem RM.setP {w : World} {B : Nat} {ov gv : Value} {s : Rs} (h : RM w B ov gv s) (x : Int) : RM (w.setCell ⟨B, 51, none⟩ (.int .i64 x)) B ov gv { s with pl := x } := by
  have oth : ∀ j v, j ≠ 51 → w.cell? ⟨B, j, none⟩ = some v → (w.setCell ⟨B, 51, none⟩ (.int .i64 x)).cell? ⟨B, j, none⟩ = some v := fun j v hj e => by
    rw [World.cell?_setCell_other _ _ _ _ (by intro e2; injection e2 with _ e3; omega)]; exact e
  exact ⟨oth 0 _ (by omega) h.o, oth 1 _ (by omega) h.g, fun k hk => oth (2 + k) _ (by omega) (h.r k hk), fun k hk => oth (18 + k * 2) _ (by omega) (h.t k hk), fun k hk => oth (18 + k * 2 + 1) _ (by omega) (h.n k hk), oth 50 _ (by omega) h.d, World.cell?_setCell_same _ _ _ h.p, oth 52 _ (by omega) h.c, oth 53 _ (by omega) h.u, fun j hj => by simp only [World.frozen?_setCell]; exact h.z j hj⟩
theorem RM.setC {w : World} {B : Nat} {ov gv : Value} {s : Rs} (h : RM w B ov gv s) (x : Int) : RM (w.setCell ⟨B, 52, none⟩ (.int .i64 x)) B ov gv { s with oc := x } := by
  have oth : ∀ j v, j ≠ 52 → w.cell? ⟨B, j, none⟩ = some v → (w.setCell ⟨B, 52, none⟩ (.int .i64 x)).cell? ⟨B, j, none⟩ = some v := fun j v hj e => by
    rw [World.cell?_setCell_other _ _ _ _ (by intro e2; injection e2 with _ e3; omega)]; exact e
  exact ⟨oth 0 _ (by omega) h.o, oth 1 _ (by omega) h.g, fun k hk => oth (2 + k) _ (by omega) (h.r k hk), fun k hk => oth (18 + k * 2) _ (by omega) (h.t k hk), fun k hk => oth (18 + k * 2 + 1) _ (by omega) (h.n k hk), oth 50 _ (by omega) h.d, oth 51 _ (by omega) h.p, World.cell?_setCell_same _ _ _ h.c, oth 53 _ (by omega) h.u, fun j hj => by simp only [World.frozen?_setCell]; exact h.z j hj⟩
theorem RM.setU {w : World} {B : Nat} {ov gv : Value} {s : Rs} (h : RM w B ov gv s) (x : Int) : RM (w.setCell ⟨B, 53, none⟩ (.int .i64 x)) B ov gv { s with rs := x } := by
  have oth : ∀ j v, j ≠ 53 → w.cell? ⟨B, j, none⟩ = some v → (w.setCell ⟨B, 53, none⟩ (.int .i64 x)).cell? ⟨B, j, none⟩ = some v := fun j v hj e => by
    rw [World.cell?_setCell_other _ _ _ _ (by intro e2; injection e2 with _ e3; omega)]; exact e
  exact ⟨oth 0 _ (by omega) h.o, oth 1 _ (by omega) h.g, fun k hk => oth (2 + k) _ (by omega) (h.r k hk), fun k hk => oth (18 + k * 2) _ (by omega) (h.t k hk), fun k hk => oth (18 + k * 2 + 1) _ (by omega) (h.n k hk), oth 50 _ (by omega) h.d, oth 51 _ (by omega) h.p, oth 52 _ (by omega) h.c, World.cell?_setCell_same _ _ _ h.u, fun j hj => by simp only [World.frozen?_setCell]; exact h.z j hj⟩
/-- The objects' numbers in memory, apart from a block. -/
def OBJ (w : World) (B : Nat) (a : Option Addr) (os : List Int) : Prop := ∀ i x, os[i]? = some x → ∃ b off, a = some ⟨b, off, none⟩ ∧ b ≠ B ∧ w.cell? ⟨b, off + i, none⟩ = some (.int .i64 x)
/-- Given reads in memory, apart from a block. -/
def GIV (w : World) (B : Nat) (a : Option Addr) (gs : List (Bool × Int)) : Prop := ∀ i x, gs[i]? = some x → ∃ b off, a = some ⟨b, off, none⟩ ∧ b ≠ B ∧ w.cell? ⟨b, off + i * 2, none⟩ = some (.bool x.1) ∧ w.cell? ⟨b, off + i * 2 + 1, none⟩ = some (.int .i64 x.2)
theorem OBJ.keep {w w' : World} {B : Nat} {a : Option Addr} {os : List Int} (h : OBJ w B a os) (k : Keeps (fun k => k = B) w w') : OBJ w' B a os := fun i x hi => by
  obtain ⟨b, off, e, hb, hc⟩ := h i x hi
  exact ⟨b, off, e, hb, k.cell hc hb⟩
theorem GIV.keep {w w' : World} {B : Nat} {a : Option Addr} {gs : List (Bool × Int)} (h : GIV w B a gs) (k : Keeps (fun k => k = B) w w') : GIV w' B a gs := fun i x hi => by
  obtain ⟨b, off, e, hb, hc, hd⟩ := h i x hi
  exact ⟨b, off, e, hb, k.cell hc hb, k.cell hd hb⟩
/-- What a source says. -/
def Rs.sv (s : Rs) (r : Bool) (n : Int) : Int := if r then s.regs n.toNat else n
set_option maxHeartbeats 500000 in
set_option maxRecDepth 100000 in
theorem msource {w : World} {B : Nat} {ov gv : Value} {s : Rs} (h : RM w B ov gv s) (r : Bool) (n : Int) (ho : opk r n = true) : Calls Tryz.prog 46 #[.pointer (some ⟨B, 0, none⟩), .agg #[.bool r, .int .i64 n]] w fun e w' => e = .returned (.int .i64 (s.sv r n)) ∧ Keeps (fun _ => False) w w' := by
  have k0 : Keeps (fun _ => False) w (w.alloc (.cells #[.bool r, .int .i64 n] 69)) := (Keeps.refl _ w).alloc _
  cases r with
  | false =>
    clear ho
    go_enter Tryz.func46, Tryz.ntmps46
    go_wp2
    go_ret
    exact ⟨rfl, k0⟩
  | true =>
    have hn : 0 ≤ n ∧ n < 16 := by
      unfold opk rg at ho
      simpa using ho
    obtain ⟨k, rfl⟩ : ∃ k : Nat, n = (k : Int) := ⟨n.toNat, by omega⟩
    have hc := k0.cell (h.r k (by omega)) (fun e => e)
    have h0 : (0 : Int) ≤ (k : Int) := by omega
    have h6 : (k : Int) < 16 := by omega
    have c0 : (w.alloc (.cells #[.bool true, .int .i64 (k : Int)] 69)).cell? ⟨w.heap.size, 1, none⟩ = some (.int .i64 (k : Int)) := (CL.made w [.bool true, .int .i64 (k : Int)] 69).c 1 _ rfl
    clear h ho
    go_enter Tryz.func46, Tryz.ntmps46
    go_wp2
    go_quiet (fail)
    go_wp2
    go_ret
    exact ⟨by unfold Rs.sv; rw [if_pos rfl, Int.toNat_natCast]; rfl, k0.drewN _⟩
end Go.Proofs.YtclednbclgkdaaaGreatDoor
namespace Go.Proofs.YtclednbclgkdaaaGreatDoor
open Go.RowKit
attribute [local go_sem] Oper.semAt_some run_store_nf run_store_f
set_option maxHeartbeats 500000 in
set_option maxRecDepth 100000 in
theorem mobj_ok {w : World} {B : Nat} {gv : Value} {a : Option Addr} {cap : Nat} {os : List Int} {s : Rs} (h : RM w B (.slice a os.length cap) gv s) (r : Bool) (n : Int) (ho : opk r n = true) (hx : 0 ≤ s.sv r n ∧ s.sv r n < os.length) : Calls Tryz.prog 43 #[.pointer (some ⟨B, 0, none⟩), .agg #[.bool r, .int .i64 n]] w fun e w' => e = .returned (.tuple #[.int .i64 (s.sv r n), .bool true]) ∧ Keeps (fun _ => False) w w' := by
  have k0 : Keeps (fun _ => False) w (w.alloc (.cells #[.bool r, .int .i64 n] 69)) := (Keeps.refl _ w).alloc _
  have hs := msource (h.keep k0 (fun e => e)) r n ho
  have hc := fun W (k : Keeps (fun _ => False) w W) => k.cell h.o (fun e => e)
  generalize s.sv r n = x at *
  have b1 : decide (x < 0) = false := by simp; omega
  have b2 : decide ((os.length : Int) ≤ x) = false := by simp; omega
  have b3 : ¬ x < 0 := by omega
  have b4 : ¬ (os.length : Int) ≤ x := by omega
  clear h ho
  go_enter Tryz.func43, Tryz.ntmps43
  go_wp2_with (go_at_call 46; refine hs.mono ?_; clear hs; rintro e w1 ⟨rfl, k1⟩; have K1 := k0.trans k1; have c1 := hc _ K1; clear hc)
  go_ret2
  exact ⟨rfl, K1⟩
set_option maxHeartbeats 500000 in
set_option maxRecDepth 100000 in
theorem mobj_no {w : World} {B : Nat} {gv : Value} {a : Option Addr} {cap : Nat} {os : List Int} {s : Rs} (h : RM w B (.slice a os.length cap) gv s) (r : Bool) (n : Int) (ho : opk r n = true) (hx : s.sv r n < 0 ∨ os.length ≤ s.sv r n) : Calls Tryz.prog 43 #[.pointer (some ⟨B, 0, none⟩), .agg #[.bool r, .int .i64 n]] w fun e w' => e = .returned (.tuple #[.int .i64 0, .bool false]) ∧ RM w' B (.slice a os.length cap) gv { s with oc := 3 } ∧ Keeps (fun k => k = B) w w' := by
  have k0 : Keeps (fun _ => False) w (w.alloc (.cells #[.bool r, .int .i64 n] 69)) := (Keeps.refl _ w).alloc _
  have hs := msource (h.keep k0 (fun e => e)) r n ho
  have hm := fun W (k : Keeps (fun _ => False) w W) => h.keep k (fun e => e)
  generalize s.sv r n = x at *
  clear h ho
  rcases hx with hx | hx
  · have b1 : decide (x < 0) = true := by simp; omega
    go_enter Tryz.func43, Tryz.ntmps43
    go_wp2_with (go_at_call 46; refine hs.mono ?_; clear hs; rintro e w1 ⟨rfl, k1⟩; have K1 := k0.trans k1; have H1 := hm _ K1; have c1 := H1.o; have c2 := H1.c; have z2 := H1.z 52 (by decide); clear hm)
    go_ret2
    exact ⟨rfl, H1.setC 3, (K1.mono (fun _ _ e => e.elim)).setA 52 _⟩
  · have b2 : decide ((os.length : Int) ≤ x) = true := by simp; omega
    by_cases hx0 : x < 0
    · exfalso; have : (0 : Int) ≤ os.length := by omega
      omega
    · have b1 : decide (x < 0) = false := by simp; omega
      go_enter Tryz.func43, Tryz.ntmps43
      go_wp2_with (go_at_call 46; refine hs.mono ?_; clear hs; rintro e w1 ⟨rfl, k1⟩; have K1 := k0.trans k1; have H1 := hm _ K1; have c1 := H1.o; have c2 := H1.c; have z2 := H1.z 52 (by decide); clear hm)
      go_ret2
      exact ⟨rfl, H1.setC 3, (K1.mono (fun _ _ e => e.elim)).setA 52 _⟩
/-- What the next read sees of an object. -/
def seenV (os : List Int) (gs : List (Bool × Int)) (rd x : Nat) : Int := if (gs.getD rd (false, 0)).1 = true then (gs.getD rd (false, 0)).2 else os.getD x 0
set_option maxHeartbeats 500000 in
set_option maxRecDepth 100000 in
theorem mseen {w : World} {B : Nat} {a ag : Option Addr} {cap cg : Nat} {os : List Int} {gs : List (Bool × Int)} {s : Rs} (h : RM w B (.slice a os.length cap) (.slice ag gs.length cg) s) (hO : OBJ w B a os) (hG : GIV w B ag gs) {x : Nat} (hx : x < os.length) : Calls Tryz.prog 69 #[.pointer (some ⟨B, 0, none⟩), .int .i64 (x : Int)] w fun e w' => e = .returned (.int .i64 (seenV os gs s.rd x)) ∧ ∃ n, w' = w.drewN n := by
  have c0 := h.o
  have c1 := h.g
  have c5 := h.d
  obtain ⟨b, off, rfl, hb, hoc⟩ := hO x _ (List.getElem?_eq_getElem hx)
  have hx0 : (0 : Int) ≤ (x : Int) := by omega
  have hx1 : (x : Int) < (os.length : Int) := by omega
  have hos : os.getD x 0 = os[x] := by rw [List.getD_eq_getElem?_getD, List.getElem?_eq_getElem hx]; rfl
  generalize s.rd = rd at *
  unfold seenV
  rw [hos]
  generalize os[x] = ox at *
  generalize os.length = N at *
  clear hos h hO
  by_cases hr : rd < gs.length
  · have hrI : decide ((rd : Int) < (gs.length : Int)) = true := by simp; omega
    have hrJ : (rd : Int) < (gs.length : Int) := by omega
    have hr0 : (0 : Int) ≤ (rd : Int) := by omega
    have hgd : gs.getD rd (false, 0) = gs[rd] := by rw [List.getD_eq_getElem?_getD, List.getElem?_eq_getElem hr]; rfl
    obtain ⟨bg, og, rfl, hbg, hg1, hg2⟩ := hG rd _ (List.getElem?_eq_getElem hr)
    rw [hgd]
    generalize gs[rd] = gq at *
    obtain ⟨gu, gx⟩ := gq
    simp only at hg1 hg2 ⊢
    generalize gs.length = M at *
    clear hgd hG
    cases gu with
    | true =>
      go_enter Tryz.func69, Tryz.ntmps69
      go_wp2
      go_quiet (fail)
      go_wp2
      go_quiet (fail)
      go_wp2
      go_ret
      exact ⟨rfl, _, rfl⟩
    | false =>
      go_enter Tryz.func69, Tryz.ntmps69
      go_wp2
      go_quiet (fail)
      go_wp2
      go_ret
      exact ⟨rfl, _, rfl⟩
  · have hrI : decide ((rd : Int) < (gs.length : Int)) = false := by simp; omega
    have hgd : gs.getD rd (false, 0) = (false, 0) := by rw [List.getD_eq_getElem?_getD, List.getElem?_eq_none (by omega)]; rfl
    rw [hgd]
    generalize gs.length = M at *
    clear hgd hG
    go_enter Tryz.func69, Tryz.ntmps69
    go_wp2
    go_quiet (fail)
    go_wp2
    go_ret
    exact ⟨rfl, _, rfl⟩
end Go.Proofs.YtclednbclgkdaaaGreatDoor
namespace Go.Proofs.YtclednbclgkdaaaGreatDoor
open Go.RowKit
attribute [local go_sem] Oper.semAt_some run_store_nf run_store_f
/-- A read of an object. -/
def Rs.rdo (s : Rs) (os : List Int) (gs : List (Bool × Int)) (x : Nat) : Rs := if s.st x = 0 then { s with st := fun k => if k = x then 1 else s.st k, nm := fun k => if k = x then seenV os gs s.rd x else s.nm k, rd := s.rd + 1 } else s
/-- A write of an object. -/
def Rs.wro (s : Rs) (os : List Int) (x : Nat) : Rs := if s.st x = 2 then s else { s with st := fun k => if k = x then 2 else s.st k, nm := fun k => if k = x then os.getD x 0 else s.nm k }
theorem keepB {w : World} {B : Nat} {n : Nat} : Keeps (fun k => k = B) w (w.drewN n) := (Keeps.refl _ w).drewN n
set_option maxHeartbeats 800000 in
set_option maxRecDepth 100000 in
theorem mread {w : World} {B : Nat} {a ag : Option Addr} {cap cg : Nat} {os : List Int} {gs : List (Bool × Int)} {s : Rs} (h : RM w B (.slice a os.length cap) (.slice ag gs.length cg) s) (hO : OBJ w B a os) (hG : GIV w B ag gs) {x : Nat} (hx : x < os.length) (h16 : os.length ≤ 16) (hrd : s.rd < 1000000) : Calls Tryz.prog 44 #[.pointer (some ⟨B, 0, none⟩), .int .i64 (x : Int)] w fun e w' => e = .returned (.int .i64 ((s.rdo os gs x).nm x)) ∧ RM w' B (.slice a os.length cap) (.slice ag gs.length cg) (s.rdo os gs x) ∧ Keeps (fun k => k = B) w w' := by
  have ct := h.t x (by omega)
  have cn := h.n x (by omega)
  have hx0 : (0 : Int) ≤ (x : Int) := by omega
  have hx6 : (x : Int) < 16 := by omega
  unfold Rs.rdo
  by_cases hs : s.st x = 0
  · rw [if_pos hs]
    rw [hs] at ct
    have hse := mseen (h.keep (S := fun _ => False) (Keeps.refl _ w).drew (fun e => e)) (hO.keep (Keeps.refl _ w).drew) (hG.keep (Keeps.refl _ w).drew) hx
    have hse' := hse
    have zt := h.z (18 + x * 2) (by omega)
    have zn := h.z (18 + x * 2 + 1) (by omega)
    generalize seenV os gs s.rd x = sv at *
    clear hse
    have e1 : ({ s with st := fun k => if k = x then 1 else s.st k, nm := fun k => if k = x then sv else s.nm k, rd := s.rd + 1 } : Rs).nm x = sv := if_pos rfl
    rw [e1]
    clear e1 hO hG
    go_enter Tryz.func44, Tryz.ntmps44
    go_wp2_with fail
    go_region_held3 (fun _ => True) (trivial) (first | (go_at_call 69; refine hse'.mono ?_; rintro e w1 ⟨rfl, n1, e1⟩; subst w1))
    have H1 := ((h.keep (S := fun _ => False) ((Keeps.refl _ w).drewN (1 + n1)) (fun e => e)).setT (i := x) (by omega) 1).setN (i := x) (by omega) sv
    have K1 : Keeps (fun k => k = B) w (((w.drewN (1 + n1)).setCell ⟨B, 18 + x * 2, none⟩ (.int .i64 1)).setCell ⟨B, 18 + x * 2 + 1, none⟩ (.int .i64 sv)) := (((Keeps.refl _ w).drewN (1 + n1)).setA _ _).setA _ _
    generalize ((w.drewN (1 + n1)).setCell ⟨B, 18 + x * 2, none⟩ (.int .i64 1)).setCell ⟨B, 18 + x * 2 + 1, none⟩ (.int .i64 sv) = W1 at *
    have c5 := H1.d
    have z5 := H1.z 50 (by decide)
    have cn1 := H1.n x (by omega)
    simp only at cn1
    have hw : IntKind.i64.wrap ((s.rd : Int) + 1) = (s.rd : Int) + 1 := by rw [IntKind.wrap_i64]; omega
    have hrd0 : (0 : Int) ≤ (s.rd : Int) := by omega
    have hrd1 : (s.rd : Int) < 1000000 := by omega
    have H2 := H1.setD (s.rd + 1)
    have e3 : ((s.rd + 1 : Nat) : Int) = (s.rd : Int) + 1 := by omega
    rw [e3] at H2
    clear H1 h ct cn zt zn e3 hs
    go_wp2_with fail
    go_ret
    exact ⟨rfl, H2, K1.setA 50 _⟩
  · rw [if_neg hs]
    have hb : (s.st x == 0) = false := by simpa using hs
    clear hO hG
    go_enter Tryz.func44, Tryz.ntmps44
    go_wp2
    go_ret
    exact ⟨rfl, h, Keeps.refl _ _⟩
set_option maxHeartbeats 800000 in
set_option maxRecDepth 100000 in
theorem mwrite {w : World} {B : Nat} {a : Option Addr} {cap : Nat} {gv : Value} {os : List Int} {s : Rs} (h : RM w B (.slice a os.length cap) gv s) (hO : OBJ w B a os) {x : Nat} (hx : x < os.length) (h16 : os.length ≤ 16) : Calls Tryz.prog 45 #[.pointer (some ⟨B, 0, none⟩), .int .i64 (x : Int)] w fun e w' => e = .returned (.int .i64 ((s.wro os x).nm x)) ∧ RM w' B (.slice a os.length cap) gv (s.wro os x) ∧ Keeps (fun k => k = B) w w' := by
  have ct := h.t x (by omega)
  have cn := h.n x (by omega)
  have co := h.o
  have hx0 : (0 : Int) ≤ (x : Int) := by omega
  have hx6 : (x : Int) < 16 := by omega
  have hxl : (x : Int) < (os.length : Int) := by omega
  unfold Rs.wro
  by_cases hs : s.st x = 2
  · rw [if_pos hs]
    rw [hs] at ct
    clear hO
    go_enter Tryz.func45, Tryz.ntmps45
    go_wp2
    go_ret
    exact ⟨rfl, h, Keeps.refl _ _⟩
  · rw [if_neg hs]
    have hb : (s.st x != 2) = true := by simpa using hs
    have hb2 : (s.st x == 2) = false := by simpa using hs
    obtain ⟨b, off, rfl, hbB, hoc⟩ := hO x _ (List.getElem?_eq_getElem hx)
    have hos : os.getD x 0 = os[x] := by rw [List.getD_eq_getElem?_getD, List.getElem?_eq_getElem hx]; rfl
    rw [hos]
    generalize os[x] = ov at *
    have e1 : ({ s with st := fun k => if k = x then 2 else s.st k, nm := fun k => if k = x then ov else s.nm k } : Rs).nm x = ov := if_pos rfl
    rw [e1]
    have zt := h.z (18 + x * 2) (by omega)
    have zn := h.z (18 + x * 2 + 1) (by omega)
    have nbB : ¬ b = B := hbB
    have nBb : ¬ B = b := fun e => hbB e.symm
    clear e1 hos hO
    generalize os.length = N at *
    go_enter Tryz.func45, Tryz.ntmps45
    go_wp2_with fail
    have H1 := ((h.keep (S := fun _ => False) (Keeps.refl _ w).drew (fun e => e)).setT (i := x) (by omega) 2).setN (i := x) (by omega) ov
    have KZ : ((w.setCell ⟨B, 18 + x * 2, none⟩ (.int .i64 2)).setCell ⟨B, 18 + x * 2 + 1, none⟩ (.int .i64 ov)).drew.cell? ⟨B, 0, none⟩ = some (.slice (some ⟨b, off, none⟩) N cap) ∧ ((w.setCell ⟨B, 18 + x * 2, none⟩ (.int .i64 2)).setCell ⟨B, 18 + x * 2 + 1, none⟩ (.int .i64 ov)).drew.cell? ⟨b, off + x, none⟩ = some (.int .i64 ov) := ⟨H1.o, ((((Keeps.refl (fun k => k = B) w).drew.setA (18 + x * 2) (.int .i64 2)).setA (18 + x * 2 + 1) (.int .i64 ov)).cell hoc hbB)⟩
    go_region_held3 (fun w' => w'.cell? ⟨B, 0, none⟩ = some (.slice (some ⟨b, off, none⟩) N cap) ∧ w'.cell? ⟨b, off + x, none⟩ = some (.int .i64 ov)) (first | (go_keep; done) | exact KZ) (fail)
    have cn1 := H1.n x (by omega)
    simp only at cn1
    have K1 : Keeps (fun k => k = B) w ((w.drew.setCell ⟨B, 18 + x * 2, none⟩ (.int .i64 2)).setCell ⟨B, 18 + x * 2 + 1, none⟩ (.int .i64 ov)) := ((Keeps.refl _ w).drew.setA _ _).setA _ _
    go_wp2_with fail
    go_ret
    exact ⟨rfl, H1, K1⟩
end Go.Proofs.YtclednbclgkdaaaGreatDoor
namespace Go.Proofs.YtclednbclgkdaaaGreatDoor
open Go.RowKit
attribute [local go_sem] Oper.semAt_some run_store_nf run_store_f
def Rs.inc (s : Rs) : Rs := { s with pl := s.pl + 1 }
def Rs.setReg (s : Rs) (d : Nat) (v : Int) : Rs := { s with regs := fun k => if k = d then v else s.regs k }
def Rs.bad (s : Rs) : Rs := { s with oc := 3 }
/-- Is an object named? -/
def Rs.isO (s : Rs) (os : List Int) (q : Ins) : Prop := 0 ≤ s.sv q.oR q.oN ∧ s.sv q.oR q.oN < os.length
theorem can_obj {q : Ins} {n : Int} (h : q.can n = true) (hk : kdO q.code = true) : opk q.oR q.oN = true := by
  unfold Ins.can at h
  rw [hk] at h
  simp only [Bool.and_eq_true] at h
  have := h.2.1.1
  unfold fts at this
  simpa using this
theorem can_x {q : Ins} {n : Int} (h : q.can n = true) (hk : kdX q.code = true) : opk q.xR q.xN = true := by
  unfold Ins.can at h
  rw [hk] at h
  simp only [Bool.and_eq_true] at h
  have := h.2.1.2
  unfold fts at this
  simpa using this
theorem can_y {q : Ins} {n : Int} (h : q.can n = true) (hk : kdY q.code = true) : opk q.yR q.yN = true := by
  unfold Ins.can at h
  rw [hk] at h
  simp only [Bool.and_eq_true] at h
  have := h.2.2
  unfold fts at this
  simpa using this
theorem can_dst {q : Ins} {n : Int} (h : q.can n = true) (hk : kdD q.code = true) : 0 ≤ q.dst ∧ q.dst ≤ 15 := by
  unfold Ins.can at h
  rw [hk] at h
  simp only [Bool.and_eq_true] at h
  have := h.1.2.1.1.1
  unfold btw at this
  simpa using this
theorem can_op {q : Ins} {n : Int} (h : q.can n = true) (hk : q.code = 6) : 1 ≤ q.op ∧ q.op ≤ 12 := by
  unfold Ins.can at h
  simp only [Bool.and_eq_true] at h
  have := h.1.2.2
  rw [hk] at this
  unfold btw at this
  simpa using this
theorem can_rel {q : Ins} {n : Int} (h : q.can n = true) (hk : q.code = 7) : 1 ≤ q.rel ∧ q.rel ≤ 6 := by
  unfold Ins.can at h
  simp only [Bool.and_eq_true] at h
  have := h.1.2.1.1.2
  rw [hk] at this
  unfold btw kdR at this
  simpa using this
/-- Where an instruction is begun. -/
structure DoS (w : World) (B : Nat) (a ag : Option Addr) (cap cg : Nat) (os : List Int) (gs : List (Bool × Int)) (s : Rs) : Prop where
  m : RM w B (.slice a os.length cap) (.slice ag gs.length cg) s
  o : OBJ w B a os
  g : GIV w B ag gs
  n : os.length ≤ 16
  r : s.rd < 1000000
  p : 0 ≤ s.pl ∧ s.pl ≤ 64
set_option maxHeartbeats 1000000 in
set_option maxRecDepth 1000000 in
theorem do_goto {w : World} {B : Nat} {a ag : Option Addr} {cap cg : Nat} {os : List Int} {gs : List (Bool × Int)} {s : Rs} (hS : DoS w B a ag cap cg os gs s) (q : Ins) {N : Int} (hcan : q.can N = true) (hc : q.code = 8) : Calls Tryz.prog 27 #[.pointer (some ⟨B, 0, none⟩), .agg q.cells.toArray] w fun e w' => e = .returned (.tuple #[]) ∧ RM w' B (.slice a os.length cap) (.slice ag gs.length cg) ({ s.inc with pl := q.to }) ∧ Keeps (fun k => k = B) w w' := by
  obtain ⟨cd, dst, oR, oN, xR, xN, yR, yN, op, rel, to⟩ := q
  simp only at hc
  subst hc
  obtain ⟨h, hO, hG, h16, hrd, hp⟩ := hS
  obtain ⟨W1, hW1⟩ : ∃ W1, W1 = (w.setCell ⟨B, 51, none⟩ (.int .i64 (s.pl + 1))).alloc (.cells #[.int .i64 8, .int .i64 dst, .bool oR, .int .i64 oN, .bool xR, .int .i64 xN, .bool yR, .int .i64 yN, .int .i64 op, .int .i64 rel, .int .i64 to] 73) := ⟨_, rfl⟩
  have K1 : Keeps (fun k => k = B) w W1 := by rw [hW1]; exact ((Keeps.refl _ w).setA 51 _).alloc _
  have H1 : RM W1 B (.slice a os.length cap) (.slice ag gs.length cg) s.inc := by
    rw [hW1]; exact (h.setP (s.pl + 1)).keep (S := fun _ => False) ((Keeps.refl _ _).alloc _) (fun e => e)
  have m1 : CL W1 w.heap.size (⟨8, dst, oR, oN, xR, xN, yR, yN, op, rel, to⟩ : Ins).cells := by
    rw [hW1]
    have := CL.made (w.setCell ⟨B, 51, none⟩ (.int .i64 (s.pl + 1))) (⟨8, dst, oR, oN, xR, xN, yR, yN, op, rel, to⟩ : Ins).cells 73
    rw [show (w.setCell ⟨B, 51, none⟩ (.int .i64 (s.pl + 1))).heap.size = w.heap.size by simp] at this
    exact this
  have HW : Hid (_ = _) := hW1
  clear hW1
  have hlt := h.lt
  have nb1 : ¬ w.heap.size = B := by omega
  have nb2 : ¬ B = w.heap.size := by omega
  have c51 := h.p
  have z51 := h.z 51 (by decide)
  have hwp : IntKind.i64.wrap (s.pl + 1) = s.pl + 1 := by rw [IntKind.wrap_i64]; omega
  have hp0 := hp.1
  have hp1 := hp.2
  have hO1 := hO.keep K1
  have hG1 := hG.keep K1
  clear hp hO hG
  show Calls Tryz.prog 27 #[.pointer (some ⟨B, 0, none⟩), .agg #[.int .i64 8, .int .i64 dst, .bool oR, .int .i64 oN, .bool xR, .int .i64 xN, .bool yR, .int .i64 yN, .int .i64 op, .int .i64 rel, .int .i64 to]] w _
  clear hcan
  have t10 := m1.c 10 _ rfl
  have z1 := H1.z 51 (by decide)
  have p1 := H1.p
  go_enter Tryz.func27, Tryz.ntmps27
  go_wp2_with fail
  go_end0
  exact ⟨rfl, ((h.setP (s.pl + 1)).setP to).keep (S := fun _ => False) ((Keeps.refl _ _).alloc _) (fun e => e), (((Keeps.refl _ w).setA 51 _).setA 51 _).alloc _⟩
set_option maxHeartbeats 1000000 in
set_option maxRecDepth 1000000 in
theorem do_quit {w : World} {B : Nat} {a ag : Option Addr} {cap cg : Nat} {os : List Int} {gs : List (Bool × Int)} {s : Rs} (hS : DoS w B a ag cap cg os gs s) (q : Ins) {N : Int} (hcan : q.can N = true) (hc : q.code = 9) : Calls Tryz.prog 27 #[.pointer (some ⟨B, 0, none⟩), .agg q.cells.toArray] w fun e w' => e = .returned (.tuple #[]) ∧ RM w' B (.slice a os.length cap) (.slice ag gs.length cg) ({ s.inc with oc := 2 }) ∧ Keeps (fun k => k = B) w w' := by
  obtain ⟨cd, dst, oR, oN, xR, xN, yR, yN, op, rel, to⟩ := q
  simp only at hc
  subst hc
  obtain ⟨h, hO, hG, h16, hrd, hp⟩ := hS
  obtain ⟨W1, hW1⟩ : ∃ W1, W1 = (w.setCell ⟨B, 51, none⟩ (.int .i64 (s.pl + 1))).alloc (.cells #[.int .i64 9, .int .i64 dst, .bool oR, .int .i64 oN, .bool xR, .int .i64 xN, .bool yR, .int .i64 yN, .int .i64 op, .int .i64 rel, .int .i64 to] 73) := ⟨_, rfl⟩
  have K1 : Keeps (fun k => k = B) w W1 := by rw [hW1]; exact ((Keeps.refl _ w).setA 51 _).alloc _
  have H1 : RM W1 B (.slice a os.length cap) (.slice ag gs.length cg) s.inc := by
    rw [hW1]; exact (h.setP (s.pl + 1)).keep (S := fun _ => False) ((Keeps.refl _ _).alloc _) (fun e => e)
  have m1 : CL W1 w.heap.size (⟨9, dst, oR, oN, xR, xN, yR, yN, op, rel, to⟩ : Ins).cells := by
    rw [hW1]
    have := CL.made (w.setCell ⟨B, 51, none⟩ (.int .i64 (s.pl + 1))) (⟨9, dst, oR, oN, xR, xN, yR, yN, op, rel, to⟩ : Ins).cells 73
    rw [show (w.setCell ⟨B, 51, none⟩ (.int .i64 (s.pl + 1))).heap.size = w.heap.size by simp] at this
    exact this
  have HW : Hid (_ = _) := hW1
  clear hW1
  have hlt := h.lt
  have nb1 : ¬ w.heap.size = B := by omega
  have nb2 : ¬ B = w.heap.size := by omega
  have c51 := h.p
  have z51 := h.z 51 (by decide)
  have hwp : IntKind.i64.wrap (s.pl + 1) = s.pl + 1 := by rw [IntKind.wrap_i64]; omega
  have hp0 := hp.1
  have hp1 := hp.2
  have hO1 := hO.keep K1
  have hG1 := hG.keep K1
  clear hp hO hG
  show Calls Tryz.prog 27 #[.pointer (some ⟨B, 0, none⟩), .agg #[.int .i64 9, .int .i64 dst, .bool oR, .int .i64 oN, .bool xR, .int .i64 xN, .bool yR, .int .i64 yN, .int .i64 op, .int .i64 rel, .int .i64 to]] w _
  clear hcan
  have c52 := h.c
  have z52 := h.z 52 (by decide)
  go_enter Tryz.func27, Tryz.ntmps27
  go_wp2_with fail
  go_end0
  exact ⟨rfl, ((h.setP (s.pl + 1)).setC 2).keep (S := fun _ => False) ((Keeps.refl _ _).alloc _) (fun e => e), (((Keeps.refl _ w).setA 51 _).setA 52 _).alloc _⟩
end Go.Proofs.YtclednbclgkdaaaGreatDoor
