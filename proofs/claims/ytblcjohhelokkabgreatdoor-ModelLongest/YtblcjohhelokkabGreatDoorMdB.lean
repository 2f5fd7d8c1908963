import Derived.Test.YtblcjohhelokkabGreatDoorMdA
namespace Go.Proofs.YtblcjohhelokkabGreatDoor
open Go.RowKit
attribute [local go_sem] Oper.semAt_some run_store_nf run_store_f
set_option maxHeartbeats 500000 in
set_option maxRecDepth 100000 in
theorem mobj_ok {w : World} {B : Nat} {gv : Value} {a : Option Addr} {cap : Nat} {os : List Int} {s : Rs} (h : RM w B (.slice a os.length cap) gv s) (r : Bool) (n : Int) (ho : opk r n = true) (hx : 0 ≤ s.sv r n ∧ s.sv r n < os.length) : Calls Tryz.prog 34 #[.pointer (some ⟨B, 0, none⟩), .agg #[.bool r, .int .i64 n]] w fun e w' => e = .returned (.tuple #[.int .i64 (s.sv r n), .bool true]) ∧ Keeps (fun _ => False) w w' := by
  have k0 : Keeps (fun _ => False) w (w.alloc (.cells #[.bool r, .int .i64 n] 47)) := (Keeps.refl _ w).alloc _
  have hs := msource (h.keep k0 (fun e => e)) r n ho
  have hc := fun W (k : Keeps (fun _ => False) w W) => k.cell h.o (fun e => e)
  generalize s.sv r n = x at *
  have b1 : decide (x < 0) = false := by simp; omega
  have b2 : decide ((os.length : Int) ≤ x) = false := by simp; omega
  have b3 : ¬ x < 0 := by omega
  have b4 : ¬ (os.length : Int) ≤ x := by omega
  clear h ho
  go_enter Tryz.func34, Tryz.ntmps34
  go_wp2_with (go_at_call 37; refine hs.mono ?_; clear hs; rintro e w1 ⟨rfl, k1⟩; have K1 := k0.trans k1; have c1 := hc _ K1; clear hc)
  go_ret2
  exact ⟨rfl, K1⟩
set_option maxHeartbeats 500000 in
set_option maxRecDepth 100000 in
theorem mobj_no {w : World} {B : Nat} {gv : Value} {a : Option Addr} {cap : Nat} {os : List Int} {s : Rs} (h : RM w B (.slice a os.length cap) gv s) (r : Bool) (n : Int) (ho : opk r n = true) (hx : s.sv r n < 0 ∨ os.length ≤ s.sv r n) : Calls Tryz.prog 34 #[.pointer (some ⟨B, 0, none⟩), .agg #[.bool r, .int .i64 n]] w fun e w' => e = .returned (.tuple #[.int .i64 0, .bool false]) ∧ RM w' B (.slice a os.length cap) gv { s with oc := 3 } ∧ Keeps (fun k => k = B) w w' := by
  have k0 : Keeps (fun _ => False) w (w.alloc (.cells #[.bool r, .int .i64 n] 47)) := (Keeps.refl _ w).alloc _
  have hs := msource (h.keep k0 (fun e => e)) r n ho
  have hm := fun W (k : Keeps (fun _ => False) w W) => h.keep k (fun e => e)
  generalize s.sv r n = x at *
  clear h ho
  rcases hx with hx | hx
  · have b1 : decide (x < 0) = true := by simp; omega
    go_enter Tryz.func34, Tryz.ntmps34
    go_wp2_with (go_at_call 37; refine hs.mono ?_; clear hs; rintro e w1 ⟨rfl, k1⟩; have K1 := k0.trans k1; have H1 := hm _ K1; have c1 := H1.o; have c2 := H1.c; have z2 := H1.z 52 (by decide); clear hm)
    go_ret2
    exact ⟨rfl, H1.setC 3, (K1.mono (fun _ _ e => e.elim)).setA 52 _⟩
  · have b2 : decide ((os.length : Int) ≤ x) = true := by simp; omega
    by_cases hx0 : x < 0
    · exfalso; have : (0 : Int) ≤ os.length := by omega
      omega
    · have b1 : decide (x < 0) = false := by simp; omega
      go_enter Tryz.func34, Tryz.ntmps34
      go_wp2_with (go_at_call 37; refine hs.mono ?_; clear hs; rintro e w1 ⟨rfl, k1⟩; have K1 := k0.trans k1; have H1 := hm _ K1; have c1 := H1.o; have c2 := H1.c; have z2 := H1.z 52 (by decide); clear hm)
      go_ret2
      exact ⟨rfl, H1.setC 3, (K1.mono (fun _ _ e => e.elim)).setA 52 _⟩
/-- What the next read sees of an object. -/
def seenV (os : List Int) (gs : List (Bool × Int)) (rd x : Nat) : Int := if (gs.getD rd (false, 0)).1 = true then (gs.getD rd (false, 0)).2 else os.getD x 0
set_option maxHeartbeats 500000 in
set_option maxRecDepth 100000 in
theorem mseen {w : World} {B : Nat} {a ag : Option Addr} {cap cg : Nat} {os : List Int} {gs : List (Bool × Int)} {s : Rs} (h : RM w B (.slice a os.length cap) (.slice ag gs.length cg) s) (hO : OBJ w B a os) (hG : GIV w B ag gs) {x : Nat} (hx : x < os.length) : Calls Tryz.prog 51 #[.pointer (some ⟨B, 0, none⟩), .int .i64 (x : Int)] w fun e w' => e = .returned (.int .i64 (seenV os gs s.rd x)) ∧ ∃ n, w' = w.drewN n := by
  have c0 := h.o
  have c1 := h.g
  have c5 := h.d
  obtain ⟨b, off, rfl, hb, hoc⟩ := hO x _ (List.getElem?_eq_getElem hx)
  have hx0 : (0 : Int) ≤ (x : Int) := by omega
  have hx1 : (x : Int) < (os.length : Int) := by omega
  have hos : os.getD x 0 = os[x] := by rw [List.getD_eq_getElem?_getD, List.getElem?_eq_getElem hx]; rfl
  generalize s.rd = rd at *
  unfold seenV
  rw [hos]
  generalize os[x] = ox at *
  generalize os.length = N at *
  clear hos h hO
  by_cases hr : rd < gs.length
  · have hrI : decide ((rd : Int) < (gs.length : Int)) = true := by simp; omega
    have hrJ : (rd : Int) < (gs.length : Int) := by omega
    have hr0 : (0 : Int) ≤ (rd : Int) := by omega
    have hgd : gs.getD rd (false, 0) = gs[rd] := by rw [List.getD_eq_getElem?_getD, List.getElem?_eq_getElem hr]; rfl
    obtain ⟨bg, og, rfl, hbg, hg1, hg2⟩ := hG rd _ (List.getElem?_eq_getElem hr)
    rw [hgd]
    generalize gs[rd] = gq at *
    obtain ⟨gu, gx⟩ := gq
    simp only at hg1 hg2 ⊢
    generalize gs.length = M at *
    clear hgd hG
    cases gu with
    | true =>
      go_enter Tryz.func51, Tryz.ntmps51
      go_wp2
      go_quiet (fail)
      go_wp2
      go_quiet (fail)
      go_wp2
      go_ret
      exact ⟨rfl, _, rfl⟩
    | false =>
      go_enter Tryz.func51, Tryz.ntmps51
      go_wp2
      go_quiet (fail)
      go_wp2
      go_ret
      exact ⟨rfl, _, rfl⟩
  · have hrI : decide ((rd : Int) < (gs.length : Int)) = false := by simp; omega
    have hgd : gs.getD rd (false, 0) = (false, 0) := by rw [List.getD_eq_getElem?_getD, List.getElem?_eq_none (by omega)]; rfl
    rw [hgd]
    generalize gs.length = M at *
    clear hgd hG
    go_enter Tryz.func51, Tryz.ntmps51
    go_wp2
    go_quiet (fail)
    go_wp2
    go_ret
    exact ⟨rfl, _, rfl⟩
end Go.Proofs.YtblcjohhelokkabGreatDoor
