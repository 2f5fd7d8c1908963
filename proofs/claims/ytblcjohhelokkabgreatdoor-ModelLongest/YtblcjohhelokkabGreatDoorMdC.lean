import Derived.Test.YtblcjohhelokkabGreatDoorMdB
namespace Go.Proofs.YtblcjohhelokkabGreatDoor
open Go.RowKit
attribute [local go_sem] Oper.semAt_some run_store_nf run_store_f
/-- A read of an object. -/
def Rs.rdo (s : Rs) (os : List Int) (gs : List (Bool × Int)) (x : Nat) : Rs := if s.st x = 0 then { s with st := fun k => if k = x then 1 else s.st k, nm := fun k => if k = x then seenV os gs s.rd x else s.nm k, rd := s.rd + 1 } else s
/-- A write of an object. -/
def Rs.wro (s : Rs) (os : List Int) (x : Nat) : Rs := if s.st x = 2 then s else { s with st := fun k => if k = x then 2 else s.st k, nm := fun k => if k = x then os.getD x 0 else s.nm k }
theorem keepB {w : World} {B : Nat} {n : Nat} : Keeps (fun k => k = B) w (w.drewN n) := (Keeps.refl _ w).drewN n
set_option maxHeartbeats 800000 in
set_option maxRecDepth 100000 in
theorem mread {w : World} {B : Nat} {a ag : Option Addr} {cap cg : Nat} {os : List Int} {gs : List (Bool × Int)} {s : Rs} (h : RM w B (.slice a os.length cap) (.slice ag gs.length cg) s) (hO : OBJ w B a os) (hG : GIV w B ag gs) {x : Nat} (hx : x < os.length) (h16 : os.length ≤ 16) (hrd : s.rd < 1000000) : Calls Tryz.prog 35 #[.pointer (some ⟨B, 0, none⟩), .int .i64 (x : Int)] w fun e w' => e = .returned (.int .i64 ((s.rdo os gs x).nm x)) ∧ RM w' B (.slice a os.length cap) (.slice ag gs.length cg) (s.rdo os gs x) ∧ Keeps (fun k => k = B) w w' := by
  have ct := h.t x (by omega)
  have cn := h.n x (by omega)
  have hx0 : (0 : Int) ≤ (x : Int) := by omega
  have hx6 : (x : Int) < 16 := by omega
  unfold Rs.rdo
  by_cases hs : s.st x = 0
  · rw [if_pos hs]
    rw [hs] at ct
    have hse := mseen (h.keep (S := fun _ => False) (Keeps.refl _ w).drew (fun e => e)) (hO.keep (Keeps.refl _ w).drew) (hG.keep (Keeps.refl _ w).drew) hx
    have hse' := hse
    have zt := h.z (18 + x * 2) (by omega)
    have zn := h.z (18 + x * 2 + 1) (by omega)
    generalize seenV os gs s.rd x = sv at *
    clear hse
    have e1 : ({ s with st := fun k => if k = x then 1 else s.st k, nm := fun k => if k = x then sv else s.nm k, rd := s.rd + 1 } : Rs).nm x = sv := if_pos rfl
    rw [e1]
    clear e1 hO hG
    go_enter Tryz.func35, Tryz.ntmps35
    go_wp2_with fail
    go_region_held3 (fun _ => True) (trivial) (first | (go_at_call 51; refine hse'.mono ?_; rintro e w1 ⟨rfl, n1, e1⟩; subst w1))
    have H1 := ((h.keep (S := fun _ => False) ((Keeps.refl _ w).drewN (1 + n1)) (fun e => e)).setT (i := x) (by omega) 1).setN (i := x) (by omega) sv
    have K1 : Keeps (fun k => k = B) w (((w.drewN (1 + n1)).setCell ⟨B, 18 + x * 2, none⟩ (.int .i64 1)).setCell ⟨B, 18 + x * 2 + 1, none⟩ (.int .i64 sv)) := (((Keeps.refl _ w).drewN (1 + n1)).setA _ _).setA _ _
    generalize ((w.drewN (1 + n1)).setCell ⟨B, 18 + x * 2, none⟩ (.int .i64 1)).setCell ⟨B, 18 + x * 2 + 1, none⟩ (.int .i64 sv) = W1 at *
    have c5 := H1.d
    have z5 := H1.z 50 (by decide)
    have cn1 := H1.n x (by omega)
    simp only at cn1
    have hw : IntKind.i64.wrap ((s.rd : Int) + 1) = (s.rd : Int) + 1 := by rw [IntKind.wrap_i64]; omega
    have hrd0 : (0 : Int) ≤ (s.rd : Int) := by omega
    have hrd1 : (s.rd : Int) < 1000000 := by omega
    have H2 := H1.setD (s.rd + 1)
    have e3 : ((s.rd + 1 : Nat) : Int) = (s.rd : Int) + 1 := by omega
    rw [e3] at H2
    clear H1 h ct cn zt zn e3 hs
    go_wp2_with fail
    go_ret
    exact ⟨rfl, H2, K1.setA 50 _⟩
  · rw [if_neg hs]
    have hb : (s.st x == 0) = false := by simpa using hs
    clear hO hG
    go_enter Tryz.func35, Tryz.ntmps35
    go_wp2
    go_ret
    exact ⟨rfl, h, Keeps.refl _ _⟩
set_option maxHeartbeats 800000 in
set_option maxRecDepth 100000 in
theorem mwrite {w : World} {B : Nat} {a : Option Addr} {cap : Nat} {gv : Value} {os : List Int} {s : Rs} (h : RM w B (.slice a os.length cap) gv s) (hO : OBJ w B a os) {x : Nat} (hx : x < os.length) (h16 : os.length ≤ 16) : Calls Tryz.prog 36 #[.pointer (some ⟨B, 0, none⟩), .int .i64 (x : Int)] w fun e w' => e = .returned (.int .i64 ((s.wro os x).nm x)) ∧ RM w' B (.slice a os.length cap) gv (s.wro os x) ∧ Keeps (fun k => k = B) w w' := by
  have ct := h.t x (by omega)
  have cn := h.n x (by omega)
  have co := h.o
  have hx0 : (0 : Int) ≤ (x : Int) := by omega
  have hx6 : (x : Int) < 16 := by omega
  have hxl : (x : Int) < (os.length : Int) := by omega
  unfold Rs.wro
  by_cases hs : s.st x = 2
  · rw [if_pos hs]
    rw [hs] at ct
    clear hO
    go_enter Tryz.func36, Tryz.ntmps36
    go_wp2
    go_ret
    exact ⟨rfl, h, Keeps.refl _ _⟩
  · rw [if_neg hs]
    have hb : (s.st x != 2) = true := by simpa using hs
    have hb2 : (s.st x == 2) = false := by simpa using hs
    obtain ⟨b, off, rfl, hbB, hoc⟩ := hO x _ (List.getElem?_eq_getElem hx)
    have hos : os.getD x 0 = os[x] := by rw [List.getD_eq_getElem?_getD, List.getElem?_eq_getElem hx]; rfl
    rw [hos]
    generalize os[x] = ov at *
    have e1 : ({ s with st := fun k => if k = x then 2 else s.st k, nm := fun k => if k = x then ov else s.nm k } : Rs).nm x = ov := if_pos rfl
    rw [e1]
    have zt := h.z (18 + x * 2) (by omega)
    have zn := h.z (18 + x * 2 + 1) (by omega)
    have nbB : ¬ b = B := hbB
    have nBb : ¬ B = b := fun e => hbB e.symm
    clear e1 hos hO
    generalize os.length = N at *
    go_enter Tryz.func36, Tryz.ntmps36
    go_wp2_with fail
    have H1 := ((h.keep (S := fun _ => False) (Keeps.refl _ w).drew (fun e => e)).setT (i := x) (by omega) 2).setN (i := x) (by omega) ov
    have KZ : ((w.setCell ⟨B, 18 + x * 2, none⟩ (.int .i64 2)).setCell ⟨B, 18 + x * 2 + 1, none⟩ (.int .i64 ov)).drew.cell? ⟨B, 0, none⟩ = some (.slice (some ⟨b, off, none⟩) N cap) ∧ ((w.setCell ⟨B, 18 + x * 2, none⟩ (.int .i64 2)).setCell ⟨B, 18 + x * 2 + 1, none⟩ (.int .i64 ov)).drew.cell? ⟨b, off + x, none⟩ = some (.int .i64 ov) := ⟨H1.o, ((((Keeps.refl (fun k => k = B) w).drew.setA (18 + x * 2) (.int .i64 2)).setA (18 + x * 2 + 1) (.int .i64 ov)).cell hoc hbB)⟩
    go_region_held3 (fun w' => w'.cell? ⟨B, 0, none⟩ = some (.slice (some ⟨b, off, none⟩) N cap) ∧ w'.cell? ⟨b, off + x, none⟩ = some (.int .i64 ov)) (first | (go_keep; done) | exact KZ) (fail)
    have cn1 := H1.n x (by omega)
    simp only at cn1
    have K1 : Keeps (fun k => k = B) w ((w.drew.setCell ⟨B, 18 + x * 2, none⟩ (.int .i64 2)).setCell ⟨B, 18 + x * 2 + 1, none⟩ (.int .i64 ov)) := ((Keeps.refl _ w).drew.setA _ _).setA _ _
    go_wp2_with fail
    go_ret
    exact ⟨rfl, H1, K1⟩
end Go.Proofs.YtblcjohhelokkabGreatDoor
