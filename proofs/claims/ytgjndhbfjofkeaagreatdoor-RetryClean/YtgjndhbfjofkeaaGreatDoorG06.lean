import Derived.Test.YtgjndhbfjofkeaaGreatDoorG01
import Derived.Test.YtgjndhbfjofkeaaGreatDoorRows
import Derived.Test.YtgjndhbfjofkeaaGreatDoorTie
import Derived.Test.YtgjndhbfjofkeaaGreatDoorCards
import Derived.ProofKit
import Derived.LaidMore
import Derived.OpenShut
import Derived.ChangeArms
import Derived.Stop.Joined
import Derived.SevenTiedAt
import Derived.FnData
import Derived.ShutString
import Derived.Test.YtgjndhbfjofkeaaGreatDoorG05
import Derived.Test.YtgjndhbfjofkeaaGreatDoorG04
import Derived.Laws.ResultCell
namespace Go.Proofs.YtgjndhbfjofkeaaGreatDoor
open Go.ChangeShapes Go.WideShapes Go.ChangeAt Go.RowKit
theorem own : ownKnob Tryz.prog.godebug = none := by kernel_rfl
theorem gTr : Tryz.prog.globalNamed "braid/cm.traits" = some 0 := by kernel_rfl
theorem tTr : (Tryz.prog.globals[0]?).map (·.type) = some 150 := by kernel_rfl
def laid1 : List (String × DataW Unit) := [("braid/cm.traits", Rows.laid_braid_cm_traits)]
theorem door_met (os : Os) (args : Array Value) : laidMetH Tryz.prog laid1 ((World.doorLaid Tryz.prog 400 os).forCall (fun _ _ => 0) ⟨#[], args, []⟩).memory :=
  laidMetH_of_parts3 (fuel := 8) (laidMet_of_run' 8 (by kernel_rfl) (by kernel_rfl)) (by kernel_rfl) (by kernel_rfl)
def nmT (i : Nat) : ByteArray := ⟨(([#[112, 111, 108, 105, 116, 101], #[107, 97, 114, 109, 97], #[112, 111, 108, 107, 97], #[103, 114, 101, 101, 100, 121], #[111, 114, 97, 99, 108, 101]] : List (Array UInt8)).getD i #[])⟩
def lkT (i : Nat) : Int := ([0, 1, 1, 2, 0] : List Int).getD i 0
def kpT (i : Nat) : Bool := ([false, true, true, false, false] : List Bool).getD i false
def flT (i : Nat) : Bool := ([false, false, false, true, false] : List Bool).getD i false
def TR (w : World) : Prop := ∀ i, i < 5 → w.cell? ⟨0, i * 4, none⟩ = some (.string (nmT i)) ∧ w.cell? ⟨0, i * 4 + 1, none⟩ = some (.int .i64 (lkT i)) ∧ w.cell? ⟨0, i * 4 + 2, none⟩ = some (.bool (kpT i)) ∧ w.cell? ⟨0, i * 4 + 3, none⟩ = some (.bool (flT i))
theorem TR.keep {w w' : World} (h : TR w) (k : Keeps (fun _ => False) w w') : TR w' := fun i hi => ⟨k.cell (h i hi).1 id, k.cell (h i hi).2.1 id, k.cell (h i hi).2.2.1 id, k.cell (h i hi).2.2.2 id⟩
theorem four {H : Type} {enc : TypeId × Value → H} {P : Program} {W : World} {spare : Nat → Bool} {held : Bool} {fuel : Nat} {e : TypeId} {f0 f1 f2 f3 : Field} {v0 v1 v2 v3 : Value} {s : List UInt8} {n : Int} {b c : Bool} {q : List MemPlace}
    (hs : P.underlying e = some (.struct #[f0, f1, f2, f3])) (o0 : f0.offset = 0) (o1 : f1.offset = 1) (o2 : f2.offset = 2) (o3 : f3.offset = 3) (c0 : P.cellsOf f0.type = 1) (c1 : P.cellsOf f1.type = 1) (c2 : P.cellsOf f2.type = 1) (c3 : P.cellsOf f3.type = 1)
    (u0 : P.underlying f0.type = some .string) (u1 : P.underlying f1.type = some (.int .i64)) (u2 : P.underlying f2.type = some .bool) (u3 : P.underlying f3.type = some .bool)
    (h : DataW.trod enc P W 0 spare held fuel e [v0, v1, v2, v3] = some (.agg [.lit (.string s), .lit (.int .i64 n), .lit (.bool b), .lit (.bool c)], q)) : v0 = .string ⟨s.toArray⟩ ∧ v1 = .int .i64 n ∧ v2 = .bool b ∧ v3 = .bool c := by
  obtain ⟨xs, k, _, hx, _, hxl, hf⟩ := DataW.trod_struct hs h
  match xs, hxl with
  | [y0, y1, y2, y3], _ =>
    have g0 := hf 0 f0 rfl
    have g1 := hf 1 f1 rfl
    have g2 := hf 2 f2 rfl
    have g3 := hf 3 f3 rfl
    simp [o0, o1, o2, o3, c0, c1, c2, c3] at g0 g1 g2 g3
    simp at hx
    obtain ⟨⟨x0, x1, x2, x3⟩, _⟩ := hx
    obtain ⟨s', e1, e2, _⟩ := DataW.trod_string u0 g0
    obtain ⟨n', r1, t1, _⟩ := DataW.trod_int u1 g1
    obtain ⟨b', r2, t2⟩ := DataW.trod_bool u2 g2
    obtain ⟨c', r3, t3⟩ := DataW.trod_bool u3 g3
    simp at e1 r1 r2 r3
    rw [e2] at x0
    rw [t1] at x1
    rw [t2] at x2
    rw [t3] at x3
    simp at x0 x1 x2 x3
    subst r1 r2 r3 e1
    rw [x0, ← x1, ← x2, ← x3]
    simp
theorem of_laid {W : World} (h : laidMetH Tryz.prog laid1 W) : TR W := by
  rw [MakeChecks.laidMetH_plain _ _ _ (by kernel_rfl)] at h
  obtain ⟨ps, ⟨g0, t0, cs0, f0, p0, q0, hg0, ht0, hv0, hd0, _, _⟩, _, _⟩ := h
  obtain rfl := Option.some.inj (gTr.symm.trans hg0)
  obtain rfl := Option.some.inj (tTr.symm.trans ht0)
  have cell := fun i => World.var?_cell hg0 hv0 i
  obtain ⟨xs, m, _, hx, hlen, hn, hel⟩ := DataW.trod_array Tryz.underlying150 hd0
  have c20 : Tryz.prog.cellsOf 150 = 20 := by kernel_rfl
  have c4 : Tryz.prog.cellsOf 97 = 4 := by kernel_rfl
  rw [c20] at hlen
  obtain ⟨cl⟩ := cs0
  simp only at hlen hel cell
  rw [c4] at hel
  match xs, hn, cl, hlen with
  | [y0, y1, y2, y3, y4], _, [c0, c1, c2, c3, c4, c5, c6, c7, c8, c9, c10, c11, c12, c13, c14, c15, c16, c17, c18, c19], _ =>
    have e0 := hel 0 (by omega)
    have e1 := hel 1 (by omega)
    have e2 := hel 2 (by omega)
    have e3 := hel 3 (by omega)
    have e4 := hel 4 (by omega)
    simp at e0 e1 e2 e3 e4
    simp [Rows.laid_braid_cm_traits] at hx
    obtain ⟨⟨x0, x1, x2, x3, x4⟩, _⟩ := hx
    obtain ⟨k00, k01, k02, k03⟩ := four (q := y0.2) Tryz.underlying97 rfl rfl rfl rfl (by kernel_rfl) (by kernel_rfl) (by kernel_rfl) (by kernel_rfl) (by kernel_rfl) (by kernel_rfl) (by kernel_rfl) (by kernel_rfl) (e0.trans (congrArg some (Prod.ext x0.symm rfl)))
    obtain ⟨k10, k11, k12, k13⟩ := four (q := y1.2) Tryz.underlying97 rfl rfl rfl rfl (by kernel_rfl) (by kernel_rfl) (by kernel_rfl) (by kernel_rfl) (by kernel_rfl) (by kernel_rfl) (by kernel_rfl) (by kernel_rfl) (e1.trans (congrArg some (Prod.ext x1.symm rfl)))
    obtain ⟨k20, k21, k22, k23⟩ := four (q := y2.2) Tryz.underlying97 rfl rfl rfl rfl (by kernel_rfl) (by kernel_rfl) (by kernel_rfl) (by kernel_rfl) (by kernel_rfl) (by kernel_rfl) (by kernel_rfl) (by kernel_rfl) (e2.trans (congrArg some (Prod.ext x2.symm rfl)))
    obtain ⟨k30, k31, k32, k33⟩ := four (q := y3.2) Tryz.underlying97 rfl rfl rfl rfl (by kernel_rfl) (by kernel_rfl) (by kernel_rfl) (by kernel_rfl) (by kernel_rfl) (by kernel_rfl) (by kernel_rfl) (by kernel_rfl) (e3.trans (congrArg some (Prod.ext x3.symm rfl)))
    obtain ⟨k40, k41, k42, k43⟩ := four (q := y4.2) Tryz.underlying97 rfl rfl rfl rfl (by kernel_rfl) (by kernel_rfl) (by kernel_rfl) (by kernel_rfl) (by kernel_rfl) (by kernel_rfl) (by kernel_rfl) (by kernel_rfl) (e4.trans (congrArg some (Prod.ext x4.symm rfl)))
    have z0 : W.cell? ⟨0, 0, none⟩ = some c0 := by rw [cell 0]; rfl
    have z1 : W.cell? ⟨0, 1, none⟩ = some c1 := by rw [cell 1]; rfl
    have z2 : W.cell? ⟨0, 2, none⟩ = some c2 := by rw [cell 2]; rfl
    have z3 : W.cell? ⟨0, 3, none⟩ = some c3 := by rw [cell 3]; rfl
    have z4 : W.cell? ⟨0, 4, none⟩ = some c4 := by rw [cell 4]; rfl
    have z5 : W.cell? ⟨0, 5, none⟩ = some c5 := by rw [cell 5]; rfl
    have z6 : W.cell? ⟨0, 6, none⟩ = some c6 := by rw [cell 6]; rfl
    have z7 : W.cell? ⟨0, 7, none⟩ = some c7 := by rw [cell 7]; rfl
    have z8 : W.cell? ⟨0, 8, none⟩ = some c8 := by rw [cell 8]; rfl
    have z9 : W.cell? ⟨0, 9, none⟩ = some c9 := by rw [cell 9]; rfl
    have z10 : W.cell? ⟨0, 10, none⟩ = some c10 := by rw [cell 10]; rfl
    have z11 : W.cell? ⟨0, 11, none⟩ = some c11 := by rw [cell 11]; rfl
    have z12 : W.cell? ⟨0, 12, none⟩ = some c12 := by rw [cell 12]; rfl
    have z13 : W.cell? ⟨0, 13, none⟩ = some c13 := by rw [cell 13]; rfl
    have z14 : W.cell? ⟨0, 14, none⟩ = some c14 := by rw [cell 14]; rfl
    have z15 : W.cell? ⟨0, 15, none⟩ = some c15 := by rw [cell 15]; rfl
    have z16 : W.cell? ⟨0, 16, none⟩ = some c16 := by rw [cell 16]; rfl
    have z17 : W.cell? ⟨0, 17, none⟩ = some c17 := by rw [cell 17]; rfl
    have z18 : W.cell? ⟨0, 18, none⟩ = some c18 := by rw [cell 18]; rfl
    have z19 : W.cell? ⟨0, 19, none⟩ = some c19 := by rw [cell 19]; rfl
    intro i hi
    match i, hi with
    | 0, _ => exact ⟨z0.trans (by rw [k00]; rfl), z1.trans (by rw [k01]; rfl), z2.trans (by rw [k02]; rfl), z3.trans (by rw [k03]; rfl)⟩
    | 1, _ => exact ⟨z4.trans (by rw [k10]; rfl), z5.trans (by rw [k11]; rfl), z6.trans (by rw [k12]; rfl), z7.trans (by rw [k13]; rfl)⟩
    | 2, _ => exact ⟨z8.trans (by rw [k20]; rfl), z9.trans (by rw [k21]; rfl), z10.trans (by rw [k22]; rfl), z11.trans (by rw [k23]; rfl)⟩
    | 3, _ => exact ⟨z12.trans (by rw [k30]; rfl), z13.trans (by rw [k31]; rfl), z14.trans (by rw [k32]; rfl), z15.trans (by rw [k33]; rfl)⟩
    | 4, _ => exact ⟨z16.trans (by rw [k40]; rfl), z17.trans (by rw [k41]; rfl), z18.trans (by rw [k42]; rfl), z19.trans (by rw [k43]; rfl)⟩
end Go.Proofs.YtgjndhbfjofkeaaGreatDoor

namespace Go.Proofs.YtgjndhbfjofkeaaGreatDoor
open Go.RowKit
theorem results_cell1t {fn : Func} {p : Tmp} {ty : TypeId} (h : fn.results = #[.cell p ty]) (tmps : Array Value) (P : Program) (w : World) :
    (results fn tmps).run P w = ((asAddr (tmps.getD p undef)).run P w).andThen fun a w₁ => (loadVar ty a).run P w₁ := by
  simp only [results, h]
  simp [Sem.run_bind, Result.andThen]
theorem kindOf0 (w : World) (p : Int) : Calls Tryz.prog 201 #[.agg #[.int .i64 p]] w fun e w' => e = .returned (.int .i64 0) ∧ Keeps (fun _ => False) w w' := by
  go_enter Tryz.func201, Tryz.ntmps201
  go_wp2
  go_ret
  exact ⟨rfl, by first | exact (Keeps.refl _ w).alloc _ | exact Keeps.refl _ w⟩
set_option maxHeartbeats 1600000 in
set_option maxRecDepth 1000000 in
theorem trait0 {w : World} {mb : Nat} {p : Int} (hm : w.cell? ⟨mb, 0, none⟩ = some (.iface 185 (.agg #[.int .i64 p]))) (hT : TR w) :
    Calls Tryz.prog 41 #[.pointer (some ⟨mb, 0, none⟩)] w fun e w' => e = .returned (.agg #[.string (nmT 0), .int .i64 (lkT 0), .bool (kpT 0), .bool (flT 0)]) ∧ Keeps (fun _ => False) w w' := by
  obtain ⟨w0, hw0⟩ : ∃ w0, w0 = w.alloc (.cells #[.string ⟨#[]⟩, .int .i64 0, .bool false, .bool false] 97) := ⟨_, rfl⟩
  have K0 : Keeps (fun _ => False) w w0 := by rw [hw0]; exact (Keeps.refl _ w).alloc _
  have m0 := K0.cell hm id
  have hi := isNone_no m0
  have hme : ∀ w : World, (method 361 185 (.agg #[.int .i64 p]) "braid/cm.kind").run Tryz.prog w = .ok (201, .agg #[.int .i64 p]) w := fun _ => by kernel_rfl
  have b0 : w0.cell? ⟨w.heap.size, 0, none⟩ = some (.string ⟨#[]⟩) := by rw [hw0]; simp
  have b1 : w0.cell? ⟨w.heap.size, 1, none⟩ = some (.int .i64 0) := by rw [hw0]; simp
  have b2 : w0.cell? ⟨w.heap.size, 2, none⟩ = some (.bool false) := by rw [hw0]; simp
  have b3 : w0.cell? ⟨w.heap.size, 3, none⟩ = some (.bool false) := by rw [hw0]; simp
  have zz : ∀ o, w0.frozen? ⟨w.heap.size, o, none⟩ = false := by intro o; rw [hw0]; simp
  have hs : w.heap.size < w0.heap.size := World.block_lt_of_cell? _ _ b0
  have hTk : ∀ W, Keeps (fun _ => False) w W → W.cell? ⟨0, 0, none⟩ = some (.string (nmT 0)) ∧ W.cell? ⟨0, 1, none⟩ = some (.int .i64 (lkT 0)) ∧ W.cell? ⟨0, 2, none⟩ = some (.bool (kpT 0)) ∧ W.cell? ⟨0, 3, none⟩ = some (.bool (flT 0)) := fun W kk => (hT.keep kk) 0 (by omega)
  generalize nmT 0 = n at *
  generalize lkT 0 = l at *
  generalize kpT 0 = kp at *
  generalize flT 0 = fl at *
  go_enter Tryz.func41, Tryz.ntmps41
  go_wp2_with fail
  rw [← hw0]
  clear hw0
  refine hi.mono ?_
  clear hi
  rintro e w1 ⟨rfl, rfl⟩
  go_wp2_with fail
  refine (kindOf0 _ _).mono ?_
  rintro e w2 ⟨rfl, k2⟩
  obtain ⟨t0, t1, t2, t3⟩ := hTk _ (K0.trans k2)
  have c0 := k2.cell b0 id
  have c1 := k2.cell b1 id
  have c2 := k2.cell b2 id
  have c3 := k2.cell b3 id
  have z0 := (k2.frozen (p := ⟨w.heap.size, 0, none⟩) hs id).trans (zz 0)
  have z1 := (k2.frozen (p := ⟨w.heap.size, 1, none⟩) hs id).trans (zz 1)
  have z2 := (k2.frozen (p := ⟨w.heap.size, 2, none⟩) hs id).trans (zz 2)
  have z3 := (k2.frozen (p := ⟨w.heap.size, 3, none⟩) hs id).trans (zz 3)
  have KK := K0.trans k2
  clear zz b0 b1 b2 b3 hT m0 K0 k2
  go_wp2_with fail
  have nl : ∀ o, (⟨w.heap.size, o, none⟩ : Addr).block < w.heap.size → False := fun o h => Nat.lt_irrefl _ h
  refine bodyPost_ret (v := .agg #[.string n, .int .i64 l, .bool kp, .bool fl]) ?_ rfl ⟨rfl, (((KK.setCell (p := ⟨w.heap.size, 0, none⟩) (nl 0) _).setCell (p := ⟨w.heap.size, 1, none⟩) (nl 1) _).setCell (p := ⟨w.heap.size, 2, none⟩) (nl 2) _).setCell (p := ⟨w.heap.size, 3, none⟩) (nl 3) _⟩
  rw [results_cell1t rfl]
  go_simp
theorem kindOf1 (w : World) (p : Int) : Calls Tryz.prog 207 #[.agg #[.int .i64 p]] w fun e w' => e = .returned (.int .i64 1) ∧ Keeps (fun _ => False) w w' := by
  go_enter Tryz.func207, Tryz.ntmps207
  go_wp2
  go_ret
  exact ⟨rfl, by first | exact (Keeps.refl _ w).alloc _ | exact Keeps.refl _ w⟩
set_option maxHeartbeats 1600000 in
set_option maxRecDepth 1000000 in
theorem trait1 {w : World} {mb : Nat} {p : Int} (hm : w.cell? ⟨mb, 0, none⟩ = some (.iface 186 (.agg #[.int .i64 p]))) (hT : TR w) :
    Calls Tryz.prog 41 #[.pointer (some ⟨mb, 0, none⟩)] w fun e w' => e = .returned (.agg #[.string (nmT 1), .int .i64 (lkT 1), .bool (kpT 1), .bool (flT 1)]) ∧ Keeps (fun _ => False) w w' := by
  obtain ⟨w0, hw0⟩ : ∃ w0, w0 = w.alloc (.cells #[.string ⟨#[]⟩, .int .i64 0, .bool false, .bool false] 97) := ⟨_, rfl⟩
  have K0 : Keeps (fun _ => False) w w0 := by rw [hw0]; exact (Keeps.refl _ w).alloc _
  have m0 := K0.cell hm id
  have hi := isNone_no m0
  have hme : ∀ w : World, (method 361 186 (.agg #[.int .i64 p]) "braid/cm.kind").run Tryz.prog w = .ok (207, .agg #[.int .i64 p]) w := fun _ => by kernel_rfl
  have b0 : w0.cell? ⟨w.heap.size, 0, none⟩ = some (.string ⟨#[]⟩) := by rw [hw0]; simp
  have b1 : w0.cell? ⟨w.heap.size, 1, none⟩ = some (.int .i64 0) := by rw [hw0]; simp
  have b2 : w0.cell? ⟨w.heap.size, 2, none⟩ = some (.bool false) := by rw [hw0]; simp
  have b3 : w0.cell? ⟨w.heap.size, 3, none⟩ = some (.bool false) := by rw [hw0]; simp
  have zz : ∀ o, w0.frozen? ⟨w.heap.size, o, none⟩ = false := by intro o; rw [hw0]; simp
  have hs : w.heap.size < w0.heap.size := World.block_lt_of_cell? _ _ b0
  have hTk : ∀ W, Keeps (fun _ => False) w W → W.cell? ⟨0, 4, none⟩ = some (.string (nmT 1)) ∧ W.cell? ⟨0, 5, none⟩ = some (.int .i64 (lkT 1)) ∧ W.cell? ⟨0, 6, none⟩ = some (.bool (kpT 1)) ∧ W.cell? ⟨0, 7, none⟩ = some (.bool (flT 1)) := fun W kk => (hT.keep kk) 1 (by omega)
  generalize nmT 1 = n at *
  generalize lkT 1 = l at *
  generalize kpT 1 = kp at *
  generalize flT 1 = fl at *
  go_enter Tryz.func41, Tryz.ntmps41
  go_wp2_with fail
  rw [← hw0]
  clear hw0
  refine hi.mono ?_
  clear hi
  rintro e w1 ⟨rfl, rfl⟩
  go_wp2_with fail
  refine (kindOf1 _ _).mono ?_
  rintro e w2 ⟨rfl, k2⟩
  obtain ⟨t0, t1, t2, t3⟩ := hTk _ (K0.trans k2)
  have c0 := k2.cell b0 id
  have c1 := k2.cell b1 id
  have c2 := k2.cell b2 id
  have c3 := k2.cell b3 id
  have z0 := (k2.frozen (p := ⟨w.heap.size, 0, none⟩) hs id).trans (zz 0)
  have z1 := (k2.frozen (p := ⟨w.heap.size, 1, none⟩) hs id).trans (zz 1)
  have z2 := (k2.frozen (p := ⟨w.heap.size, 2, none⟩) hs id).trans (zz 2)
  have z3 := (k2.frozen (p := ⟨w.heap.size, 3, none⟩) hs id).trans (zz 3)
  have KK := K0.trans k2
  clear zz b0 b1 b2 b3 hT m0 K0 k2
  go_wp2_with fail
  have nl : ∀ o, (⟨w.heap.size, o, none⟩ : Addr).block < w.heap.size → False := fun o h => Nat.lt_irrefl _ h
  refine bodyPost_ret (v := .agg #[.string n, .int .i64 l, .bool kp, .bool fl]) ?_ rfl ⟨rfl, (((KK.setCell (p := ⟨w.heap.size, 0, none⟩) (nl 0) _).setCell (p := ⟨w.heap.size, 1, none⟩) (nl 1) _).setCell (p := ⟨w.heap.size, 2, none⟩) (nl 2) _).setCell (p := ⟨w.heap.size, 3, none⟩) (nl 3) _⟩
  rw [results_cell1t rfl]
  go_simp
theorem kindOf2 (w : World) (p : Int) : Calls Tryz.prog 211 #[.agg #[.int .i64 p]] w fun e w' => e = .returned (.int .i64 2) ∧ Keeps (fun _ => False) w w' := by
  go_enter Tryz.func211, Tryz.ntmps211
  go_wp2
  go_ret
  exact ⟨rfl, by first | exact (Keeps.refl _ w).alloc _ | exact Keeps.refl _ w⟩
set_option maxHeartbeats 1600000 in
set_option maxRecDepth 1000000 in
theorem trait2 {w : World} {mb : Nat} {p : Int} (hm : w.cell? ⟨mb, 0, none⟩ = some (.iface 187 (.agg #[.int .i64 p]))) (hT : TR w) :
    Calls Tryz.prog 41 #[.pointer (some ⟨mb, 0, none⟩)] w fun e w' => e = .returned (.agg #[.string (nmT 2), .int .i64 (lkT 2), .bool (kpT 2), .bool (flT 2)]) ∧ Keeps (fun _ => False) w w' := by
  obtain ⟨w0, hw0⟩ : ∃ w0, w0 = w.alloc (.cells #[.string ⟨#[]⟩, .int .i64 0, .bool false, .bool false] 97) := ⟨_, rfl⟩
  have K0 : Keeps (fun _ => False) w w0 := by rw [hw0]; exact (Keeps.refl _ w).alloc _
  have m0 := K0.cell hm id
  have hi := isNone_no m0
  have hme : ∀ w : World, (method 361 187 (.agg #[.int .i64 p]) "braid/cm.kind").run Tryz.prog w = .ok (211, .agg #[.int .i64 p]) w := fun _ => by kernel_rfl
  have b0 : w0.cell? ⟨w.heap.size, 0, none⟩ = some (.string ⟨#[]⟩) := by rw [hw0]; simp
  have b1 : w0.cell? ⟨w.heap.size, 1, none⟩ = some (.int .i64 0) := by rw [hw0]; simp
  have b2 : w0.cell? ⟨w.heap.size, 2, none⟩ = some (.bool false) := by rw [hw0]; simp
  have b3 : w0.cell? ⟨w.heap.size, 3, none⟩ = some (.bool false) := by rw [hw0]; simp
  have zz : ∀ o, w0.frozen? ⟨w.heap.size, o, none⟩ = false := by intro o; rw [hw0]; simp
  have hs : w.heap.size < w0.heap.size := World.block_lt_of_cell? _ _ b0
  have hTk : ∀ W, Keeps (fun _ => False) w W → W.cell? ⟨0, 8, none⟩ = some (.string (nmT 2)) ∧ W.cell? ⟨0, 9, none⟩ = some (.int .i64 (lkT 2)) ∧ W.cell? ⟨0, 10, none⟩ = some (.bool (kpT 2)) ∧ W.cell? ⟨0, 11, none⟩ = some (.bool (flT 2)) := fun W kk => (hT.keep kk) 2 (by omega)
  generalize nmT 2 = n at *
  generalize lkT 2 = l at *
  generalize kpT 2 = kp at *
  generalize flT 2 = fl at *
  go_enter Tryz.func41, Tryz.ntmps41
  go_wp2_with fail
  rw [← hw0]
  clear hw0
  refine hi.mono ?_
  clear hi
  rintro e w1 ⟨rfl, rfl⟩
  go_wp2_with fail
  refine (kindOf2 _ _).mono ?_
  rintro e w2 ⟨rfl, k2⟩
  obtain ⟨t0, t1, t2, t3⟩ := hTk _ (K0.trans k2)
  have c0 := k2.cell b0 id
  have c1 := k2.cell b1 id
  have c2 := k2.cell b2 id
  have c3 := k2.cell b3 id
  have z0 := (k2.frozen (p := ⟨w.heap.size, 0, none⟩) hs id).trans (zz 0)
  have z1 := (k2.frozen (p := ⟨w.heap.size, 1, none⟩) hs id).trans (zz 1)
  have z2 := (k2.frozen (p := ⟨w.heap.size, 2, none⟩) hs id).trans (zz 2)
  have z3 := (k2.frozen (p := ⟨w.heap.size, 3, none⟩) hs id).trans (zz 3)
  have KK := K0.trans k2
  clear zz b0 b1 b2 b3 hT m0 K0 k2
  go_wp2_with fail
  have nl : ∀ o, (⟨w.heap.size, o, none⟩ : Addr).block < w.heap.size → False := fun o h => Nat.lt_irrefl _ h
  refine bodyPost_ret (v := .agg #[.string n, .int .i64 l, .bool kp, .bool fl]) ?_ rfl ⟨rfl, (((KK.setCell (p := ⟨w.heap.size, 0, none⟩) (nl 0) _).setCell (p := ⟨w.heap.size, 1, none⟩) (nl 1) _).setCell (p := ⟨w.heap.size, 2, none⟩) (nl 2) _).setCell (p := ⟨w.heap.size, 3, none⟩) (nl 3) _⟩
  rw [results_cell1t rfl]
  go_simp
theorem kindOf3 (w : World) (p : Int) : Calls Tryz.prog 213 #[.agg #[.int .i64 p]] w fun e w' => e = .returned (.int .i64 3) ∧ Keeps (fun _ => False) w w' := by
  go_enter Tryz.func213, Tryz.ntmps213
  go_wp2
  go_ret
  exact ⟨rfl, by first | exact (Keeps.refl _ w).alloc _ | exact Keeps.refl _ w⟩
set_option maxHeartbeats 1600000 in
set_option maxRecDepth 1000000 in
theorem trait3 {w : World} {mb : Nat} {p : Int} (hm : w.cell? ⟨mb, 0, none⟩ = some (.iface 188 (.agg #[.int .i64 p]))) (hT : TR w) :
    Calls Tryz.prog 41 #[.pointer (some ⟨mb, 0, none⟩)] w fun e w' => e = .returned (.agg #[.string (nmT 3), .int .i64 (lkT 3), .bool (kpT 3), .bool (flT 3)]) ∧ Keeps (fun _ => False) w w' := by
  obtain ⟨w0, hw0⟩ : ∃ w0, w0 = w.alloc (.cells #[.string ⟨#[]⟩, .int .i64 0, .bool false, .bool false] 97) := ⟨_, rfl⟩
  have K0 : Keeps (fun _ => False) w w0 := by rw [hw0]; exact (Keeps.refl _ w).alloc _
  have m0 := K0.cell hm id
  have hi := isNone_no m0
  have hme : ∀ w : World, (method 361 188 (.agg #[.int .i64 p]) "braid/cm.kind").run Tryz.prog w = .ok (213, .agg #[.int .i64 p]) w := fun _ => by kernel_rfl
  have b0 : w0.cell? ⟨w.heap.size, 0, none⟩ = some (.string ⟨#[]⟩) := by rw [hw0]; simp
  have b1 : w0.cell? ⟨w.heap.size, 1, none⟩ = some (.int .i64 0) := by rw [hw0]; simp
  have b2 : w0.cell? ⟨w.heap.size, 2, none⟩ = some (.bool false) := by rw [hw0]; simp
  have b3 : w0.cell? ⟨w.heap.size, 3, none⟩ = some (.bool false) := by rw [hw0]; simp
  have zz : ∀ o, w0.frozen? ⟨w.heap.size, o, none⟩ = false := by intro o; rw [hw0]; simp
  have hs : w.heap.size < w0.heap.size := World.block_lt_of_cell? _ _ b0
  have hTk : ∀ W, Keeps (fun _ => False) w W → W.cell? ⟨0, 12, none⟩ = some (.string (nmT 3)) ∧ W.cell? ⟨0, 13, none⟩ = some (.int .i64 (lkT 3)) ∧ W.cell? ⟨0, 14, none⟩ = some (.bool (kpT 3)) ∧ W.cell? ⟨0, 15, none⟩ = some (.bool (flT 3)) := fun W kk => (hT.keep kk) 3 (by omega)
  generalize nmT 3 = n at *
  generalize lkT 3 = l at *
  generalize kpT 3 = kp at *
  generalize flT 3 = fl at *
  go_enter Tryz.func41, Tryz.ntmps41
  go_wp2_with fail
  rw [← hw0]
  clear hw0
  refine hi.mono ?_
  clear hi
  rintro e w1 ⟨rfl, rfl⟩
  go_wp2_with fail
  refine (kindOf3 _ _).mono ?_
  rintro e w2 ⟨rfl, k2⟩
  obtain ⟨t0, t1, t2, t3⟩ := hTk _ (K0.trans k2)
  have c0 := k2.cell b0 id
  have c1 := k2.cell b1 id
  have c2 := k2.cell b2 id
  have c3 := k2.cell b3 id
  have z0 := (k2.frozen (p := ⟨w.heap.size, 0, none⟩) hs id).trans (zz 0)
  have z1 := (k2.frozen (p := ⟨w.heap.size, 1, none⟩) hs id).trans (zz 1)
  have z2 := (k2.frozen (p := ⟨w.heap.size, 2, none⟩) hs id).trans (zz 2)
  have z3 := (k2.frozen (p := ⟨w.heap.size, 3, none⟩) hs id).trans (zz 3)
  have KK := K0.trans k2
  clear zz b0 b1 b2 b3 hT m0 K0 k2
  go_wp2_with fail
  have nl : ∀ o, (⟨w.heap.size, o, none⟩ : Addr).block < w.heap.size → False := fun o h => Nat.lt_irrefl _ h
  refine bodyPost_ret (v := .agg #[.string n, .int .i64 l, .bool kp, .bool fl]) ?_ rfl ⟨rfl, (((KK.setCell (p := ⟨w.heap.size, 0, none⟩) (nl 0) _).setCell (p := ⟨w.heap.size, 1, none⟩) (nl 1) _).setCell (p := ⟨w.heap.size, 2, none⟩) (nl 2) _).setCell (p := ⟨w.heap.size, 3, none⟩) (nl 3) _⟩
  rw [results_cell1t rfl]
  go_simp
theorem kindOf4 (w : World) (p : Int) : Calls Tryz.prog 215 #[.agg #[.int .i64 p]] w fun e w' => e = .returned (.int .i64 4) ∧ Keeps (fun _ => False) w w' := by
  go_enter Tryz.func215, Tryz.ntmps215
  go_wp2
  go_ret
  exact ⟨rfl, by first | exact (Keeps.refl _ w).alloc _ | exact Keeps.refl _ w⟩
set_option maxHeartbeats 1600000 in
set_option maxRecDepth 1000000 in
theorem trait4 {w : World} {mb : Nat} {p : Int} (hm : w.cell? ⟨mb, 0, none⟩ = some (.iface 190 (.agg #[.int .i64 p]))) (hT : TR w) :
    Calls Tryz.prog 41 #[.pointer (some ⟨mb, 0, none⟩)] w fun e w' => e = .returned (.agg #[.string (nmT 4), .int .i64 (lkT 4), .bool (kpT 4), .bool (flT 4)]) ∧ Keeps (fun _ => False) w w' := by
  obtain ⟨w0, hw0⟩ : ∃ w0, w0 = w.alloc (.cells #[.string ⟨#[]⟩, .int .i64 0, .bool false, .bool false] 97) := ⟨_, rfl⟩
  have K0 : Keeps (fun _ => False) w w0 := by rw [hw0]; exact (Keeps.refl _ w).alloc _
  have m0 := K0.cell hm id
  have hi := isNone_no m0
  have hme : ∀ w : World, (method 361 190 (.agg #[.int .i64 p]) "braid/cm.kind").run Tryz.prog w = .ok (215, .agg #[.int .i64 p]) w := fun _ => by kernel_rfl
  have b0 : w0.cell? ⟨w.heap.size, 0, none⟩ = some (.string ⟨#[]⟩) := by rw [hw0]; simp
  have b1 : w0.cell? ⟨w.heap.size, 1, none⟩ = some (.int .i64 0) := by rw [hw0]; simp
  have b2 : w0.cell? ⟨w.heap.size, 2, none⟩ = some (.bool false) := by rw [hw0]; simp
  have b3 : w0.cell? ⟨w.heap.size, 3, none⟩ = some (.bool false) := by rw [hw0]; simp
  have zz : ∀ o, w0.frozen? ⟨w.heap.size, o, none⟩ = false := by intro o; rw [hw0]; simp
  have hs : w.heap.size < w0.heap.size := World.block_lt_of_cell? _ _ b0
  have hTk : ∀ W, Keeps (fun _ => False) w W → W.cell? ⟨0, 16, none⟩ = some (.string (nmT 4)) ∧ W.cell? ⟨0, 17, none⟩ = some (.int .i64 (lkT 4)) ∧ W.cell? ⟨0, 18, none⟩ = some (.bool (kpT 4)) ∧ W.cell? ⟨0, 19, none⟩ = some (.bool (flT 4)) := fun W kk => (hT.keep kk) 4 (by omega)
  generalize nmT 4 = n at *
  generalize lkT 4 = l at *
  generalize kpT 4 = kp at *
  generalize flT 4 = fl at *
  go_enter Tryz.func41, Tryz.ntmps41
  go_wp2_with fail
  rw [← hw0]
  clear hw0
  refine hi.mono ?_
  clear hi
  rintro e w1 ⟨rfl, rfl⟩
  go_wp2_with fail
  refine (kindOf4 _ _).mono ?_
  rintro e w2 ⟨rfl, k2⟩
  obtain ⟨t0, t1, t2, t3⟩ := hTk _ (K0.trans k2)
  have c0 := k2.cell b0 id
  have c1 := k2.cell b1 id
  have c2 := k2.cell b2 id
  have c3 := k2.cell b3 id
  have z0 := (k2.frozen (p := ⟨w.heap.size, 0, none⟩) hs id).trans (zz 0)
  have z1 := (k2.frozen (p := ⟨w.heap.size, 1, none⟩) hs id).trans (zz 1)
  have z2 := (k2.frozen (p := ⟨w.heap.size, 2, none⟩) hs id).trans (zz 2)
  have z3 := (k2.frozen (p := ⟨w.heap.size, 3, none⟩) hs id).trans (zz 3)
  have KK := K0.trans k2
  clear zz b0 b1 b2 b3 hT m0 K0 k2
  go_wp2_with fail
  have nl : ∀ o, (⟨w.heap.size, o, none⟩ : Addr).block < w.heap.size → False := fun o h => Nat.lt_irrefl _ h
  refine bodyPost_ret (v := .agg #[.string n, .int .i64 l, .bool kp, .bool fl]) ?_ rfl ⟨rfl, (((KK.setCell (p := ⟨w.heap.size, 0, none⟩) (nl 0) _).setCell (p := ⟨w.heap.size, 1, none⟩) (nl 1) _).setCell (p := ⟨w.heap.size, 2, none⟩) (nl 2) _).setCell (p := ⟨w.heap.size, 3, none⟩) (nl 3) _⟩
  rw [results_cell1t rfl]
  go_simp
theorem trait_any {w : World} {mb k : Nat} {p : Int} (h : Mg w mb k p) (hT : TR w) : Calls Tryz.prog 41 #[.pointer (some ⟨mb, 0, none⟩)] w fun e w' => e = .returned (.agg #[.string (nmT k), .int .i64 (lkT k), .bool (kpT k), .bool (flT k)]) ∧ Keeps (fun _ => False) w w' := by
  obtain ⟨hk, _, hm⟩ := h
  match k, hk with
  | 0, _ => exact trait0 hm hT
  | 1, _ => exact trait1 hm hT
  | 2, _ => exact trait2 hm hT
  | 3, _ => exact trait3 hm hT
  | 4, _ => exact trait4 hm hT
theorem mLook {w : World} {mb k : Nat} {p : Int} (h : Mg w mb k p) (hT : TR w) : Calls Tryz.prog 173 #[.pointer (some ⟨mb, 0, none⟩)] w fun e w' => e = .returned (.int .i64 (lkT k)) ∧ Keeps (fun _ => False) w w' := by
  have hi := trait_any h hT
  generalize nmT k = n at *
  generalize lkT k = l at *
  generalize kpT k = a at *
  generalize flT k = c at *
  have hfld : ∀ w' : World, (Instr.field 97 (.agg #[.string n, .int .i64 l, .bool a, .bool c]) 1).run Tryz.prog w' = .ok (.int .i64 l) w' := fun _ => by kernel_rfl
  go_enter Tryz.func173, Tryz.ntmps173
  go_wp2_with (go_at_call 41; refine hi.mono ?_; rintro e w1 ⟨rfl, k1⟩)
  go_ret
  exact ⟨rfl, k1⟩
theorem mKeeps {w : World} {mb k : Nat} {p : Int} (h : Mg w mb k p) (hT : TR w) : Calls Tryz.prog 18 #[.pointer (some ⟨mb, 0, none⟩)] w fun e w' => e = .returned (.bool (kpT k)) ∧ Keeps (fun _ => False) w w' := by
  have hi := trait_any h hT
  generalize nmT k = n at *
  generalize lkT k = l at *
  generalize kpT k = a at *
  generalize flT k = c at *
  have hfld : ∀ w' : World, (Instr.field 97 (.agg #[.string n, .int .i64 l, .bool a, .bool c]) 2).run Tryz.prog w' = .ok (.bool a) w' := fun _ => by kernel_rfl
  go_enter Tryz.func18, Tryz.ntmps18
  go_wp2_with (go_at_call 41; refine hi.mono ?_; rintro e w1 ⟨rfl, k1⟩)
  go_ret
  exact ⟨rfl, k1⟩
theorem mFlags {w : World} {mb k : Nat} {p : Int} (h : Mg w mb k p) (hT : TR w) : Calls Tryz.prog 177 #[.pointer (some ⟨mb, 0, none⟩)] w fun e w' => e = .returned (.bool (flT k)) ∧ Keeps (fun _ => False) w w' := by
  have hi := trait_any h hT
  generalize nmT k = n at *
  generalize lkT k = l at *
  generalize kpT k = a at *
  generalize flT k = c at *
  have hfld : ∀ w' : World, (Instr.field 97 (.agg #[.string n, .int .i64 l, .bool a, .bool c]) 3).run Tryz.prog w' = .ok (.bool c) w' := fun _ => by kernel_rfl
  go_enter Tryz.func177, Tryz.ntmps177
  go_wp2_with (go_at_call 41; refine hi.mono ?_; rintro e w1 ⟨rfl, k1⟩)
  go_ret
  exact ⟨rfl, k1⟩
end Go.Proofs.YtgjndhbfjofkeaaGreatDoor

namespace Go.Proofs.YtgjndhbfjofkeaaGreatDoor
open Go.RowKit
section
variable {w w' : World} {ρ ρ' : Nat → Nat} {u j wb mb : Nat} {s s' : Ws} {m m' : Mm}
theorem sadda (h : St w ρ u j wb mb s m) (hn : s.atts.length ≤ 70000) (x : At) :
    Calls Tryz.prog 94 #[.pointer (some ⟨wb, 2, none⟩), .agg #[.int .i64 x.thread, .int .i64 x.stamp, .int .i64 x.prio, .int .i64 (x.status : Int), .int .i64 (x.flag : Int)]] w fun e w' =>
      e = .returned (.int .i64 (s.atts.length : Int)) ∧ ∃ ρ', St w' ρ' u j wb mb { s with atts := s.atts ++ [x] } m ∧ Ext (Sr u j) w w' ρ ρ' := by
  obtain ⟨vo, va, vl, vn, hw⟩ := h.wj
  refine (addA hw.pa (hw.z 2 (by omega)) (by rw [hw.role]; omega) hn x).mono ?_
  rintro e w' ⟨rfl, v', ρ', p, a⟩
  exact ⟨rfl, ρ', h.own ⟨_, _, _, _, hw.addA a p⟩ (a.ext' hw.role (by omega)) a.bnd⟩
theorem saddl (h : St w ρ u j wb mb s m) (hn : s.locs.length ≤ 70000) (x : Lo) :
    Calls Tryz.prog 96 #[.pointer (some ⟨wb, 3, none⟩), .agg #[.int .i64 (x.owner : Int), .int .i64 (x.old : Int), .int .i64 (x.new : Int), .bool x.used]] w fun e w' =>
      e = .returned (.int .i64 (s.locs.length : Int)) ∧ ∃ ρ', St w' ρ' u j wb mb { s with locs := s.locs ++ [x] } m ∧ Ext (Sr u j) w w' ρ ρ' := by
  obtain ⟨vo, va, vl, vn, hw⟩ := h.wj
  refine (addL hw.pl (hw.z 3 (by omega)) (by rw [hw.role]; omega) hn x).mono ?_
  rintro e w' ⟨rfl, v', ρ', p, a⟩
  exact ⟨rfl, ρ', h.own ⟨_, _, _, _, hw.addL a p⟩ (a.ext' hw.role (by omega)) a.bnd⟩
theorem saddv (h : St w ρ u j wb mb s m) (hn : s.vals.length ≤ 70000) (x : Vl) :
    Calls Tryz.prog 95 #[.pointer (some ⟨wb, 4, none⟩), .agg #[.int .i64 x.num, .int .i64 x.next, .bool x.dead]] w fun e w' =>
      e = .returned (.int .i64 (s.vals.length : Int)) ∧ ∃ ρ', St w' ρ' u j wb mb { s with vals := s.vals ++ [x] } m ∧ Ext (Sr u j) w w' ρ ρ' := by
  obtain ⟨vo, va, vl, vn, hw⟩ := h.wj
  refine (addV hw.pv (hw.z 4 (by omega)) (by rw [hw.role]; omega) hn x).mono ?_
  rintro e w' ⟨rfl, v', ρ', p, a⟩
  exact ⟨rfl, ρ', h.own ⟨_, _, _, _, hw.addV a p⟩ (a.ext' hw.role (by omega)) a.bnd⟩
theorem saddo (h : St w ρ u j wb mb s m) (hn : s.objs.length ≤ 70000) (x : Nat) :
    Calls Tryz.prog 74 #[.pointer (some ⟨wb, 1, none⟩), .int .i64 (x : Int)] w fun e w' =>
      e = .returned (.int .i64 (s.objs.length : Int)) ∧ ∃ ρ', St w' ρ' u j wb mb { s with objs := s.objs ++ [x] } m ∧ Ext (Sr u j) w w' ρ ρ' := by
  obtain ⟨vo, va, vl, vn, hw⟩ := h.wj
  refine (addO hw.po (hw.z 1 (by omega)) (by rw [hw.role]; omega) hn x).mono ?_
  rintro e w' ⟨rfl, v', ρ', p, a⟩
  exact ⟨rfl, ρ', h.own ⟨_, _, _, _, hw.addO a p⟩ (a.ext' hw.role (by omega)) a.bnd⟩
def Ws.lay (s : Ws) (att old : Nat) (v : Vl) : Ws := { s with locs := s.locs ++ [⟨att, old, s.vals.length, false⟩], vals := s.vals ++ [v] }
def Ws.beg (s : Ws) (th st pr : Int) (c : Nat) : Ws := { s with atts := s.atts ++ [⟨th, st, pr, c, c + 1⟩] }
theorem Ext.wr {S : Nat → Prop} {w w' w'' : World} {ρ ρ' : Nat → Nat} {B : Nat} (x : Ext S w w' ρ ρ') (k : Keeps (fun i => i = B) w' w'') (hB : w.heap.size ≤ B) : Ext S w w'' ρ ρ' :=
  ⟨x.keeps.trans' k (fun _ _ e => e) (fun i hi e => by omega), x.old, x.new⟩
structure B5 (w : World) (ρ : Nat → Nat) (B : Nat) (a b c d e : Value) : Prop where
  r : ρ B = 0
  c0 : w.cell? ⟨B, 0, none⟩ = some a
  c1 : w.cell? ⟨B, 1, none⟩ = some b
  c2 : w.cell? ⟨B, 2, none⟩ = some c
  c3 : w.cell? ⟨B, 3, none⟩ = some d
  c4 : w.cell? ⟨B, 4, none⟩ = some e
  z : ∀ o, w.frozen? ⟨B, o, none⟩ = false
theorem B5.lt {B : Nat} {a b c d e : Value} (h : B5 w ρ B a b c d e) : B < w.heap.size := World.block_lt_of_cell? _ _ h.c0
theorem B5.ext {S : Nat → Prop} {B : Nat} {a b c d e : Value} (h : B5 w ρ B a b c d e) (x : Ext S w w' ρ ρ') (hS : ¬ S 0) : B5 w' ρ' B a b c d e :=
  have n : ¬ S (ρ B) := by rw [h.r]; exact hS
  ⟨(x.old B h.lt).trans h.r, x.cell h.c0 n, x.cell h.c1 n, x.cell h.c2 n, x.cell h.c3 n, x.cell h.c4 n, fun o => (x.keeps.frozen (p := ⟨B, o, none⟩) h.lt n).trans (h.z o)⟩
theorem B5.set3 {B : Nat} {a b c d e : Value} (h : B5 w ρ B a b c d e) (v : Value) : B5 (w.setCell ⟨B, 3, none⟩ v) ρ B a b c v e := by
  have o : ∀ k u, k ≠ 3 → w.cell? ⟨B, k, none⟩ = some u → (w.setCell ⟨B, 3, none⟩ v).cell? ⟨B, k, none⟩ = some u := fun k u hk hu => by
    rw [World.cell?_setCell_other _ _ _ _ (fun e => by cases e; exact hk rfl)]; exact hu
  exact ⟨h.r, o _ _ (by decide) h.c0, o _ _ (by decide) h.c1, o _ _ (by decide) h.c2, World.cell?_setCell_same _ _ _ h.c3, o _ _ (by decide) h.c4, fun k => by rw [World.frozen?_setCell]; exact h.z k⟩
theorem B5.set4 {B : Nat} {a b c d e : Value} (h : B5 w ρ B a b c d e) (v : Value) : B5 (w.setCell ⟨B, 4, none⟩ v) ρ B a b c d v := by
  have o : ∀ k u, k ≠ 4 → w.cell? ⟨B, k, none⟩ = some u → (w.setCell ⟨B, 4, none⟩ v).cell? ⟨B, k, none⟩ = some u := fun k u hk hu => by
    rw [World.cell?_setCell_other _ _ _ _ (fun e => by cases e; exact hk rfl)]; exact hu
  exact ⟨h.r, o _ _ (by decide) h.c0, o _ _ (by decide) h.c1, o _ _ (by decide) h.c2, o _ _ (by decide) h.c3, World.cell?_setCell_same _ _ _ h.c4, fun k => by rw [World.frozen?_setCell]; exact h.z k⟩
set_option maxHeartbeats 1600000 in
set_option maxRecDepth 1000000 in
theorem begin_att (h : St w ρ u j wb mb s m) (hn : s.atts.length ≤ 70000) (hl : m.cells.length + 2 ≤ 65536) (th st pr x y sv : Int) :
    Calls Tryz.prog 71 #[.pointer (some ⟨wb, 0, none⟩), .agg #[.int .i64 th, .int .i64 st, .int .i64 pr, .int .i64 x, .int .i64 y], .int .i64 sv] w fun e w' =>
      e = .returned (.int .i64 (s.atts.length : Int)) ∧ ∃ ρ', St w' ρ' u j wb mb (s.beg th st pr m.cells.length) ((m.make sv).make 0) ∧ Ext (Sr u j) w w' ρ ρ' := by
  obtain ⟨w0, hw0⟩ : ∃ w0, w0 = w.alloc (.cells #[.int .i64 th, .int .i64 st, .int .i64 pr, .int .i64 x, .int .i64 y] 85) := ⟨_, rfl⟩
  have K0 : Keeps (fun _ => False) w w0 := by rw [hw0]; exact (Keeps.refl _ w).alloc _
  obtain ⟨h0, x0⟩ := h.new K0
  have nS := Sr.not0 h
  have b0 : B5 w0 ρ w.heap.size (.int .i64 th) (.int .i64 st) (.int .i64 pr) (.int .i64 x) (.int .i64 y) := by
    refine ⟨h.bnd _ (Nat.le_refl _), ?_, ?_, ?_, ?_, ?_, fun o => ?_⟩ <;> rw [hw0] <;> simp
  have hc1 := cell_any h0 sv (by omega)
  have n0 : w.heap.size = w.heap.size := rfl
  generalize hB : w.heap.size = B at b0 n0
  clear h K0
  go_enter Tryz.func71, Tryz.ntmps71
  go_wp2_with fail
  rw [← hw0]
  clear hw0
  refine hc1.mono ?_
  clear hc1
  rintro e w1 ⟨rfl, ρ1, h1, x1⟩
  have b1 := b0.ext x1 nS
  obtain ⟨w2, hw2⟩ : ∃ w2, w2 = w1.setCell ⟨B, 3, none⟩ (.int .i64 (m.cells.length : Int)) := ⟨_, rfl⟩
  have b2 := b1.set3 (.int .i64 (m.cells.length : Int))
  have k2 := keeps_set w1 B 3 (.int .i64 (m.cells.length : Int))
  rw [← hw2] at b2 k2
  have h2 := h1.wr k2 b1.r
  have f3 := b1.c3
  have z3 := b1.z 3
  have hc2 := cell_any h2 0 (by simp [Mm.make]; omega)
  have eq1 : ((m.make sv).cells.length : Int) = (m.cells.length : Int) + 1 := by simp [Mm.make]
  rw [eq1] at hc2
  clear h1 b0
  subst hB
  go_wp2_with fail
  rw [← hw2]
  clear hw2 f3 z3
  refine hc2.mono ?_
  clear hc2
  rintro e w3 ⟨rfl, ρ3, h3, x3⟩
  have b3 := b2.ext x3 nS
  obtain ⟨w4, hw4⟩ : ∃ w4, w4 = w3.setCell ⟨w.heap.size, 4, none⟩ (.int .i64 ((m.cells.length : Int) + 1)) := ⟨_, rfl⟩
  have b4 := b3.set4 (.int .i64 ((m.cells.length : Int) + 1))
  have k4 := keeps_set w3 w.heap.size 4 (.int .i64 ((m.cells.length : Int) + 1))
  rw [← hw4] at b4 k4
  have h4 := h3.wr k4 b3.r
  have f4 := b3.c4
  have z4 := b3.z 4
  have hadd := fun (W : World) (k : Keeps (fun _ => False) w4 W) => sadda (h4.new k).1 hn ⟨th, st, pr, m.cells.length, m.cells.length + 1⟩
  have eq2 : ((m.cells.length + 1 : Nat) : Int) = (m.cells.length : Int) + 1 := by omega
  simp only [eq2] at hadd
  have KD : Keeps (fun _ => False) w4 w4.drew := (Keeps.refl _ w4).drew
  have xx : Ext (Sr u j) w w4 ρ ρ3 := ((((x0.trans x1).wr k2 (Nat.le_refl _)).trans x3).wr k4 (Nat.le_refl _))
  go_wp2_with fail
  rw [← hw4]
  clear hw4 f4 z4
  have d0 := b4.c0
  have d1 := b4.c1
  have d2 := b4.c2
  have d3 := b4.c3
  have d4 := b4.c4
  go_region_with (go_at_call 94; refine (hadd _ KD).mono ?_; rintro e w5 ⟨rfl, ρ5, h5, x5⟩)
  all_goals
    (try simp only [Exit.then])
    go_wp2_with fail
    go_ret
    exact ⟨rfl, ρ5, h5, (xx.trans (h4.new KD).2).trans x5⟩
set_option maxHeartbeats 1600000 in
set_option maxRecDepth 1000000 in
theorem lay_any (h : St w ρ u j wb mb s m) (hn : s.locs.length ≤ 70000) (hn' : s.vals.length ≤ 70000) (att old : Nat) (v : Vl) :
    Calls Tryz.prog 72 #[.pointer (some ⟨wb, 0, none⟩), .int .i64 (att : Int), .int .i64 (old : Int), .agg #[.int .i64 v.num, .int .i64 v.next, .bool v.dead]] w fun e w' =>
      e = .returned (.int .i64 (s.locs.length : Int)) ∧ ∃ ρ', St w' ρ' u j wb mb (s.lay att old v) m ∧ Ext (Sr u j) w w' ρ ρ' := by
  obtain ⟨w0, hw0⟩ : ∃ w0, w0 = w.alloc (.cells #[.int .i64 v.num, .int .i64 v.next, .bool v.dead] 34) := ⟨_, rfl⟩
  have K0 : Keeps (fun _ => False) w w0 := by rw [hw0]; exact (Keeps.refl _ w).alloc _
  obtain ⟨h0, x0⟩ := h.new K0
  have d0 : w0.cell? ⟨w.heap.size, 0, none⟩ = some (.int .i64 v.num) := by rw [hw0]; simp
  have d1 : w0.cell? ⟨w.heap.size, 1, none⟩ = some (.int .i64 v.next) := by rw [hw0]; simp
  have d2 : w0.cell? ⟨w.heap.size, 2, none⟩ = some (.bool v.dead) := by rw [hw0]; simp
  have KD : Keeps (fun _ => False) w0 w0.drew := (Keeps.refl _ w0).drew
  have hadd := saddv (h0.new KD).1 hn' v
  clear h K0
  go_enter Tryz.func72, Tryz.ntmps72
  go_wp2_with fail
  rw [← hw0]
  clear hw0
  go_region_with (go_at_call 95; refine hadd.mono ?_; rintro e w5 ⟨rfl, ρ5, h5, x5⟩)
  all_goals
    (try simp only [Exit.then])
    have hl := saddl h5 hn ⟨att, old, s.vals.length, false⟩
    have x6 := (x0.trans (h0.new KD).2).trans x5
    clear hadd d0 d1 d2 h0 h5
    go_wp2_with (go_at_call 96; refine hl.mono ?_; clear hl; rintro e w7 ⟨rfl, ρ7, h7, x7⟩)
    go_ret
    exact ⟨rfl, ρ7, h7, x6.trans x7⟩
end
end Go.Proofs.YtgjndhbfjofkeaaGreatDoor

namespace Go.Proofs.YtgjndhbfjofkeaaGreatDoor
open Go.RowKit
theorem weq (wb : Nat) : ∀ w : World, (binOp .eql 42 (.pointer (some ⟨wb, 0, none⟩)) (.pointer none)).run Tryz.prog w = .ok (.bool false) w := fun w => by kernel_rfl
theorem aeq (g o : Nat) : ∀ w : World, (binOp .eql 82 (.pointer (some ⟨g, o, none⟩)) (.pointer none)).run Tryz.prog w = .ok (.bool false) w := fun w => by kernel_rfl
theorem leq (g o : Nat) : ∀ w : World, (binOp .eql 160 (.pointer (some ⟨g, o, none⟩)) (.pointer none)).run Tryz.prog w = .ok (.bool false) w := fun w => by kernel_rfl
theorem veq (g o : Nat) : ∀ w : World, (binOp .eql 219 (.pointer (some ⟨g, o, none⟩)) (.pointer none)).run Tryz.prog w = .ok (.bool false) w := fun w => by kernel_rfl
theorem oeq (g o : Nat) : ∀ w : World, (binOp .eql 225 (.pointer (some ⟨g, o, none⟩)) (.pointer none)).run Tryz.prog w = .ok (.bool false) w := fun w => by kernel_rfl
section
variable {w w' : World} {ρ ρ' : Nat → Nat} {u j wb mb : Nat} {s s' : Ws} {m m' : Mm} {vo va vl vn : Value}
theorem WV.att (h : WV w ρ j wb mb s vo va vl vn) {i : Nat} (hi : i < s.atts.length) : ∃ g, va.ownBlock = some g ∧ ρ g = j + 2 ∧ g < w.heap.size ∧ w.cell? ⟨g, i * 5, none⟩ = some (.int .i64 (s.att i).thread) ∧ w.cell? ⟨g, i * 5 + 1, none⟩ = some (.int .i64 (s.att i).stamp) ∧ w.cell? ⟨g, i * 5 + 2, none⟩ = some (.int .i64 (s.att i).prio) ∧ w.cell? ⟨g, i * 5 + 3, none⟩ = some (.int .i64 ((s.att i).status : Int)) ∧ w.cell? ⟨g, i * 5 + 4, none⟩ = some (.int .i64 ((s.att i).flag : Int)) := by
  obtain ⟨a, cap, _, hs⟩ := h.pa.slice
  obtain ⟨g, _, hg, hr⟩ := hs (by omega)
  have q : ∀ {k : Nat} {v : Value}, (ac (s.att i))[k]? = some v → w.cell? ⟨g, i * 5 + k, none⟩ = some v := fun e => pool_cell ac_len h.pa hg (getD_get (d := at0) hi) e
  exact ⟨g, hg, hr, owns_lt' h.pa.row g hg, q (k := 0) rfl, q (k := 1) rfl, q (k := 2) rfl, q (k := 3) rfl, q (k := 4) rfl⟩
theorem WV.loc (h : WV w ρ j wb mb s vo va vl vn) {i : Nat} (hi : i < s.locs.length) : ∃ g, vl.ownBlock = some g ∧ ρ g = j + 3 ∧ g < w.heap.size ∧ w.cell? ⟨g, i * 4, none⟩ = some (.int .i64 ((s.lo i).owner : Int)) ∧ w.cell? ⟨g, i * 4 + 1, none⟩ = some (.int .i64 ((s.lo i).old : Int)) ∧ w.cell? ⟨g, i * 4 + 2, none⟩ = some (.int .i64 ((s.lo i).new : Int)) ∧ w.cell? ⟨g, i * 4 + 3, none⟩ = some (.bool (s.lo i).used) := by
  obtain ⟨a, cap, _, hs⟩ := h.pl.slice
  obtain ⟨g, _, hg, hr⟩ := hs (by omega)
  have q : ∀ {k : Nat} {v : Value}, (lc (s.lo i))[k]? = some v → w.cell? ⟨g, i * 4 + k, none⟩ = some v := fun e => pool_cell lc_len h.pl hg (getD_get (d := lo0) hi) e
  exact ⟨g, hg, hr, owns_lt' h.pl.row g hg, q (k := 0) rfl, q (k := 1) rfl, q (k := 2) rfl, q (k := 3) rfl⟩
theorem WV.ver (h : WV w ρ j wb mb s vo va vl vn) {i : Nat} (hi : i < s.vals.length) : ∃ g, vn.ownBlock = some g ∧ ρ g = j + 4 ∧ g < w.heap.size ∧ w.cell? ⟨g, i * 3, none⟩ = some (.int .i64 (s.vl i).num) ∧ w.cell? ⟨g, i * 3 + 1, none⟩ = some (.int .i64 (s.vl i).next) ∧ w.cell? ⟨g, i * 3 + 2, none⟩ = some (.bool (s.vl i).dead) := by
  obtain ⟨a, cap, _, hs⟩ := h.pv.slice
  obtain ⟨g, _, hg, hr⟩ := hs (by omega)
  have q : ∀ {k : Nat} {v : Value}, (vc3 (s.vl i))[k]? = some v → w.cell? ⟨g, i * 3 + k, none⟩ = some v := fun e => pool_cell vc3_len h.pv hg (getD_get (d := vl0) hi) e
  exact ⟨g, hg, hr, owns_lt' h.pv.row g hg, q (k := 0) rfl, q (k := 1) rfl, q (k := 2) rfl⟩
theorem WV.obj (h : WV w ρ j wb mb s vo va vl vn) {i : Nat} (hi : i < s.objs.length) : ∃ g, vo.ownBlock = some g ∧ ρ g = j + 1 ∧ g < w.heap.size ∧ w.cell? ⟨g, i * 1, none⟩ = some (.int .i64 (s.ob i : Int)) := by
  obtain ⟨a, cap, _, hs⟩ := h.po.slice
  obtain ⟨g, _, hg, hr⟩ := hs (by omega)
  have q : ∀ {k : Nat} {v : Value}, (oc (s.ob i))[k]? = some v → w.cell? ⟨g, i * 1 + k, none⟩ = some v := fun e => pool_cell oc_len h.po hg (getD_get (d := 0) hi) e
  exact ⟨g, hg, hr, owns_lt' h.po.row g hg, q (k := 0) rfl⟩
set_option maxHeartbeats 800000 in
set_option maxRecDepth 1000000 in
theorem attempt_ok (h : WV w ρ j wb mb s vo va vl vn) {i g : Nat} (hi : i < s.atts.length) (hg : va.ownBlock = some g) :
    Calls Tryz.prog 35 #[.pointer (some ⟨wb, 0, none⟩), .int .i64 (i : Int)] w fun e w' => e = .returned (.pointer (some ⟨g, i * 5, none⟩)) ∧ w = w' := by
  have ha := atA h.pa hi hg
  have hp := weq wb
  clear h
  go_enter Tryz.func35, Tryz.ntmps35
  go_wp2_with (go_at_call 64; refine ha.mono ?_; rintro e w' ⟨rfl, rfl⟩)
  go_ret
  exact ⟨rfl, rfl⟩
set_option maxHeartbeats 800000 in
set_option maxRecDepth 1000000 in
theorem locator_ok (h : WV w ρ j wb mb s vo va vl vn) {i g : Nat} (hi : i < s.locs.length) (hg : vl.ownBlock = some g) :
    Calls Tryz.prog 124 #[.pointer (some ⟨wb, 0, none⟩), .int .i64 (i : Int)] w fun e w' => e = .returned (.pointer (some ⟨g, i * 4, none⟩)) ∧ w = w' := by
  have ha := atL h.pl hi hg
  have hp := weq wb
  clear h
  go_enter Tryz.func124, Tryz.ntmps124
  go_wp2_with (go_at_call 73; refine ha.mono ?_; rintro e w' ⟨rfl, rfl⟩)
  go_ret
  exact ⟨rfl, rfl⟩
def Ws.isC (s : Ws) (m : Mm) (a : Nat) : Bool := decide ((ca m.cells (s.att a).status).2 = 2)
theorem WV.new (h : WV w ρ j wb mb s vo va vl vn) (hb : Bnd w ρ) (k : Keeps (fun _ => False) w w') : WV w' ρ j wb mb s vo va vl vn := h.ext (Ext.alloc (S := fun _ => False) hb k).1 (fun _ _ _ e => e)
set_option maxHeartbeats 1600000 in
set_option maxRecDepth 1000000 in
theorem committed_any (h : St w ρ u j wb mb s m) {i : Nat} (hi : i < s.atts.length) (hc : (s.att i).status < m.cells.length) :
    Calls Tryz.prog 137 #[.pointer (some ⟨wb, 0, none⟩), .int .i64 (i : Int)] w fun e w' => e = .returned (.bool (s.isC m i)) ∧ Keeps (fun _ => False) w w' := by
  obtain ⟨vo, va, vl, vn, hw⟩ := h.wj
  obtain ⟨g, hg, hr, hl, _, _, _, d3, _⟩ := hw.att hi
  have ha : ∀ U : KS w, _ := fun U => atA (hw.new h.bnd U.property).pa hi hg
  have hpk : ∀ U : KS w, _ := fun U => speek (h.new U.property).1 hc
  have d3' := ks_cell d3
  have f0' := ks_cell hw.mem
  have hNE : Nonempty (KS w) := ⟨⟨w, Keeps.refl _ w⟩⟩
  clear h hw d3
  show Calls _ _ _ _ fun e w' => e = .returned (.bool (decide ((ca m.cells (s.att i).status).2 = 2))) ∧ _
  generalize (ca m.cells (s.att i).status).2 = x at *
  go_enter Tryz.func137, Tryz.ntmps137
  go_wp2_with fail
  refine wp_region_ks (by kernel_rfl) (by kernel_rfl) ?_
  repeat (go_big_quiet_step (first | (go_at_call 64; refine (ha _).mono ?_; rintro e w2 ⟨rfl, rfl⟩; exact ⟨rfl, _, rfl⟩) | (go_at_call 17; refine (hpk _).mono ?_; rintro e w2 ⟨rfl, rfl⟩; exact ⟨rfl, _, rfl⟩)))
  refine wpQuiet_nil ?_
  rintro _ ⟨U, rfl⟩
  go_wp2_with fail
  go_ret
  exact ⟨rfl, U.property⟩
end
end Go.Proofs.YtgjndhbfjofkeaaGreatDoor

