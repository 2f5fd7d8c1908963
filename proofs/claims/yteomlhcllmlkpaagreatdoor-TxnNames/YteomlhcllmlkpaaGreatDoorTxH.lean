import Derived.Test.YteomlhcllmlkpaaGreatDoorTxG
namespace Go.Proofs.YteomlhcllmlkpaaGreatDoor
open Go.RowKit
attribute [local go_sem] Oper.semAt_some run_store_nf run_store_f
section
variable {w w' : World} {ρ ρ' ρ'' : Nat → Nat} {u j : Nat} {c : Sc} {ab rb n n' : Nat} {x x' : Tx} {f f' : Int → Option Nat} {s s' : Ws} {m m' : Mm} {r r' : Ro}
set_option maxHeartbeats 800000 in
set_option maxRecDepth 1000000 in
theorem check_no (h : CL w ab (x.cells c ab)) (hb : c.bare) :
    Calls Tryz.prog 103 #[.pointer (some ⟨ab, 0, none⟩), .int .i64 0] w fun e w' => e = .returned (.tuple #[]) ∧ CL w' ab (({ x with nx := some 119 } : Tx).cells c ab) ∧ Keeps (fun k => k = ab) w w' := by
  have hmf : ∀ (fn : Fn) (first cap : Array Value) (w : World), (Instr.makeFunc fn first cap).run Tryz.prog w = .ok (.func fn first cap) w := fun _ _ _ _ => rfl
  have hL := lookent_no h hb 118 119
  go_enter Tryz.func103, Tryz.ntmps103
  go_wp2_with fail
  refine hL.mono ?_
  rintro e w1 ⟨rfl, h1, k1⟩
  go_wp2_with fail
  go_end0
  exact ⟨rfl, h1, k1⟩
set_option maxHeartbeats 800000 in
set_option maxRecDepth 1000000 in
theorem finish_no (h : CL w ab (x.cells c ab)) (hb : c.bare) :
    Calls Tryz.prog 34 #[.pointer (some ⟨ab, 0, none⟩), .int .i64 0] w fun e w' => e = .returned (.tuple #[]) ∧ CL w' ab (({ x with nx := some 61 } : Tx).cells c ab) ∧ Keeps (fun k => k = ab) w w' := by
  have hmf : ∀ (fn : Fn) (first cap : Array Value) (w : World), (Instr.makeFunc fn first cap).run Tryz.prog w = .ok (.func fn first cap) w := fun _ _ _ _ => rfl
  have hL := lookent_no h hb 60 61
  go_enter Tryz.func34, Tryz.ntmps34
  go_wp2_with fail
  refine hL.mono ?_
  rintro e w1 ⟨rfl, h1, k1⟩
  go_wp2_with fail
  go_end0
  exact ⟨rfl, h1, k1⟩
theorem OM.two {w1 w2 w3 : World} {om n ab : Nat} {f : Int → Option Nat} (h : OM w1 om n f) (k : Keeps (fun _ => False) w1 w2) (k2 : Keeps (fun k => k = ab) w2 w3) (hne : om ≠ ab) : OM w3 om n f := (h.keep k (fun e => e)).keep k2 hne
set_option maxHeartbeats 800000 in
set_option maxRecDepth 1000000 in
/-- What was acquired is its own; there is no entry to be looked at. -/
theorem take_free (h : AX w ρ u j c ab x n f s m) (hb : c.bare) (ho : I64 x.object) {v : Nat} (hv : x.made = (v : Int)) (hv2 : v ≤ 9223372036854775807) (hn : n < 9223372036854775807) {N : Nat} (hN : (if (f x.object).isSome = true then n else n + 1) = N) :
    Calls Tryz.prog 83 #[.pointer (some ⟨ab, 0, none⟩)] w fun e w' => e = .returned (.tuple #[]) ∧ CL w' ab (({ x with nx := some 119 } : Tx).cells c ab) ∧ OM w' c.om N (upd f x.object (some v)) ∧ Keeps (fun k => k = ab ∨ k = c.om) w w' := by
  have hD := h.new (Keeps.refl _ w).drew
  obtain ⟨w1, hput, hom, k1⟩ := hD.om.put ho hv2 hn
  rw [← hv] at hput
  rw [hN] at hom
  clear hN
  have hc := hD.cl
  have f14 := hc.c 14 _ rfl
  have f17 := hc.c 17 _ rfl
  have f19 := hc.c 19 _ rfl
  have h1 := hc.keep (by show 0 < 36; decide) k1 (fun e => h.ne e.symm)
  have g14 := h1.c 14 _ rfl
  have g17 := h1.c 17 _ rfl
  have g19 := h1.c 19 _ rfl
  have k1' : Keeps (fun k => k = c.om) w w1 := ⟨k1.os, k1.tape, k1.output, k1.size, k1.block⟩
  have hF := fun (W : World) (hW : CL W ab (x.cells c ab)) => tup_no hW hb ho
  clear hv hc
  go_enter Tryz.func83, Tryz.ntmps83
  go_wp2_with fail
  go_region_held3 (fun w' => w'.cell? ⟨ab, 14, none⟩ = some (.map (some c.om)) ∧ w'.cell? ⟨ab, 17, none⟩ = some (.int .i64 x.object) ∧ w'.cell? ⟨ab, 19, none⟩ = some (.int .i64 x.made)) (go_keep) (fail)
  have hEa : CL (w1.alloc (.cells #[.int .i64 0, .int .i64 0, .int .i64 0] 70)).drew w1.heap.size [.int .i64 0, .int .i64 0, .int .i64 0] := (CL.made w1 [.int .i64 0, .int .i64 0, .int .i64 0] _).drew
  have hXa : CL (w1.alloc (.cells #[.int .i64 0, .int .i64 0, .int .i64 0] 70)).drew ab (x.cells c ab) := (h1.alloc (by show 0 < 36; decide) _).drew
  have hFa := hF _ hXa
  have hFb := hF _ h1.drew
  have ka : Keeps (fun _ => False) w1 (w1.alloc (.cells #[.int .i64 0, .int .i64 0, .int .i64 0] 70)).drew := ((Keeps.refl _ w1).alloc _).drew
  have lta : ab < w1.heap.size := h1.lt (by show 0 < 36; decide)
  have na : ¬ ab = w1.heap.size := by omega
  have na2 : ¬ w1.heap.size = ab := by omega
  clear hF hput f14 f17 f19 hD k1
  go_wp2_with fail
  go_region_held3 (fun w' => w'.cell? ⟨ab, 17, none⟩ = some (.int .i64 x.object)) (go_keep) (first | (go_at_call 102; (with_reducible refine hFa.mono ?_); rintro e w2 ⟨rfl, k2⟩; have h2 := hXa.keep (by show 0 < 36; decide) k2 (fun e => e); have q17 := h2.c 17 _ rfl; have e2 := hEa.keep (by show 0 < 3; decide) k2 (fun e => e); have K2 := ka.trans k2; have e20 := e2.c 0 _ rfl; have e21 := e2.c 1 _ rfl; have e22 := e2.c 2 _ rfl; have ze20 := e2.z 0 (by show 0 < 3; decide); have ze21 := e2.z 1 (by show 1 < 3; decide); have ze22 := e2.z 2 (by show 2 < 3; decide)) | (go_at_call 102; (with_reducible refine hFb.mono ?_); rintro e w2 ⟨rfl, k2⟩; have h2 := h1.drew.keep (by show 0 < 36; decide) k2 (fun e => e); have q17 := h2.c 17 _ rfl; have K2 := (Keeps.refl (fun _ => False) w1).drew.trans k2))
  · have hX := h2.alloc (by show 0 < 36; decide) (.cells #[.int .i64 0, .int .i64 0, .int .i64 0] 70)
    have KX := K2.alloc (.cells #[.int .i64 0, .int .i64 0, .int .i64 0] 70)
    clear g14 g17 g19 q17 hEa hXa hFa hFb ka h2 k2 K2
    generalize w2.alloc (.cells #[.int .i64 0, .int .i64 0, .int .i64 0] 70) = w3 at *
    have hX3 := check_no hX hb
    clear hX
    go_wp2_with fail
    refine hX3.mono ?_
    rintro e w4 ⟨rfl, h4, k4⟩
    go_wp2_with fail
    go_end0
    refine ⟨rfl, h4, hom.two KX k4 h.ne, ((k1'.mono (fun _ _ e => .inr e)).trans (KX.mono (fun _ _ e => e.elim))).trans (k4.mono (fun _ _ e => .inl e))⟩
  · have hX := ((h2.other (p := ⟨w1.heap.size, 0, none⟩) na2 (.int .i64 0)).other (p := ⟨w1.heap.size, 1, none⟩) na2 (.int .i64 0)).other (p := ⟨w1.heap.size, 2, none⟩) na2 (.int .i64 0)
    have KX : Keeps (fun _ => False) w1 (((w2.setCell ⟨w1.heap.size, 0, none⟩ (.int .i64 0)).setCell ⟨w1.heap.size, 1, none⟩ (.int .i64 0)).setCell ⟨w1.heap.size, 2, none⟩ (.int .i64 0)) := ((K2.setCell (fun e => absurd e (Nat.lt_irrefl _)) _).setCell (fun e => absurd e (Nat.lt_irrefl _)) _).setCell (fun e => absurd e (Nat.lt_irrefl _)) _
    clear g14 g17 g19 q17 hEa hXa hFa hFb ka h2 k2 K2 e2 e20 e21 e22 ze20 ze21 ze22
    generalize ((w2.setCell ⟨w1.heap.size, 0, none⟩ (.int .i64 0)).setCell ⟨w1.heap.size, 1, none⟩ (.int .i64 0)).setCell ⟨w1.heap.size, 2, none⟩ (.int .i64 0) = w3 at *
    have hX3 := check_no hX hb
    clear hX
    go_wp2_with fail
    refine hX3.mono ?_
    rintro e w4 ⟨rfl, h4, k4⟩
    go_wp2_with fail
    go_end0
    refine ⟨rfl, h4, hom.two KX k4 h.ne, ((k1'.mono (fun _ _ e => .inr e)).trans (KX.mono (fun _ _ e => e.elim))).trans (k4.mono (fun _ _ e => .inl e))⟩
end
end Go.Proofs.YteomlhcllmlkpaaGreatDoor
