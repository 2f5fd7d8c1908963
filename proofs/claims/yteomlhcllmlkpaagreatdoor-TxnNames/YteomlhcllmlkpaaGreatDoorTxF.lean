import Derived.Test.YteomlhcllmlkpaaGreatDoorTxD
import Derived.Laws.ResultCell
namespace Go.Proofs.YteomlhcllmlkpaaGreatDoor
open Go.RowKit
attribute [local go_sem] Oper.semAt_some run_store_nf run_store_f
section
variable {w w' : World} {ρ ρ' ρ'' : Nat → Nat} {u j : Nat} {c : Sc} {ab rb n n' : Nat} {x x' : Tx} {f f' : Int → Option Nat} {s s' : Ws} {m m' : Mm} {r r' : Ro}
/-- A table without an entry. -/
def Sc.bare (c : Sc) : Prop := c.ve = .slice none 0 0 ∧ c.vm = none ∧ c.vf = .slice none 0 0
set_option maxHeartbeats 800000 in
set_option maxRecDepth 1000000 in
theorem tfind_no (h : CL w ab (x.cells c ab)) (hb : c.bare) {o : Int} (ho : I64 o) :
    Calls Tryz.prog 50 #[.pointer (some ⟨ab, 11, none⟩), .int .i64 o] w fun e w' => e = .returned (.tuple #[.agg #[.int .i64 0, .int .i64 0, .int .i64 0], .int .i64 71]) ∧ Keeps (fun _ => False) w w' := by
  have K0 : Keeps (fun _ => False) w (w.alloc (.cells #[.int .i64 0, .int .i64 0, .int .i64 0] 70)) := (Keeps.refl _ w).alloc _
  have h0 := h.keep (by show 0 < 36; decide) K0 (fun e => e)
  have f12 := h0.c 12 _ rfl
  rw [hb.2.1] at f12
  have hl := look_nil (w := w.alloc (.cells #[.int .i64 0, .int .i64 0, .int .i64 0] 70)) ho
  clear h h0 hb
  go_enter Tryz.func50, Tryz.ntmps50
  go_wp2
  (try simp only [Exit.inBlock, Exit.then])
  refine bodyPost_ret (v := .tuple #[.agg #[.int .i64 0, .int .i64 0, .int .i64 0], .int .i64 71]) ?_ rfl ⟨rfl, ?_⟩
  · rw [results_cell_tmp rfl]
    go_simp
  · first | exact K0 | exact K0.trans' (keeps_set3 _ w.heap.size _ _ _) (fun _ _ e => e) (fun i hi e => by omega)
set_option maxHeartbeats 800000 in
set_option maxRecDepth 1000000 in
theorem tat_no (h : CL w ab (x.cells c ab)) (hb : c.bare) :
    Calls Tryz.prog 87 #[.pointer (some ⟨ab, 11, none⟩), .int .i64 0] w fun e w' => e = .returned (.tuple #[.agg #[.int .i64 0, .int .i64 0, .int .i64 0], .int .i64 72]) ∧ Keeps (fun _ => False) w w' := by
  have K0 : Keeps (fun _ => False) w (w.alloc (.cells #[.int .i64 0, .int .i64 0, .int .i64 0] 70)) := (Keeps.refl _ w).alloc _
  have h0 := h.keep (by show 0 < 36; decide) K0 (fun e => e)
  have f11 := h0.c 11 _ rfl
  rw [hb.1] at f11
  clear h h0 hb
  go_enter Tryz.func87, Tryz.ntmps87
  go_wp2
  (try simp only [Exit.inBlock, Exit.then])
  refine bodyPost_ret (v := .tuple #[.agg #[.int .i64 0, .int .i64 0, .int .i64 0], .int .i64 72]) ?_ rfl ⟨rfl, ?_⟩
  · rw [results_cell_tmp rfl]
    go_simp
  · first | exact K0 | exact K0.trans' (keeps_set3 _ w.heap.size _ _ _) (fun _ _ e => e) (fun i hi e => by omega)
set_option maxHeartbeats 800000 in
set_option maxRecDepth 1000000 in
theorem ttake_no (h : CL w ab (x.cells c ab)) (hb : c.bare) {o : Int} (ho : I64 o) (ft : Int) :
    Calls Tryz.prog 117 #[.pointer (some ⟨ab, 11, none⟩), .int .i64 o, .int .i64 ft] w fun e w' => e = .returned (.tuple #[.agg #[.int .i64 0, .int .i64 0, .int .i64 0], .int .i64 71]) ∧ Keeps (fun _ => False) w w' := by
  have K0 : Keeps (fun _ => False) w (w.alloc (.cells #[.int .i64 0, .int .i64 0, .int .i64 0] 70)) := (Keeps.refl _ w).alloc _
  have h0 := h.keep (by show 0 < 36; decide) K0 (fun e => e)
  have f12 := h0.c 12 _ rfl
  rw [hb.2.1] at f12
  have hl := look_nil (w := w.alloc (.cells #[.int .i64 0, .int .i64 0, .int .i64 0] 70)) ho
  clear h h0 hb
  go_enter Tryz.func117, Tryz.ntmps117
  go_wp2
  (try simp only [Exit.inBlock, Exit.then])
  refine bodyPost_ret (v := .tuple #[.agg #[.int .i64 0, .int .i64 0, .int .i64 0], .int .i64 71]) ?_ rfl ⟨rfl, ?_⟩
  · rw [results_cell_tmp rfl]
    go_simp
  · first | exact K0 | exact K0.trans' (keeps_set3 _ w.heap.size _ _ _) (fun _ _ e => e) (fun i hi e => by omega)
set_option maxHeartbeats 800000 in
set_option maxRecDepth 1000000 in
theorem tup_no (h : CL w ab (x.cells c ab)) (hb : c.bare) {o : Int} (ho : I64 o) :
    Calls Tryz.prog 102 #[.pointer (some ⟨ab, 11, none⟩), .int .i64 o] w fun e w' => e = .returned (.tuple #[.agg #[.int .i64 0, .int .i64 0, .int .i64 0], .int .i64 71]) ∧ Keeps (fun _ => False) w w' := by
  obtain ⟨w0, hw0⟩ : ∃ w0, w0 = w.alloc (.cells #[.int .i64 0, .int .i64 0, .int .i64 0] 70) := ⟨_, rfl⟩
  have K0 : Keeps (fun _ => False) w w0 := by rw [hw0]; exact (Keeps.refl _ w).alloc _
  have h0 := h.keep (by show 0 < 36; decide) K0 (fun e => e)
  have hb0 : CL w0 w.heap.size [.int .i64 0, .int .i64 0, .int .i64 0] := by rw [hw0]; exact CL.made w [.int .i64 0, .int .i64 0, .int .i64 0] _
  have ht := ttake_no h0 hb ho 3
  clear h h0 hb
  go_enter Tryz.func102, Tryz.ntmps102
  go_wp2_with fail
  rw [← hw0]
  clear hw0
  refine ht.mono ?_
  rintro e w1 ⟨rfl, k1⟩
  have hb1 := hb0.keep (by show 0 < 3; decide) k1 (fun e => e)
  have b0 := hb1.c 0 _ rfl
  have b1 := hb1.c 1 _ rfl
  have b2 := hb1.c 2 _ rfl
  have z0 := hb1.z 0 (by show 0 < 3; decide)
  have z1 := hb1.z 1 (by show 1 < 3; decide)
  have z2 := hb1.z 2 (by show 2 < 3; decide)
  go_wp2_with fail
  refine bodyPost_ret (v := .tuple #[.agg #[.int .i64 0, .int .i64 0, .int .i64 0], .int .i64 71]) ?_ rfl ⟨rfl, ?_⟩
  · rw [results_cell_tmp rfl]
    go_simp
  · exact (K0.trans k1).trans' (keeps_set3 _ w.heap.size _ _ _) (fun _ _ e => e) (fun i hi e => by omega)
set_option maxHeartbeats 800000 in
set_option maxRecDepth 1000000 in
theorem meets_no (h : CL w ab (x.cells c ab)) (hs : (x.status != 1) = true) :
    Calls Tryz.prog 52 #[.pointer (some ⟨ab, 0, none⟩)] w fun e w' => e = .returned (.bool false) ∧ w' = w := by
  have f28 := h.c 28 _ rfl
  clear h
  go_enter Tryz.func52, Tryz.ntmps52
  go_wp2
  go_ret
  exact ⟨rfl, rfl⟩
def Tx.toAcq (x : Tx) : Tx := { x with base := x.current, nx := some 54 }
set_option maxHeartbeats 800000 in
set_option maxRecDepth 1000000 in
theorem found_write (h : CL w ab (x.cells c ab)) (hb : c.bare) (ho : I64 x.object) (hs : (x.status != 1) = true) :
    Calls Tryz.prog 27 #[.pointer (some ⟨ab, 0, none⟩)] w fun e w' => e = .returned (.tuple #[]) ∧ CL w' ab (x.toAcq.cells c ab) ∧ Keeps (fun k => k = ab) w w' := by
  have hmf : ∀ (fn : Fn) (first cap : Array Value) (w : World), (Instr.makeFunc fn first cap).run Tryz.prog w = .ok (.func fn first cap) w := fun _ _ _ _ => rfl
  have hm := meets_no h hs
  have K0 : Keeps (fun _ => False) w w.drew := (Keeps.refl _ w).drew
  have hF := fun (W : World) (hW : CL W ab (x.cells c ab)) => tfind_no hW hb ho
  have f17 := h.c 17 _ rfl
  go_enter Tryz.func27, Tryz.ntmps27
  go_wp2_with fail
  refine hm.mono ?_
  rintro e w1 ⟨rfl, rfl⟩
  go_wp2_with fail
  have hEa : CL (w1.alloc (.cells #[.int .i64 0, .int .i64 0, .int .i64 0] 70)).drew w1.heap.size [.int .i64 0, .int .i64 0, .int .i64 0] := (CL.made w1 [.int .i64 0, .int .i64 0, .int .i64 0] _).drew
  have hXa : CL (w1.alloc (.cells #[.int .i64 0, .int .i64 0, .int .i64 0] 70)).drew ab (x.cells c ab) := (h.alloc (by show 0 < 36; decide) _).drew
  have hFa := hF _ hXa
  have hFb := hF _ h.drew
  have ka : Keeps (fun _ => False) w1 (w1.alloc (.cells #[.int .i64 0, .int .i64 0, .int .i64 0] 70)).drew := ((Keeps.refl _ w1).alloc _).drew
  have lta : ab < w1.heap.size := h.lt (by show 0 < 36; decide)
  have na : ¬ ab = w1.heap.size := by omega
  have na2 : ¬ w1.heap.size = ab := by omega
  clear hF hm
  go_region_held3 (fun w' => w'.cell? ⟨ab, 17, none⟩ = some (.int .i64 x.object)) (go_keep) (first | (go_at_call 50; (with_reducible refine hFa.mono ?_); rintro e w2 ⟨rfl, k2⟩; have h2 := hXa.keep (by show 0 < 36; decide) k2 (fun e => e); have g17 := h2.c 17 _ rfl; have e2 := hEa.keep (by show 0 < 3; decide) k2 (fun e => e); have K2 := ka.trans k2; have e20 := e2.c 0 _ rfl; have e21 := e2.c 1 _ rfl; have e22 := e2.c 2 _ rfl; have ze20 := e2.z 0 (by show 0 < 3; decide); have ze21 := e2.z 1 (by show 1 < 3; decide); have ze22 := e2.z 2 (by show 2 < 3; decide)) | (go_at_call 50; (with_reducible refine hFb.mono ?_); rintro e w2 ⟨rfl, k2⟩; have h2 := h.drew.keep (by show 0 < 36; decide) k2 (fun e => e); have g17 := h2.c 17 _ rfl; have K2 := (Keeps.refl (fun _ => False) w1).drew.trans k2))
  · have hX := h2.alloc (by show 0 < 36; decide) (.cells #[.int .i64 0, .int .i64 0, .int .i64 0] 70)
    have KX := K2.alloc (.cells #[.int .i64 0, .int .i64 0, .int .i64 0] 70)
    clear f17 g17 hEa hXa hFa hFb ka h2 k2 K2
    generalize w2.alloc (.cells #[.int .i64 0, .int .i64 0, .int .i64 0] 70) = w3 at *
    have g15 := hX.c 15 _ rfl
    have zg15 := hX.z 15 (by show 15 < 36; decide)
    have g18 := hX.c 18 _ rfl
    have zg18 := hX.z 18 (by show 18 < 36; decide)
    have g29 := hX.c 29 _ rfl
    have zg29 := hX.z 29 (by show 29 < 36; decide)
    go_wp2_with fail
    go_end0
    exact ⟨rfl, (hX.set (o := 18) (by show 18 < 36; decide) _).set (o := 15) (by show 15 < 36; decide) _, ((KX.mono (fun _ _ e => e.elim)).setA _ _).setA _ _⟩
  · have hX := ((h2.other (p := ⟨w1.heap.size, 0, none⟩) na2 (.int .i64 0)).other (p := ⟨w1.heap.size, 1, none⟩) na2 (.int .i64 0)).other (p := ⟨w1.heap.size, 2, none⟩) na2 (.int .i64 0)
    have KX : Keeps (fun _ => False) w1 (((w2.setCell ⟨w1.heap.size, 0, none⟩ (.int .i64 0)).setCell ⟨w1.heap.size, 1, none⟩ (.int .i64 0)).setCell ⟨w1.heap.size, 2, none⟩ (.int .i64 0)) := ((K2.setCell (fun e => absurd e (Nat.lt_irrefl _)) _).setCell (fun e => absurd e (Nat.lt_irrefl _)) _).setCell (fun e => absurd e (Nat.lt_irrefl _)) _
    clear f17 g17 hEa hXa hFa hFb ka h2 k2 K2 e2 e20 e21 e22 ze20 ze21 ze22
    generalize ((w2.setCell ⟨w1.heap.size, 0, none⟩ (.int .i64 0)).setCell ⟨w1.heap.size, 1, none⟩ (.int .i64 0)).setCell ⟨w1.heap.size, 2, none⟩ (.int .i64 0) = w3 at *
    have g15 := hX.c 15 _ rfl
    have zg15 := hX.z 15 (by show 15 < 36; decide)
    have g18 := hX.c 18 _ rfl
    have zg18 := hX.z 18 (by show 18 < 36; decide)
    have g29 := hX.c 29 _ rfl
    have zg29 := hX.z 29 (by show 29 < 36; decide)
    go_wp2_with fail
    go_end0
    exact ⟨rfl, (hX.set (o := 18) (by show 18 < 36; decide) _).set (o := 15) (by show 15 < 36; decide) _, ((KX.mono (fun _ _ e => e.elim)).setA _ _).setA _ _⟩
set_option maxHeartbeats 800000 in
set_option maxRecDepth 1000000 in
theorem seen_free (h : CL w ab (x.cells c ab)) (he : x.enemy = -1) {k : Nat} (hn : x.found = some k) (hcf : ∀ (args : Array Value) (w : World), (callFunc k args).run Tryz.prog w = .ok (.enter k args) w) {Q : World → Prop}
    (hk : Calls Tryz.prog k #[.pointer (some ⟨ab, 0, none⟩)] w fun e w' => e = .returned (.tuple #[]) ∧ Q w') :
    Calls Tryz.prog 95 #[.pointer (some ⟨ab, 0, none⟩)] w fun e w' => e = .returned (.tuple #[]) ∧ Q w' := by
  have f30 := h.c 30 _ rfl
  have f31 := h.c 31 _ rfl
  rw [hn] at f30
  simp only [fnv] at f30
  rw [he] at f31
  clear h he hn
  go_enter Tryz.func95, Tryz.ntmps95
  go_wp2_with fail
  refine hk.mono ?_
  rintro e w' ⟨rfl, hQ⟩
  go_wp2_with fail
  go_end0
  exact ⟨rfl, hQ⟩
set_option maxHeartbeats 800000 in
set_option maxRecDepth 1000000 in
/-- There is no entry: what is behind comes. -/
theorem lookent_no (h : CL w ab (x.cells c ab)) (hb : c.bare) (fd k : Nat) :
    Calls Tryz.prog 59 #[.pointer (some ⟨ab, 0, none⟩), .int .i64 0, .func (.func fd) #[.pointer (some ⟨ab, 0, none⟩)] #[], .func (.func k) #[.pointer (some ⟨ab, 0, none⟩)] #[]] w fun e w' => e = .returned (.tuple #[]) ∧ CL w' ab (({ x with nx := some k } : Tx).cells c ab) ∧ Keeps (fun k => k = ab) w w' := by
  have hT := tat_no h hb
  go_enter Tryz.func59, Tryz.ntmps59
  go_wp2_with fail
  refine hT.mono ?_
  rintro e w2 ⟨rfl, k2⟩
  have hX := (h.keep (by show 0 < 36; decide) k2 (fun e => e)).alloc (by show 0 < 36; decide) (.cells #[.int .i64 0, .int .i64 0, .int .i64 0] 70)
  have KX := k2.alloc (.cells #[.int .i64 0, .int .i64 0, .int .i64 0] 70)
  have g15 := hX.c 15 _ rfl
  have zg15 := hX.z 15 (by show 15 < 36; decide)
  clear hT k2
  go_wp2_with fail
  (try simp only [Exit.then])
  refine bodyPost_ret (results_none rfl _ _ _) rfl ?_
  exact ⟨rfl, hX.set (o := 15) (by show 15 < 36; decide) _, (KX.mono (fun _ _ e => e.elim)).setA _ _⟩
end
end Go.Proofs.YteomlhcllmlkpaaGreatDoor
