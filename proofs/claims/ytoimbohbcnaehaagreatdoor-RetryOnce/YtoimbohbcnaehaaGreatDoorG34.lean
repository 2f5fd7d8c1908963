import Derived.Test.YtoimbohbcnaehaaGreatDoorG33
namespace Go.Proofs.YtoimbohbcnaehaaGreatDoor
open Go.RowKit
attribute [local go_sem] Oper.semAt_some run_store_nf run_store_f
section
variable {w w' : World} {b o : Nat} {r : Ro} {bg tr en : Int}
set_option maxHeartbeats 1600000 in
set_option maxRecDepth 1000000 in
theorem next_begin {L : List Value} (h : CL w b L) (hl : o + 3 < L.length) (e0 : L[o]? = some (.int .i64 0)) (e1 : L[o + 1]? = some (.int .i64 tr)) (e2 : L[o + 2]? = some (.int .i64 en)) (e3 : L[o + 3]? = some (.int .i64 0)) (hk : r.kind = 1) (ht : r.try_ = 1) (hf : r.fin = 0) :
    Calls Tryz.prog 20 #[.pointer (some ⟨b, o, none⟩), .agg r.cells.toArray] w fun e w' => e = .returned (.bool true) ∧ CL w' b (((L.set o (.int .i64 1)).set (o + 1) (.int .i64 1)).set (o + 2) (.int .i64 0)) ∧ Keeps (fun k => k = b) w w' := by
  have K0 : Keeps (fun _ => False) w (w.alloc (.cells r.cells.toArray 36)) := (Keeps.refl _ w).alloc _
  have hR : CL (w.alloc (.cells r.cells.toArray 36)) w.heap.size r.cells := CL.made _ _ _
  have h0 := h.keep (by omega) K0 (fun e => e)
  have hl' := hl
  have c3 := hR.c 3 _ rfl
  have c5 := hR.c 5 _ rfl
  have c25 := hR.c 25 _ rfl
  have l0 := h0.c _ _ e0
  have l1 := h0.c _ _ e1
  have l2 := h0.c _ _ e2
  have l3 := h0.c _ _ e3
  have z0 := h0.z o (by omega)
  have z1 := h0.z (o + 1) (by omega)
  have z2 := h0.z (o + 2) (by omega)
  have z3 := h0.z (o + 3) (by omega)
  have lt := h.lt (by omega)
  have nb : ¬ b = w.heap.size := by omega
  have nb' : ¬ w.heap.size = b := by omega
  rw [hk] at c5
  rw [ht] at c3
  rw [hf] at c25
  clear hk lt h hl
  have ht : Hid (r.try_ = 1) := ht
  have hf : Hid (r.fin = 0) := hf
  go_enter Tryz.func20, Tryz.ntmps20
  go_wp2_with fail
  have k1 : Keeps (fun k => k = b) (w.alloc (.cells r.cells.toArray 36)) (((w.alloc (.cells r.cells.toArray 36)).setCell ⟨b, o, none⟩ (.int .i64 1)).setCell ⟨b, o + 1, none⟩ (.int .i64 1)) := (((Keeps.refl (fun k => k = b) (w.alloc (.cells r.cells.toArray 36))).setCell (p := ⟨b, o, none⟩) (fun _ => rfl) _).setCell (p := ⟨b, o + 1, none⟩) (fun _ => rfl) _)
  have h1 : CL (((w.alloc (.cells r.cells.toArray 36)).setCell ⟨b, o, none⟩ (.int .i64 1)).setCell ⟨b, o + 1, none⟩ (.int .i64 1)) b ((L.set o (.int .i64 1)).set (o + 1) (.int .i64 1)) := ((h0.set (o := o) (by omega) (.int .i64 1)).set (o := o + 1) (by (try simp); omega) (.int .i64 1))
  have hR1 := hR.keep (by show 0 < 26; decide) k1 nb'
  have K1 : Keeps (fun k => k = b) w (((w.alloc (.cells r.cells.toArray 36)).setCell ⟨b, o, none⟩ (.int .i64 1)).setCell ⟨b, o + 1, none⟩ (.int .i64 1)) := (K0.mono (fun _ _ e => e.elim)).trans k1
  clear k1 hR h0 l0 l1 l2 l3 z0 z1 z2 z3 c3 c5 c25 K0
  generalize (((w.alloc (.cells r.cells.toArray 36)).setCell ⟨b, o, none⟩ (.int .i64 1)).setCell ⟨b, o + 1, none⟩ (.int .i64 1)) = W1 at *
  have d3 := hR1.c 3 _ rfl
  have d25 := hR1.c 25 _ rfl
  rw [ht.out] at d3
  rw [hf.out] at d25
  have m1 : W1.cell? ⟨b, o + 1, none⟩ = some (.int .i64 1) := h1.c (o + 1) _ (by simp [List.getElem?_set]; omega)
  go_region_held3 (fun w' => w'.cell? ⟨w.heap.size, 3, none⟩ = some (.int .i64 1) ∧ w'.cell? ⟨b, o + 1, none⟩ = some (.int .i64 1)) (go_keep) (fail)
  rename_i hHeld
  clear hHeld
  have K2 := K1.drew
  have h2 := h1.drew
  have y2 := h2.z (o + 2) (by (try simp); omega)
  have y3 := h2.z (o + 3) (by (try simp); omega)
  have q25 := hR1.drew.c 25 _ rfl
  rw [hf.out] at q25
  obtain ⟨v2, x2⟩ : ∃ v, W1.drew.cell? ⟨b, o + 2, none⟩ = some v := ⟨_, h2.c (o + 2) _ (List.getElem?_eq_getElem (by (try simp); omega))⟩
  obtain ⟨v3, x3⟩ : ∃ v, W1.drew.cell? ⟨b, o + 3, none⟩ = some v := ⟨_, h2.c (o + 3) _ (List.getElem?_eq_getElem (by (try simp); omega))⟩
  have h3 := h2.set (o := o + 2) (by (try simp); omega) (.int .i64 0)
  have K3 : Keeps (fun k => k = b) w (W1.drew.setCell ⟨b, o + 2, none⟩ (.int .i64 0)) := K2.setCell (p := ⟨b, o + 2, none⟩) (fun _ => rfl) _
  clear h1 h2 hR1 K1 K2 m1 d3 d25
  generalize W1.drew = W2 at *
  go_wp2_with fail
  go_ret
  exact ⟨rfl, h3, K3⟩
set_option maxHeartbeats 1600000 in
set_option maxRecDepth 1000000 in
theorem next_again4 {L : List Value} (h : CL w b L) (hl : o + 3 < L.length) (e0 : L[o]? = some (.int .i64 1)) (e1 : L[o + 1]? = some (.int .i64 tr)) (e2 : L[o + 2]? = some (.int .i64 4)) (e3 : L[o + 3]? = some (.int .i64 0)) (hw : IntKind.i64.wrap (tr + 1) = tr + 1) (hk : r.kind = 2) (ht : r.try_ = (tr + 1)) (hf : r.fin = 0) :
    Calls Tryz.prog 20 #[.pointer (some ⟨b, o, none⟩), .agg r.cells.toArray] w fun e w' => e = .returned (.bool true) ∧ CL w' b (((L.set (o + 1) (.int .i64 (tr + 1))).set (o + 2) (.int .i64 0)).set (o + 2) (.int .i64 0)) ∧ Keeps (fun k => k = b) w w' := by
  have K0 : Keeps (fun _ => False) w (w.alloc (.cells r.cells.toArray 36)) := (Keeps.refl _ w).alloc _
  have hR : CL (w.alloc (.cells r.cells.toArray 36)) w.heap.size r.cells := CL.made _ _ _
  have h0 := h.keep (by omega) K0 (fun e => e)
  have hl' := hl
  have c3 := hR.c 3 _ rfl
  have c5 := hR.c 5 _ rfl
  have c25 := hR.c 25 _ rfl
  have l0 := h0.c _ _ e0
  have l1 := h0.c _ _ e1
  have l2 := h0.c _ _ e2
  have l3 := h0.c _ _ e3
  have z0 := h0.z o (by omega)
  have z1 := h0.z (o + 1) (by omega)
  have z2 := h0.z (o + 2) (by omega)
  have z3 := h0.z (o + 3) (by omega)
  have lt := h.lt (by omega)
  have nb : ¬ b = w.heap.size := by omega
  have nb' : ¬ w.heap.size = b := by omega
  rw [hk] at c5
  rw [ht] at c3
  rw [hf] at c25
  clear hk lt h hl
  have ht : Hid (r.try_ = (tr + 1)) := ht
  have hf : Hid (r.fin = 0) := hf
  go_enter Tryz.func20, Tryz.ntmps20
  go_wp2_with fail
  have k1 : Keeps (fun k => k = b) (w.alloc (.cells r.cells.toArray 36)) (((w.alloc (.cells r.cells.toArray 36)).setCell ⟨b, o + 1, none⟩ (.int .i64 (tr + 1))).setCell ⟨b, o + 2, none⟩ (.int .i64 0)) := (((Keeps.refl (fun k => k = b) (w.alloc (.cells r.cells.toArray 36))).setCell (p := ⟨b, o + 1, none⟩) (fun _ => rfl) _).setCell (p := ⟨b, o + 2, none⟩) (fun _ => rfl) _)
  have h1 : CL (((w.alloc (.cells r.cells.toArray 36)).setCell ⟨b, o + 1, none⟩ (.int .i64 (tr + 1))).setCell ⟨b, o + 2, none⟩ (.int .i64 0)) b ((L.set (o + 1) (.int .i64 (tr + 1))).set (o + 2) (.int .i64 0)) := ((h0.set (o := o + 1) (by omega) (.int .i64 (tr + 1))).set (o := o + 2) (by (try simp); omega) (.int .i64 0))
  have hR1 := hR.keep (by show 0 < 26; decide) k1 nb'
  have K1 : Keeps (fun k => k = b) w (((w.alloc (.cells r.cells.toArray 36)).setCell ⟨b, o + 1, none⟩ (.int .i64 (tr + 1))).setCell ⟨b, o + 2, none⟩ (.int .i64 0)) := (K0.mono (fun _ _ e => e.elim)).trans k1
  clear k1 hR h0 l0 l1 l2 l3 z0 z1 z2 z3 c3 c5 c25 K0
  generalize (((w.alloc (.cells r.cells.toArray 36)).setCell ⟨b, o + 1, none⟩ (.int .i64 (tr + 1))).setCell ⟨b, o + 2, none⟩ (.int .i64 0)) = W1 at *
  have d3 := hR1.c 3 _ rfl
  have d25 := hR1.c 25 _ rfl
  rw [ht.out] at d3
  rw [hf.out] at d25
  have m1 : W1.cell? ⟨b, o + 1, none⟩ = some (.int .i64 (tr + 1)) := h1.c (o + 1) _ (by rw [List.getElem?_set_ne (by omega), List.getElem?_set_self (by omega)])
  go_region_held3 (fun w' => w'.cell? ⟨w.heap.size, 3, none⟩ = some (.int .i64 (tr + 1)) ∧ w'.cell? ⟨b, o + 1, none⟩ = some (.int .i64 (tr + 1))) (go_keep) (fail)
  rename_i hHeld
  clear hHeld
  have K2 := K1.drew
  have h2 := h1.drew
  have y2 := h2.z (o + 2) (by (try simp); omega)
  have y3 := h2.z (o + 3) (by (try simp); omega)
  have q25 := hR1.drew.c 25 _ rfl
  rw [hf.out] at q25
  obtain ⟨v2, x2⟩ : ∃ v, W1.drew.cell? ⟨b, o + 2, none⟩ = some v := ⟨_, h2.c (o + 2) _ (List.getElem?_eq_getElem (by (try simp); omega))⟩
  obtain ⟨v3, x3⟩ : ∃ v, W1.drew.cell? ⟨b, o + 3, none⟩ = some v := ⟨_, h2.c (o + 3) _ (List.getElem?_eq_getElem (by (try simp); omega))⟩
  have h3 := h2.set (o := o + 2) (by (try simp); omega) (.int .i64 0)
  have K3 : Keeps (fun k => k = b) w (W1.drew.setCell ⟨b, o + 2, none⟩ (.int .i64 0)) := K2.setCell (p := ⟨b, o + 2, none⟩) (fun _ => rfl) _
  clear h1 h2 hR1 K1 K2 m1 d3 d25
  generalize W1.drew = W2 at *
  go_wp2_with fail
  go_ret
  exact ⟨rfl, h3, K3⟩
set_option maxHeartbeats 1600000 in
set_option maxRecDepth 1000000 in
theorem next_again5 {L : List Value} (h : CL w b L) (hl : o + 3 < L.length) (e0 : L[o]? = some (.int .i64 1)) (e1 : L[o + 1]? = some (.int .i64 tr)) (e2 : L[o + 2]? = some (.int .i64 5)) (e3 : L[o + 3]? = some (.int .i64 0)) (hw : IntKind.i64.wrap (tr + 1) = tr + 1) (hk : r.kind = 2) (ht : r.try_ = (tr + 1)) (hf : r.fin = 0) :
    Calls Tryz.prog 20 #[.pointer (some ⟨b, o, none⟩), .agg r.cells.toArray] w fun e w' => e = .returned (.bool true) ∧ CL w' b (((L.set (o + 1) (.int .i64 (tr + 1))).set (o + 2) (.int .i64 0)).set (o + 2) (.int .i64 0)) ∧ Keeps (fun k => k = b) w w' := by
  have K0 : Keeps (fun _ => False) w (w.alloc (.cells r.cells.toArray 36)) := (Keeps.refl _ w).alloc _
  have hR : CL (w.alloc (.cells r.cells.toArray 36)) w.heap.size r.cells := CL.made _ _ _
  have h0 := h.keep (by omega) K0 (fun e => e)
  have hl' := hl
  have c3 := hR.c 3 _ rfl
  have c5 := hR.c 5 _ rfl
  have c25 := hR.c 25 _ rfl
  have l0 := h0.c _ _ e0
  have l1 := h0.c _ _ e1
  have l2 := h0.c _ _ e2
  have l3 := h0.c _ _ e3
  have z0 := h0.z o (by omega)
  have z1 := h0.z (o + 1) (by omega)
  have z2 := h0.z (o + 2) (by omega)
  have z3 := h0.z (o + 3) (by omega)
  have lt := h.lt (by omega)
  have nb : ¬ b = w.heap.size := by omega
  have nb' : ¬ w.heap.size = b := by omega
  rw [hk] at c5
  rw [ht] at c3
  rw [hf] at c25
  clear hk lt h hl
  have ht : Hid (r.try_ = (tr + 1)) := ht
  have hf : Hid (r.fin = 0) := hf
  go_enter Tryz.func20, Tryz.ntmps20
  go_wp2_with fail
  have k1 : Keeps (fun k => k = b) (w.alloc (.cells r.cells.toArray 36)) (((w.alloc (.cells r.cells.toArray 36)).setCell ⟨b, o + 1, none⟩ (.int .i64 (tr + 1))).setCell ⟨b, o + 2, none⟩ (.int .i64 0)) := (((Keeps.refl (fun k => k = b) (w.alloc (.cells r.cells.toArray 36))).setCell (p := ⟨b, o + 1, none⟩) (fun _ => rfl) _).setCell (p := ⟨b, o + 2, none⟩) (fun _ => rfl) _)
  have h1 : CL (((w.alloc (.cells r.cells.toArray 36)).setCell ⟨b, o + 1, none⟩ (.int .i64 (tr + 1))).setCell ⟨b, o + 2, none⟩ (.int .i64 0)) b ((L.set (o + 1) (.int .i64 (tr + 1))).set (o + 2) (.int .i64 0)) := ((h0.set (o := o + 1) (by omega) (.int .i64 (tr + 1))).set (o := o + 2) (by (try simp); omega) (.int .i64 0))
  have hR1 := hR.keep (by show 0 < 26; decide) k1 nb'
  have K1 : Keeps (fun k => k = b) w (((w.alloc (.cells r.cells.toArray 36)).setCell ⟨b, o + 1, none⟩ (.int .i64 (tr + 1))).setCell ⟨b, o + 2, none⟩ (.int .i64 0)) := (K0.mono (fun _ _ e => e.elim)).trans k1
  clear k1 hR h0 l0 l1 l2 l3 z0 z1 z2 z3 c3 c5 c25 K0
  generalize (((w.alloc (.cells r.cells.toArray 36)).setCell ⟨b, o + 1, none⟩ (.int .i64 (tr + 1))).setCell ⟨b, o + 2, none⟩ (.int .i64 0)) = W1 at *
  have d3 := hR1.c 3 _ rfl
  have d25 := hR1.c 25 _ rfl
  rw [ht.out] at d3
  rw [hf.out] at d25
  have m1 : W1.cell? ⟨b, o + 1, none⟩ = some (.int .i64 (tr + 1)) := h1.c (o + 1) _ (by rw [List.getElem?_set_ne (by omega), List.getElem?_set_self (by omega)])
  go_region_held3 (fun w' => w'.cell? ⟨w.heap.size, 3, none⟩ = some (.int .i64 (tr + 1)) ∧ w'.cell? ⟨b, o + 1, none⟩ = some (.int .i64 (tr + 1))) (go_keep) (fail)
  rename_i hHeld
  clear hHeld
  have K2 := K1.drew
  have h2 := h1.drew
  have y2 := h2.z (o + 2) (by (try simp); omega)
  have y3 := h2.z (o + 3) (by (try simp); omega)
  have q25 := hR1.drew.c 25 _ rfl
  rw [hf.out] at q25
  obtain ⟨v2, x2⟩ : ∃ v, W1.drew.cell? ⟨b, o + 2, none⟩ = some v := ⟨_, h2.c (o + 2) _ (List.getElem?_eq_getElem (by (try simp); omega))⟩
  obtain ⟨v3, x3⟩ : ∃ v, W1.drew.cell? ⟨b, o + 3, none⟩ = some v := ⟨_, h2.c (o + 3) _ (List.getElem?_eq_getElem (by (try simp); omega))⟩
  have h3 := h2.set (o := o + 2) (by (try simp); omega) (.int .i64 0)
  have K3 : Keeps (fun k => k = b) w (W1.drew.setCell ⟨b, o + 2, none⟩ (.int .i64 0)) := K2.setCell (p := ⟨b, o + 2, none⟩) (fun _ => rfl) _
  clear h1 h2 hR1 K1 K2 m1 d3 d25
  generalize W1.drew = W2 at *
  go_wp2_with fail
  go_ret
  exact ⟨rfl, h3, K3⟩
set_option maxHeartbeats 1600000 in
set_option maxRecDepth 1000000 in
theorem next_go0 {L : List Value} (h : CL w b L) (hl : o + 3 < L.length) (e0 : L[o]? = some (.int .i64 1)) (e1 : L[o + 1]? = some (.int .i64 tr)) (e2 : L[o + 2]? = some (.int .i64 0)) (e3 : L[o + 3]? = some (.int .i64 0)) {k : Int} (k1 : (k == 1) = false) (k2 : (k == 2) = false) (hk : r.kind = k) (ht : r.try_ = tr) (hf : r.fin = 0) :
    Calls Tryz.prog 20 #[.pointer (some ⟨b, o, none⟩), .agg r.cells.toArray] w fun e w' => e = .returned (.bool true) ∧ CL w' b (L.set (o + 2) (.int .i64 0)) ∧ Keeps (fun k => k = b) w w' := by
  have K0 : Keeps (fun _ => False) w (w.alloc (.cells r.cells.toArray 36)) := (Keeps.refl _ w).alloc _
  have hR : CL (w.alloc (.cells r.cells.toArray 36)) w.heap.size r.cells := CL.made _ _ _
  have h0 := h.keep (by omega) K0 (fun e => e)
  have hl' := hl
  have c3 := hR.c 3 _ rfl
  have c5 := hR.c 5 _ rfl
  have c25 := hR.c 25 _ rfl
  have l0 := h0.c _ _ e0
  have l1 := h0.c _ _ e1
  have l2 := h0.c _ _ e2
  have l3 := h0.c _ _ e3
  have z0 := h0.z o (by omega)
  have z1 := h0.z (o + 1) (by omega)
  have z2 := h0.z (o + 2) (by omega)
  have z3 := h0.z (o + 3) (by omega)
  have lt := h.lt (by omega)
  have nb : ¬ b = w.heap.size := by omega
  have nb' : ¬ w.heap.size = b := by omega
  rw [hk] at c5
  rw [ht] at c3
  rw [hf] at c25
  clear hk lt h hl
  have ht : Hid (r.try_ = tr) := ht
  have hf : Hid (r.fin = 0) := hf
  go_enter Tryz.func20, Tryz.ntmps20
  go_wp2_with fail
  have k1 : Keeps (fun k => k = b) (w.alloc (.cells r.cells.toArray 36)) (w.alloc (.cells r.cells.toArray 36)) := Keeps.refl _ _
  have h1 : CL (w.alloc (.cells r.cells.toArray 36)) b L := h0
  have hR1 := hR
  have K1 : Keeps (fun k => k = b) w (w.alloc (.cells r.cells.toArray 36)) := (K0.mono (fun _ _ e => e.elim)).trans k1
  clear k1 hR h0 l0 l1 l2 l3 z0 z1 z2 z3 c3 c5 c25 K0
  generalize (w.alloc (.cells r.cells.toArray 36)) = W1 at *
  have d3 := hR1.c 3 _ rfl
  have d25 := hR1.c 25 _ rfl
  rw [ht.out] at d3
  rw [hf.out] at d25
  have m1 : W1.cell? ⟨b, o + 1, none⟩ = some (.int .i64 tr) := h1.c (o + 1) _ e1
  go_region_held3 (fun w' => w'.cell? ⟨w.heap.size, 3, none⟩ = some (.int .i64 tr) ∧ w'.cell? ⟨b, o + 1, none⟩ = some (.int .i64 tr)) (go_keep) (fail)
  rename_i hHeld
  clear hHeld
  have K2 := K1.drew
  have h2 := h1.drew
  have y2 := h2.z (o + 2) (by (try simp); omega)
  have y3 := h2.z (o + 3) (by (try simp); omega)
  have q25 := hR1.drew.c 25 _ rfl
  rw [hf.out] at q25
  obtain ⟨v2, x2⟩ : ∃ v, W1.drew.cell? ⟨b, o + 2, none⟩ = some v := ⟨_, h2.c (o + 2) _ (List.getElem?_eq_getElem (by (try simp); omega))⟩
  obtain ⟨v3, x3⟩ : ∃ v, W1.drew.cell? ⟨b, o + 3, none⟩ = some v := ⟨_, h2.c (o + 3) _ (List.getElem?_eq_getElem (by (try simp); omega))⟩
  have h3 := h2.set (o := o + 2) (by (try simp); omega) (.int .i64 0)
  have K3 : Keeps (fun k => k = b) w (W1.drew.setCell ⟨b, o + 2, none⟩ (.int .i64 0)) := K2.setCell (p := ⟨b, o + 2, none⟩) (fun _ => rfl) _
  clear h1 h2 hR1 K1 K2 m1 d3 d25
  generalize W1.drew = W2 at *
  go_wp2_with fail
  go_ret
  exact ⟨rfl, h3, K3⟩
set_option maxHeartbeats 1600000 in
set_option maxRecDepth 1000000 in
theorem next_go4 {L : List Value} (h : CL w b L) (hl : o + 3 < L.length) (e0 : L[o]? = some (.int .i64 1)) (e1 : L[o + 1]? = some (.int .i64 tr)) (e2 : L[o + 2]? = some (.int .i64 0)) (e3 : L[o + 3]? = some (.int .i64 0)) {k : Int} (k1 : (k == 1) = false) (k2 : (k == 2) = false) (hk : r.kind = k) (ht : r.try_ = tr) (hf : r.fin = 4) :
    Calls Tryz.prog 20 #[.pointer (some ⟨b, o, none⟩), .agg r.cells.toArray] w fun e w' => e = .returned (.bool true) ∧ CL w' b (L.set (o + 2) (.int .i64 4)) ∧ Keeps (fun k => k = b) w w' := by
  have K0 : Keeps (fun _ => False) w (w.alloc (.cells r.cells.toArray 36)) := (Keeps.refl _ w).alloc _
  have hR : CL (w.alloc (.cells r.cells.toArray 36)) w.heap.size r.cells := CL.made _ _ _
  have h0 := h.keep (by omega) K0 (fun e => e)
  have hl' := hl
  have c3 := hR.c 3 _ rfl
  have c5 := hR.c 5 _ rfl
  have c25 := hR.c 25 _ rfl
  have l0 := h0.c _ _ e0
  have l1 := h0.c _ _ e1
  have l2 := h0.c _ _ e2
  have l3 := h0.c _ _ e3
  have z0 := h0.z o (by omega)
  have z1 := h0.z (o + 1) (by omega)
  have z2 := h0.z (o + 2) (by omega)
  have z3 := h0.z (o + 3) (by omega)
  have lt := h.lt (by omega)
  have nb : ¬ b = w.heap.size := by omega
  have nb' : ¬ w.heap.size = b := by omega
  rw [hk] at c5
  rw [ht] at c3
  rw [hf] at c25
  clear hk lt h hl
  have ht : Hid (r.try_ = tr) := ht
  have hf : Hid (r.fin = 4) := hf
  go_enter Tryz.func20, Tryz.ntmps20
  go_wp2_with fail
  have k1 : Keeps (fun k => k = b) (w.alloc (.cells r.cells.toArray 36)) (w.alloc (.cells r.cells.toArray 36)) := Keeps.refl _ _
  have h1 : CL (w.alloc (.cells r.cells.toArray 36)) b L := h0
  have hR1 := hR
  have K1 : Keeps (fun k => k = b) w (w.alloc (.cells r.cells.toArray 36)) := (K0.mono (fun _ _ e => e.elim)).trans k1
  clear k1 hR h0 l0 l1 l2 l3 z0 z1 z2 z3 c3 c5 c25 K0
  generalize (w.alloc (.cells r.cells.toArray 36)) = W1 at *
  have d3 := hR1.c 3 _ rfl
  have d25 := hR1.c 25 _ rfl
  rw [ht.out] at d3
  rw [hf.out] at d25
  have m1 : W1.cell? ⟨b, o + 1, none⟩ = some (.int .i64 tr) := h1.c (o + 1) _ e1
  go_region_held3 (fun w' => w'.cell? ⟨w.heap.size, 3, none⟩ = some (.int .i64 tr) ∧ w'.cell? ⟨b, o + 1, none⟩ = some (.int .i64 tr)) (go_keep) (fail)
  rename_i hHeld
  clear hHeld
  have K2 := K1.drew
  have h2 := h1.drew
  have y2 := h2.z (o + 2) (by (try simp); omega)
  have y3 := h2.z (o + 3) (by (try simp); omega)
  have q25 := hR1.drew.c 25 _ rfl
  rw [hf.out] at q25
  obtain ⟨v2, x2⟩ : ∃ v, W1.drew.cell? ⟨b, o + 2, none⟩ = some v := ⟨_, h2.c (o + 2) _ (List.getElem?_eq_getElem (by (try simp); omega))⟩
  obtain ⟨v3, x3⟩ : ∃ v, W1.drew.cell? ⟨b, o + 3, none⟩ = some v := ⟨_, h2.c (o + 3) _ (List.getElem?_eq_getElem (by (try simp); omega))⟩
  have h3 := h2.set (o := o + 2) (by (try simp); omega) (.int .i64 4)
  have K3 : Keeps (fun k => k = b) w (W1.drew.setCell ⟨b, o + 2, none⟩ (.int .i64 4)) := K2.setCell (p := ⟨b, o + 2, none⟩) (fun _ => rfl) _
  clear h1 h2 hR1 K1 K2 m1 d3 d25
  generalize W1.drew = W2 at *
  go_wp2_with fail
  go_ret
  exact ⟨rfl, h3, K3⟩
set_option maxHeartbeats 1600000 in
set_option maxRecDepth 1000000 in
theorem next_go5 {L : List Value} (h : CL w b L) (hl : o + 3 < L.length) (e0 : L[o]? = some (.int .i64 1)) (e1 : L[o + 1]? = some (.int .i64 tr)) (e2 : L[o + 2]? = some (.int .i64 0)) (e3 : L[o + 3]? = some (.int .i64 0)) {k : Int} (k1 : (k == 1) = false) (k2 : (k == 2) = false) (hk : r.kind = k) (ht : r.try_ = tr) (hf : r.fin = 5) :
    Calls Tryz.prog 20 #[.pointer (some ⟨b, o, none⟩), .agg r.cells.toArray] w fun e w' => e = .returned (.bool true) ∧ CL w' b (L.set (o + 2) (.int .i64 5)) ∧ Keeps (fun k => k = b) w w' := by
  have K0 : Keeps (fun _ => False) w (w.alloc (.cells r.cells.toArray 36)) := (Keeps.refl _ w).alloc _
  have hR : CL (w.alloc (.cells r.cells.toArray 36)) w.heap.size r.cells := CL.made _ _ _
  have h0 := h.keep (by omega) K0 (fun e => e)
  have hl' := hl
  have c3 := hR.c 3 _ rfl
  have c5 := hR.c 5 _ rfl
  have c25 := hR.c 25 _ rfl
  have l0 := h0.c _ _ e0
  have l1 := h0.c _ _ e1
  have l2 := h0.c _ _ e2
  have l3 := h0.c _ _ e3
  have z0 := h0.z o (by omega)
  have z1 := h0.z (o + 1) (by omega)
  have z2 := h0.z (o + 2) (by omega)
  have z3 := h0.z (o + 3) (by omega)
  have lt := h.lt (by omega)
  have nb : ¬ b = w.heap.size := by omega
  have nb' : ¬ w.heap.size = b := by omega
  rw [hk] at c5
  rw [ht] at c3
  rw [hf] at c25
  clear hk lt h hl
  have ht : Hid (r.try_ = tr) := ht
  have hf : Hid (r.fin = 5) := hf
  go_enter Tryz.func20, Tryz.ntmps20
  go_wp2_with fail
  have k1 : Keeps (fun k => k = b) (w.alloc (.cells r.cells.toArray 36)) (w.alloc (.cells r.cells.toArray 36)) := Keeps.refl _ _
  have h1 : CL (w.alloc (.cells r.cells.toArray 36)) b L := h0
  have hR1 := hR
  have K1 : Keeps (fun k => k = b) w (w.alloc (.cells r.cells.toArray 36)) := (K0.mono (fun _ _ e => e.elim)).trans k1
  clear k1 hR h0 l0 l1 l2 l3 z0 z1 z2 z3 c3 c5 c25 K0
  generalize (w.alloc (.cells r.cells.toArray 36)) = W1 at *
  have d3 := hR1.c 3 _ rfl
  have d25 := hR1.c 25 _ rfl
  rw [ht.out] at d3
  rw [hf.out] at d25
  have m1 : W1.cell? ⟨b, o + 1, none⟩ = some (.int .i64 tr) := h1.c (o + 1) _ e1
  go_region_held3 (fun w' => w'.cell? ⟨w.heap.size, 3, none⟩ = some (.int .i64 tr) ∧ w'.cell? ⟨b, o + 1, none⟩ = some (.int .i64 tr)) (go_keep) (fail)
  rename_i hHeld
  clear hHeld
  have K2 := K1.drew
  have h2 := h1.drew
  have y2 := h2.z (o + 2) (by (try simp); omega)
  have y3 := h2.z (o + 3) (by (try simp); omega)
  have q25 := hR1.drew.c 25 _ rfl
  rw [hf.out] at q25
  obtain ⟨v2, x2⟩ : ∃ v, W1.drew.cell? ⟨b, o + 2, none⟩ = some v := ⟨_, h2.c (o + 2) _ (List.getElem?_eq_getElem (by (try simp); omega))⟩
  obtain ⟨v3, x3⟩ : ∃ v, W1.drew.cell? ⟨b, o + 3, none⟩ = some v := ⟨_, h2.c (o + 3) _ (List.getElem?_eq_getElem (by (try simp); omega))⟩
  have h3 := h2.set (o := o + 2) (by (try simp); omega) (.int .i64 5)
  have K3 : Keeps (fun k => k = b) w (W1.drew.setCell ⟨b, o + 2, none⟩ (.int .i64 5)) := K2.setCell (p := ⟨b, o + 2, none⟩) (fun _ => rfl) _
  clear h1 h2 hR1 K1 K2 m1 d3 d25
  generalize W1.drew = W2 at *
  go_wp2_with fail
  go_ret
  exact ⟨rfl, h3, K3⟩
set_option maxHeartbeats 1600000 in
set_option maxRecDepth 1000000 in
theorem next_go1 {L : List Value} (h : CL w b L) (hl : o + 3 < L.length) (e0 : L[o]? = some (.int .i64 1)) (e1 : L[o + 1]? = some (.int .i64 tr)) (e2 : L[o + 2]? = some (.int .i64 0)) (e3 : L[o + 3]? = some (.int .i64 0)) {k : Int} (k1 : (k == 1) = false) (k2 : (k == 2) = false) (hk : r.kind = k) (ht : r.try_ = tr) (hf : r.fin = 1) :
    Calls Tryz.prog 20 #[.pointer (some ⟨b, o, none⟩), .agg r.cells.toArray] w fun e w' => e = .returned (.bool true) ∧ CL w' b ((L.set (o + 2) (.int .i64 1)).set (o + 3) (.int .i64 1)) ∧ Keeps (fun k => k = b) w w' := by
  have K0 : Keeps (fun _ => False) w (w.alloc (.cells r.cells.toArray 36)) := (Keeps.refl _ w).alloc _
  have hR : CL (w.alloc (.cells r.cells.toArray 36)) w.heap.size r.cells := CL.made _ _ _
  have h0 := h.keep (by omega) K0 (fun e => e)
  have hl' := hl
  have c3 := hR.c 3 _ rfl
  have c5 := hR.c 5 _ rfl
  have c25 := hR.c 25 _ rfl
  have l0 := h0.c _ _ e0
  have l1 := h0.c _ _ e1
  have l2 := h0.c _ _ e2
  have l3 := h0.c _ _ e3
  have z0 := h0.z o (by omega)
  have z1 := h0.z (o + 1) (by omega)
  have z2 := h0.z (o + 2) (by omega)
  have z3 := h0.z (o + 3) (by omega)
  have lt := h.lt (by omega)
  have nb : ¬ b = w.heap.size := by omega
  have nb' : ¬ w.heap.size = b := by omega
  rw [hk] at c5
  rw [ht] at c3
  rw [hf] at c25
  clear hk lt h hl
  have ht : Hid (r.try_ = tr) := ht
  have hf : Hid (r.fin = 1) := hf
  go_enter Tryz.func20, Tryz.ntmps20
  go_wp2_with fail
  have k1 : Keeps (fun k => k = b) (w.alloc (.cells r.cells.toArray 36)) (w.alloc (.cells r.cells.toArray 36)) := Keeps.refl _ _
  have h1 : CL (w.alloc (.cells r.cells.toArray 36)) b L := h0
  have hR1 := hR
  have K1 : Keeps (fun k => k = b) w (w.alloc (.cells r.cells.toArray 36)) := (K0.mono (fun _ _ e => e.elim)).trans k1
  clear k1 hR h0 l0 l1 l2 l3 z0 z1 z2 z3 c3 c5 c25 K0
  generalize (w.alloc (.cells r.cells.toArray 36)) = W1 at *
  have d3 := hR1.c 3 _ rfl
  have d25 := hR1.c 25 _ rfl
  rw [ht.out] at d3
  rw [hf.out] at d25
  have m1 : W1.cell? ⟨b, o + 1, none⟩ = some (.int .i64 tr) := h1.c (o + 1) _ e1
  go_region_held3 (fun w' => w'.cell? ⟨w.heap.size, 3, none⟩ = some (.int .i64 tr) ∧ w'.cell? ⟨b, o + 1, none⟩ = some (.int .i64 tr)) (go_keep) (fail)
  rename_i hHeld
  clear hHeld
  have K2 := K1.drew
  have h2 := h1.drew
  have y2 := h2.z (o + 2) (by (try simp); omega)
  have y3 := h2.z (o + 3) (by (try simp); omega)
  have q25 := hR1.drew.c 25 _ rfl
  rw [hf.out] at q25
  obtain ⟨v2, x2⟩ : ∃ v, W1.drew.cell? ⟨b, o + 2, none⟩ = some v := ⟨_, h2.c (o + 2) _ (List.getElem?_eq_getElem (by (try simp); omega))⟩
  obtain ⟨v3, x3⟩ : ∃ v, W1.drew.cell? ⟨b, o + 3, none⟩ = some v := ⟨_, h2.c (o + 3) _ (List.getElem?_eq_getElem (by (try simp); omega))⟩
  have h3 := h2.set (o := o + 2) (by (try simp); omega) (.int .i64 1)
  have K3 : Keeps (fun k => k = b) w (W1.drew.setCell ⟨b, o + 2, none⟩ (.int .i64 1)) := K2.setCell (p := ⟨b, o + 2, none⟩) (fun _ => rfl) _
  have h3 := h3.set (o := o + 3) (by (try simp); omega) (.int .i64 1)
  have K3 : Keeps (fun k => k = b) w ((W1.drew.setCell ⟨b, o + 2, none⟩ (.int .i64 1)).setCell ⟨b, o + 3, none⟩ (.int .i64 1)) := K3.setCell (p := ⟨b, o + 3, none⟩) (fun _ => rfl) _
  clear h1 h2 hR1 K1 K2 m1 d3 d25
  generalize W1.drew = W2 at *
  go_wp2_with fail
  go_ret
  exact ⟨rfl, h3, K3⟩
set_option maxHeartbeats 1600000 in
set_option maxRecDepth 1000000 in
theorem next_go2 {L : List Value} (h : CL w b L) (hl : o + 3 < L.length) (e0 : L[o]? = some (.int .i64 1)) (e1 : L[o + 1]? = some (.int .i64 tr)) (e2 : L[o + 2]? = some (.int .i64 0)) (e3 : L[o + 3]? = some (.int .i64 0)) {k : Int} (k1 : (k == 1) = false) (k2 : (k == 2) = false) (hk : r.kind = k) (ht : r.try_ = tr) (hf : r.fin = 2) :
    Calls Tryz.prog 20 #[.pointer (some ⟨b, o, none⟩), .agg r.cells.toArray] w fun e w' => e = .returned (.bool true) ∧ CL w' b ((L.set (o + 2) (.int .i64 2)).set (o + 3) (.int .i64 2)) ∧ Keeps (fun k => k = b) w w' := by
  have K0 : Keeps (fun _ => False) w (w.alloc (.cells r.cells.toArray 36)) := (Keeps.refl _ w).alloc _
  have hR : CL (w.alloc (.cells r.cells.toArray 36)) w.heap.size r.cells := CL.made _ _ _
  have h0 := h.keep (by omega) K0 (fun e => e)
  have hl' := hl
  have c3 := hR.c 3 _ rfl
  have c5 := hR.c 5 _ rfl
  have c25 := hR.c 25 _ rfl
  have l0 := h0.c _ _ e0
  have l1 := h0.c _ _ e1
  have l2 := h0.c _ _ e2
  have l3 := h0.c _ _ e3
  have z0 := h0.z o (by omega)
  have z1 := h0.z (o + 1) (by omega)
  have z2 := h0.z (o + 2) (by omega)
  have z3 := h0.z (o + 3) (by omega)
  have lt := h.lt (by omega)
  have nb : ¬ b = w.heap.size := by omega
  have nb' : ¬ w.heap.size = b := by omega
  rw [hk] at c5
  rw [ht] at c3
  rw [hf] at c25
  clear hk lt h hl
  have ht : Hid (r.try_ = tr) := ht
  have hf : Hid (r.fin = 2) := hf
  go_enter Tryz.func20, Tryz.ntmps20
  go_wp2_with fail
  have k1 : Keeps (fun k => k = b) (w.alloc (.cells r.cells.toArray 36)) (w.alloc (.cells r.cells.toArray 36)) := Keeps.refl _ _
  have h1 : CL (w.alloc (.cells r.cells.toArray 36)) b L := h0
  have hR1 := hR
  have K1 : Keeps (fun k => k = b) w (w.alloc (.cells r.cells.toArray 36)) := (K0.mono (fun _ _ e => e.elim)).trans k1
  clear k1 hR h0 l0 l1 l2 l3 z0 z1 z2 z3 c3 c5 c25 K0
  generalize (w.alloc (.cells r.cells.toArray 36)) = W1 at *
  have d3 := hR1.c 3 _ rfl
  have d25 := hR1.c 25 _ rfl
  rw [ht.out] at d3
  rw [hf.out] at d25
  have m1 : W1.cell? ⟨b, o + 1, none⟩ = some (.int .i64 tr) := h1.c (o + 1) _ e1
  go_region_held3 (fun w' => w'.cell? ⟨w.heap.size, 3, none⟩ = some (.int .i64 tr) ∧ w'.cell? ⟨b, o + 1, none⟩ = some (.int .i64 tr)) (go_keep) (fail)
  rename_i hHeld
  clear hHeld
  have K2 := K1.drew
  have h2 := h1.drew
  have y2 := h2.z (o + 2) (by (try simp); omega)
  have y3 := h2.z (o + 3) (by (try simp); omega)
  have q25 := hR1.drew.c 25 _ rfl
  rw [hf.out] at q25
  obtain ⟨v2, x2⟩ : ∃ v, W1.drew.cell? ⟨b, o + 2, none⟩ = some v := ⟨_, h2.c (o + 2) _ (List.getElem?_eq_getElem (by (try simp); omega))⟩
  obtain ⟨v3, x3⟩ : ∃ v, W1.drew.cell? ⟨b, o + 3, none⟩ = some v := ⟨_, h2.c (o + 3) _ (List.getElem?_eq_getElem (by (try simp); omega))⟩
  have h3 := h2.set (o := o + 2) (by (try simp); omega) (.int .i64 2)
  have K3 : Keeps (fun k => k = b) w (W1.drew.setCell ⟨b, o + 2, none⟩ (.int .i64 2)) := K2.setCell (p := ⟨b, o + 2, none⟩) (fun _ => rfl) _
  have h3 := h3.set (o := o + 3) (by (try simp); omega) (.int .i64 2)
  have K3 : Keeps (fun k => k = b) w ((W1.drew.setCell ⟨b, o + 2, none⟩ (.int .i64 2)).setCell ⟨b, o + 3, none⟩ (.int .i64 2)) := K3.setCell (p := ⟨b, o + 3, none⟩) (fun _ => rfl) _
  clear h1 h2 hR1 K1 K2 m1 d3 d25
  generalize W1.drew = W2 at *
  go_wp2_with fail
  go_ret
  exact ⟨rfl, h3, K3⟩
set_option maxHeartbeats 1600000 in
set_option maxRecDepth 1000000 in
theorem next_go3 {L : List Value} (h : CL w b L) (hl : o + 3 < L.length) (e0 : L[o]? = some (.int .i64 1)) (e1 : L[o + 1]? = some (.int .i64 tr)) (e2 : L[o + 2]? = some (.int .i64 0)) (e3 : L[o + 3]? = some (.int .i64 0)) {k : Int} (k1 : (k == 1) = false) (k2 : (k == 2) = false) (hk : r.kind = k) (ht : r.try_ = tr) (hf : r.fin = 3) :
    Calls Tryz.prog 20 #[.pointer (some ⟨b, o, none⟩), .agg r.cells.toArray] w fun e w' => e = .returned (.bool true) ∧ CL w' b ((L.set (o + 2) (.int .i64 3)).set (o + 3) (.int .i64 3)) ∧ Keeps (fun k => k = b) w w' := by
  have K0 : Keeps (fun _ => False) w (w.alloc (.cells r.cells.toArray 36)) := (Keeps.refl _ w).alloc _
  have hR : CL (w.alloc (.cells r.cells.toArray 36)) w.heap.size r.cells := CL.made _ _ _
  have h0 := h.keep (by omega) K0 (fun e => e)
  have hl' := hl
  have c3 := hR.c 3 _ rfl
  have c5 := hR.c 5 _ rfl
  have c25 := hR.c 25 _ rfl
  have l0 := h0.c _ _ e0
  have l1 := h0.c _ _ e1
  have l2 := h0.c _ _ e2
  have l3 := h0.c _ _ e3
  have z0 := h0.z o (by omega)
  have z1 := h0.z (o + 1) (by omega)
  have z2 := h0.z (o + 2) (by omega)
  have z3 := h0.z (o + 3) (by omega)
  have lt := h.lt (by omega)
  have nb : ¬ b = w.heap.size := by omega
  have nb' : ¬ w.heap.size = b := by omega
  rw [hk] at c5
  rw [ht] at c3
  rw [hf] at c25
  clear hk lt h hl
  have ht : Hid (r.try_ = tr) := ht
  have hf : Hid (r.fin = 3) := hf
  go_enter Tryz.func20, Tryz.ntmps20
  go_wp2_with fail
  have k1 : Keeps (fun k => k = b) (w.alloc (.cells r.cells.toArray 36)) (w.alloc (.cells r.cells.toArray 36)) := Keeps.refl _ _
  have h1 : CL (w.alloc (.cells r.cells.toArray 36)) b L := h0
  have hR1 := hR
  have K1 : Keeps (fun k => k = b) w (w.alloc (.cells r.cells.toArray 36)) := (K0.mono (fun _ _ e => e.elim)).trans k1
  clear k1 hR h0 l0 l1 l2 l3 z0 z1 z2 z3 c3 c5 c25 K0
  generalize (w.alloc (.cells r.cells.toArray 36)) = W1 at *
  have d3 := hR1.c 3 _ rfl
  have d25 := hR1.c 25 _ rfl
  rw [ht.out] at d3
  rw [hf.out] at d25
  have m1 : W1.cell? ⟨b, o + 1, none⟩ = some (.int .i64 tr) := h1.c (o + 1) _ e1
  go_region_held3 (fun w' => w'.cell? ⟨w.heap.size, 3, none⟩ = some (.int .i64 tr) ∧ w'.cell? ⟨b, o + 1, none⟩ = some (.int .i64 tr)) (go_keep) (fail)
  rename_i hHeld
  clear hHeld
  have K2 := K1.drew
  have h2 := h1.drew
  have y2 := h2.z (o + 2) (by (try simp); omega)
  have y3 := h2.z (o + 3) (by (try simp); omega)
  have q25 := hR1.drew.c 25 _ rfl
  rw [hf.out] at q25
  obtain ⟨v2, x2⟩ : ∃ v, W1.drew.cell? ⟨b, o + 2, none⟩ = some v := ⟨_, h2.c (o + 2) _ (List.getElem?_eq_getElem (by (try simp); omega))⟩
  obtain ⟨v3, x3⟩ : ∃ v, W1.drew.cell? ⟨b, o + 3, none⟩ = some v := ⟨_, h2.c (o + 3) _ (List.getElem?_eq_getElem (by (try simp); omega))⟩
  have h3 := h2.set (o := o + 2) (by (try simp); omega) (.int .i64 3)
  have K3 : Keeps (fun k => k = b) w (W1.drew.setCell ⟨b, o + 2, none⟩ (.int .i64 3)) := K2.setCell (p := ⟨b, o + 2, none⟩) (fun _ => rfl) _
  have h3 := h3.set (o := o + 3) (by (try simp); omega) (.int .i64 3)
  have K3 : Keeps (fun k => k = b) w ((W1.drew.setCell ⟨b, o + 2, none⟩ (.int .i64 3)).setCell ⟨b, o + 3, none⟩ (.int .i64 3)) := K3.setCell (p := ⟨b, o + 3, none⟩) (fun _ => rfl) _
  clear h1 h2 hR1 K1 K2 m1 d3 d25
  generalize W1.drew = W2 at *
  go_wp2_with fail
  go_ret
  exact ⟨rfl, h3, K3⟩
end
end Go.Proofs.YtoimbohbcnaehaaGreatDoor

namespace Go.Proofs.YtoimbohbcnaehaaGreatDoor
open Go.RowKit
structure LI (bg tr en oc : Int) (p : Pt) : Prop where
  bg : (p.T.a = none ∧ bg = 0) ∨ (p.T.a ≠ none ∧ bg = 1)
  tr : tr = p.T.tr
  oc : oc = p.T.oc
  al : ∀ ab, p.T.a = some ab → p.x.alive = true → en = 0
  de : ∀ ab, p.T.a = some ab → p.x.alive = false → p.T.oc = 0 → en = 4 ∨ en = 5
  ou : p.T.oc ≠ 0 → en ≠ 4 ∧ en ≠ 5
section
variable {kd t i : Nat} {p p' : Pt} {s s' : Ws} {m m' : Mm} {r : Ro} {bg tr en oc : Int}
theorem li_step (hq : PQ kd t i p s m) (h : LI bg tr en oc p) (hoc : p.T.oc = 0) (si : SI kd t i p p' s m r s' m') :
    (bg = 0 ∧ r.kind = 1 ∧ r.try_ = 1 ∧ r.fin = 0 ∧ LI 1 1 0 0 p') ∨
    (bg = 1 ∧ (en = 4 ∨ en = 5) ∧ r.kind = 2 ∧ r.try_ = tr + 1 ∧ r.fin = 0 ∧ LI 1 (tr + 1) 0 0 p') ∨
    (bg = 1 ∧ en = 0 ∧ r.kind ≠ 1 ∧ r.kind ≠ 2 ∧ r.try_ = tr ∧ 0 ≤ r.fin ∧ r.fin ≤ 5 ∧ LI 1 tr r.fin (if isOut r.fin = true then r.fin else 0) p') := by
  have ht := h.tr
  cases si with
  | begin ab c a e hc hp hs hm =>
    have n0 := hq.no a
    subst e hp
    refine .inl ⟨?_, rfl, ?_, rfl, .inr ⟨fun e => (by cases e), rfl⟩, ?_, hoc.symm, fun _ _ _ => rfl, fun _ _ e => (by cases e), fun e => absurd hoc e⟩
    · rcases h.bg with e | e
      · exact e.2
      · exact absurd a e.1
    · show p.T.tr + 1 = 1
      omega
    · show 1 = p.T.tr + 1
      omega
  | again ab0 ab q c a d hq' e hc hp hs hm =>
    subst e hp
    refine .inr (.inl ⟨?_, h.de ab0 a d hoc, rfl, ?_, rfl, .inr ⟨fun e => (by cases e), rfl⟩, ?_, hoc.symm, fun _ _ _ => rfl, fun _ _ e => (by cases e), fun e => absurd hoc e⟩)
    · rcases h.bg with e | e
      · rw [a] at e; cases e.1
      · exact e.2
    · show p.T.tr + 1 = tr + 1
      omega
    · show tr + 1 = p.T.tr + 1
      omega
  | go ab r0 a al e hT sp po =>
    subst e
    have fi := po.sr.fi
    have oT : (p.T.out r0.fin).a = p.T.a ∧ (p.T.out r0.fin).tr = p.T.tr ∧ (p.T.out r0.fin).oc = if isOut r0.fin = true then r0.fin else 0 := by
      unfold Tr.out
      split
      · exact ⟨rfl, rfl, rfl⟩
      · exact ⟨rfl, rfl, hoc⟩
    refine .inr (.inr ⟨?_, h.al ab a al, po.sr.k12.1, po.sr.k12.2, ht.symm, ?_, ?_, .inr ⟨?_, rfl⟩, ?_, ?_, fun ab' _ e => ?_, fun ab' _ e e' => ?_, fun e => ?_⟩)
    · rcases h.bg with e | e
      · rw [a] at e; cases e.1
      · exact e.2
    · show 0 ≤ r0.fin
      omega
    · show r0.fin ≤ 5
      omega
    · rw [hT, oT.1, a]; exact fun e => (by cases e)
    · rw [hT, oT.2.1]; exact ht
    · rw [hT, oT.2.2]; rfl
    · rcases fi with f | f
      · exact f.1
      · rw [f.1] at e; cases e
    · rcases fi with f | f
      · rw [f.2] at e; cases e
      · show r0.fin = 4 ∨ r0.fin = 5
        rw [hT, oT.2.2] at e'
        by_cases hi : isOut r0.fin = true
        · rw [if_pos hi] at e'; omega
        · unfold isOut at hi
          simp at hi
          omega
    · rw [hT, oT.2.2] at e
      by_cases hi : isOut r0.fin = true
      · unfold isOut at hi
        simp at hi
        show r0.fin ≠ 4 ∧ r0.fin ≠ 5
        omega
      · exact absurd (if_neg hi) e
theorem li_as (h : LI bg tr en oc p) (sa : AS p p' s s') : LI bg tr en oc p' := by
  refine ⟨?_, ?_, ?_, fun ab ha e => ?_, fun ab ha e e' => ?_, by rw [sa.T]; exact h.ou⟩
  · rw [sa.T]; exact h.bg
  · rw [sa.T]; exact h.tr
  · rw [sa.T]; exact h.oc
  · rw [sa.T] at ha; rw [sa.al] at e; exact h.al ab ha e
  · rw [sa.T] at ha e'; rw [sa.al] at e; exact h.de ab ha e e'
end
end Go.Proofs.YtoimbohbcnaehaaGreatDoor

namespace Go.Proofs.YtoimbohbcnaehaaGreatDoor
open Go.RowKit
def lv (bg tr en oc : Nat → Int) : List Value :=
  [.int .i64 (bg 0), .int .i64 (tr 0), .int .i64 (en 0), .int .i64 (oc 0), .int .i64 (bg 1), .int .i64 (tr 1), .int .i64 (en 1), .int .i64 (oc 1), .int .i64 (bg 2), .int .i64 (tr 2), .int .i64 (en 2), .int .i64 (oc 2), .int .i64 (bg 3), .int .i64 (tr 3), .int .i64 (en 3), .int .i64 (oc 3)]
def up (i : Nat) (v : Int) (f : Nat → Int) (k : Nat) : Int := if k = i then v else f k
theorem up_self (i : Nat) (v : Int) (f : Nat → Int) : up i v f i = v := if_pos rfl
theorem up_ne {i k : Nat} (v : Int) (f : Nat → Int) (h : k ≠ i) : up i v f k = f k := if_neg h
section
variable {bg tr en oc : Nat → Int} {i : Nat}
theorem lv_len : (lv bg tr en oc).length = 16 := rfl
theorem lv_get (hi : i < 4) : (lv bg tr en oc)[4 * i]? = some (.int .i64 (bg i)) ∧ (lv bg tr en oc)[4 * i + 1]? = some (.int .i64 (tr i)) ∧ (lv bg tr en oc)[4 * i + 2]? = some (.int .i64 (en i)) ∧ (lv bg tr en oc)[4 * i + 3]? = some (.int .i64 (oc i)) := by
  rcases (by omega : i = 0 ∨ i = 1 ∨ i = 2 ∨ i = 3) with rfl | rfl | rfl | rfl <;> exact ⟨rfl, rfl, rfl, rfl⟩
theorem lv_set0 (hi : i < 4) (v : Int) : (lv bg tr en oc).set (4 * i) (.int .i64 v) = lv (up i v bg) tr en oc := by
  rcases (by omega : i = 0 ∨ i = 1 ∨ i = 2 ∨ i = 3) with rfl | rfl | rfl | rfl <;> rfl
theorem lv_set1 (hi : i < 4) (v : Int) : (lv bg tr en oc).set (4 * i + 1) (.int .i64 v) = lv bg (up i v tr) en oc := by
  rcases (by omega : i = 0 ∨ i = 1 ∨ i = 2 ∨ i = 3) with rfl | rfl | rfl | rfl <;> rfl
theorem lv_set2 (hi : i < 4) (v : Int) : (lv bg tr en oc).set (4 * i + 2) (.int .i64 v) = lv bg tr (up i v en) oc := by
  rcases (by omega : i = 0 ∨ i = 1 ∨ i = 2 ∨ i = 3) with rfl | rfl | rfl | rfl <;> rfl
theorem lv_set3 (hi : i < 4) (v : Int) : (lv bg tr en oc).set (4 * i + 3) (.int .i64 v) = lv bg tr en (up i v oc) := by
  rcases (by omega : i = 0 ∨ i = 1 ∨ i = 2 ∨ i = 3) with rfl | rfl | rfl | rfl <;> rfl
structure LU (w : World) (b i : Nat) (bg tr en oc : Nat → Int) (p' : Pt) (bg' tr' en' oc' : Nat → Int) (w' : World) : Prop where
  cl : CL w' b (lv bg' tr' en' oc')
  ne : ∀ k, k ≠ i → bg' k = bg k ∧ tr' k = tr k ∧ en' k = en k ∧ oc' k = oc k
  li : LI (bg' i) (tr' i) (en' i) (oc' i) p'
  k : Keeps (fun k => k = b) w w'
theorem next_li {w : World} {b kd t : Nat} {p p' : Pt} {s s' : Ws} {m m' : Mm} {r : Ro} (h : CL w b (lv bg tr en oc)) (hi : i < 4) (hq : PQ kd t i p s m) (hL : LI (bg i) (tr i) (en i) (oc i) p) (hoc : p.T.oc = 0) (ht : t ≤ 5000) (si : SI kd t i p p' s m r s' m') :
    Calls Tryz.prog 20 #[.pointer (some ⟨b, 4 * i, none⟩), .agg r.cells.toArray] w fun e w' => ∃ bg' tr' en' oc', e = .returned (.bool true) ∧ LU w b i bg tr en oc p' bg' tr' en' oc' w' := by
  have g := lv_get (bg := bg) (tr := tr) (en := en) (oc := oc) hi
  have hl : 4 * i + 3 < (lv bg tr en oc).length := by rw [lv_len]; omega
  have o0 : oc i = 0 := hL.oc.trans hoc
  have t0 := hL.tr
  have tq := hq.tr
  rcases li_step hq hL hoc si with ⟨b0, k1, t1, f1, l1⟩ | ⟨b1, e1, k1, t1, f1, l1⟩ | ⟨b1, e1, k1, k2, t1, f1, f2, l1⟩
  · refine (next_begin h hl (by rw [g.1, b0]) g.2.1 g.2.2.1 (by rw [g.2.2.2, o0]) k1 t1 f1).mono ?_
    rintro e w' ⟨rfl, c, k⟩
    rw [lv_set0 hi, lv_set1 hi, lv_set2 hi] at c
    refine ⟨_, _, _, _, rfl, c, fun k hk => ⟨up_ne _ _ hk, up_ne _ _ hk, up_ne _ _ hk, rfl⟩, ?_, k⟩
    rw [up_self, up_self, up_self, o0]
    exact l1
  · have hw : IntKind.i64.wrap (tr i + 1) = tr i + 1 := by rw [IntKind.wrap_i64]; omega
    have fin : ∀ w', CL w' b ((((lv bg tr en oc).set (4 * i + 1) (.int .i64 (tr i + 1))).set (4 * i + 2) (.int .i64 0)).set (4 * i + 2) (.int .i64 0)) → Keeps (fun k => k = b) w w' → ∃ bg' tr' en' oc', LU w b i bg tr en oc p' bg' tr' en' oc' w' := fun w' c k => by
      rw [lv_set1 hi, lv_set2 hi, lv_set2 hi] at c
      refine ⟨_, _, _, _, c, fun k hk => ⟨rfl, up_ne _ _ hk, ?_, rfl⟩, ?_, k⟩
      · rw [up_ne _ _ hk, up_ne _ _ hk]
      · rw [up_self, up_self, o0, b1]
        exact l1
    rcases e1 with e1 | e1
    · refine (next_again4 h hl (by rw [g.1, b1]) g.2.1 (by rw [g.2.2.1, e1]) (by rw [g.2.2.2, o0]) hw k1 t1 f1).mono ?_
      rintro e w' ⟨rfl, c, k⟩
      obtain ⟨a1, a2, a3, a4, u⟩ := fin w' c k
      exact ⟨a1, a2, a3, a4, rfl, u⟩
    · refine (next_again5 h hl (by rw [g.1, b1]) g.2.1 (by rw [g.2.2.1, e1]) (by rw [g.2.2.2, o0]) hw k1 t1 f1).mono ?_
      rintro e w' ⟨rfl, c, k⟩
      obtain ⟨a1, a2, a3, a4, u⟩ := fin w' c k
      exact ⟨a1, a2, a3, a4, rfl, u⟩
  · have n1 : (r.kind == 1) = false := by simpa using k1
    have n2 : (r.kind == 2) = false := by simpa using k2
    have fin0 : ∀ w', isOut r.fin = false → CL w' b ((lv bg tr en oc).set (4 * i + 2) (.int .i64 r.fin)) → Keeps (fun k => k = b) w w' → ∃ bg' tr' en' oc', LU w b i bg tr en oc p' bg' tr' en' oc' w' := fun w' ho c k => by
      rw [lv_set2 hi] at c
      refine ⟨_, _, _, _, c, fun k hk => ⟨rfl, rfl, up_ne _ _ hk, rfl⟩, ?_, k⟩
      rw [up_self, o0, b1]
      rw [if_neg (by rw [ho]; decide)] at l1
      exact l1
    have fin1 : ∀ w', isOut r.fin = true → CL w' b (((lv bg tr en oc).set (4 * i + 2) (.int .i64 r.fin)).set (4 * i + 3) (.int .i64 r.fin)) → Keeps (fun k => k = b) w w' → ∃ bg' tr' en' oc', LU w b i bg tr en oc p' bg' tr' en' oc' w' := fun w' ho c k => by
      rw [lv_set2 hi, lv_set3 hi] at c
      refine ⟨_, _, _, _, c, fun k hk => ⟨rfl, rfl, up_ne _ _ hk, up_ne _ _ hk⟩, ?_, k⟩
      rw [up_self, up_self, b1]
      rw [if_pos ho] at l1
      exact l1
    rcases (by omega : r.fin = 0 ∨ r.fin = 1 ∨ r.fin = 2 ∨ r.fin = 3 ∨ r.fin = 4 ∨ r.fin = 5) with hf | hf | hf | hf | hf | hf
    · refine (next_go0 h hl (by rw [g.1, b1]) g.2.1 (by rw [g.2.2.1, e1]) (by rw [g.2.2.2, o0]) n1 n2 rfl t1 hf).mono ?_
      rintro e w' ⟨rfl, c, k⟩
      obtain ⟨a1, a2, a3, a4, u⟩ := fin0 w' (by rw [hf]; rfl) (by rw [hf]; exact c) k
      exact ⟨a1, a2, a3, a4, rfl, u⟩
    · refine (next_go1 h hl (by rw [g.1, b1]) g.2.1 (by rw [g.2.2.1, e1]) (by rw [g.2.2.2, o0]) n1 n2 rfl t1 hf).mono ?_
      rintro e w' ⟨rfl, c, k⟩
      obtain ⟨a1, a2, a3, a4, u⟩ := fin1 w' (by rw [hf]; rfl) (by rw [hf]; exact c) k
      exact ⟨a1, a2, a3, a4, rfl, u⟩
    · refine (next_go2 h hl (by rw [g.1, b1]) g.2.1 (by rw [g.2.2.1, e1]) (by rw [g.2.2.2, o0]) n1 n2 rfl t1 hf).mono ?_
      rintro e w' ⟨rfl, c, k⟩
      obtain ⟨a1, a2, a3, a4, u⟩ := fin1 w' (by rw [hf]; rfl) (by rw [hf]; exact c) k
      exact ⟨a1, a2, a3, a4, rfl, u⟩
    · refine (next_go3 h hl (by rw [g.1, b1]) g.2.1 (by rw [g.2.2.1, e1]) (by rw [g.2.2.2, o0]) n1 n2 rfl t1 hf).mono ?_
      rintro e w' ⟨rfl, c, k⟩
      obtain ⟨a1, a2, a3, a4, u⟩ := fin1 w' (by rw [hf]; rfl) (by rw [hf]; exact c) k
      exact ⟨a1, a2, a3, a4, rfl, u⟩
    · refine (next_go4 h hl (by rw [g.1, b1]) g.2.1 (by rw [g.2.2.1, e1]) (by rw [g.2.2.2, o0]) n1 n2 rfl t1 hf).mono ?_
      rintro e w' ⟨rfl, c, k⟩
      obtain ⟨a1, a2, a3, a4, u⟩ := fin0 w' (by rw [hf]; rfl) (by rw [hf]; exact c) k
      exact ⟨a1, a2, a3, a4, rfl, u⟩
    · refine (next_go5 h hl (by rw [g.1, b1]) g.2.1 (by rw [g.2.2.1, e1]) (by rw [g.2.2.2, o0]) n1 n2 rfl t1 hf).mono ?_
      rintro e w' ⟨rfl, c, k⟩
      obtain ⟨a1, a2, a3, a4, u⟩ := fin0 w' (by rw [hf]; rfl) (by rw [hf]; exact c) k
      exact ⟨a1, a2, a3, a4, rfl, u⟩
end
end Go.Proofs.YtoimbohbcnaehaaGreatDoor

