import Derived.Test.YtckjnjdmnhmgeaaGreatDoorXbE
namespace Go.Proofs.YtckjnjdmnhmgeaaGreatDoor
open Go.RowKit Go.ChangeShapes Go.WideShapes Go.ChangeAt Go.Deep Go.Maps Go.ChangeMaps Go.MapKept
attribute [local go_sem] Oper.semAt_some run_store_nf run_store_f
theorem iSv : (Tryz.prog.info? 63).map (·.size) = some 4 := by kernel_rfl
abbrev zV : List Value := [.bool false, .slice none 0 0, .map none, .map none]
theorem one4v {a b : Nat} : ([.bool false, .slice none 0 0, .map (some a), .map (some b)] : List Value).toArray.all (·.oneCell') = true := all_oneCell_toArray (by simp [Value.oneCell'])
theorem mmap_new {W : World} {mb : Nat} {G : Nat → Nat → Nat → Nat → Prop} (h : W.heap[mb]? = some (.map #[] 0)) : MMap W mb G := ⟨#[], 0, h, fun e he => by simp at he⟩
set_option maxHeartbeats 2000000 in
set_option maxRecDepth 100000 in
theorem names_any {w : World} {q : Option Addr} {cq : Nat} {ps : List St} {xs : List Value} (hG : SG w) (h12 : 12 ≤ w.heap.size) (ho : OwnP w (fun g => g < w.heap.size) 33 12 (.slice q ps.length cq) ps.length xs) (hl : SL w (fun g => g < w.heap.size) 31 33 ps xs) (hb : bgSL ps ≤ 1099511627776) :
    Calls Tryz.prog 17 #[.slice q ps.length cq] w fun e w' => ∃ pn n c, e = .returned (.tuple #[.slice pn n c, .int .i64 (chk ps)]) ∧ Keeps (fun _ => False) w w' := by
  obtain ⟨W1, hW1⟩ : ∃ W1, W1 = w.alloc (.map #[] 0) := ⟨_, rfl⟩
  have hmm1 : (Instr.makeMap 60 none).run Tryz.prog w = .ok (.map (some w.heap.size)) W1 := by rw [hW1]; exact run_makeMap _ _
  obtain ⟨W2, hW2⟩ : ∃ W2, W2 = W1.alloc (.map #[] 0) := ⟨_, rfl⟩
  have hmm2 : (Instr.makeMap 61 none).run Tryz.prog W1 = .ok (.map (some W1.heap.size)) W2 := by rw [hW2]; exact run_makeMap _ _
  have k1 : Keeps (fun _ => False) w W1 := by rw [hW1]; exact (Keeps.refl _ w).alloc _
  have k2 : Keeps (fun _ => False) W1 W2 := by rw [hW2]; exact (Keeps.refl _ W1).alloc _
  have z1 : W1.heap.size = w.heap.size + 1 := by rw [hW1]; simp
  have z2 : W2.heap.size = w.heap.size + 1 + 1 := by rw [hW2, ← z1]; simp
  have m1 : W1.heap[w.heap.size]? = some (.map #[] 0) := by rw [hW1]; exact (show (w.heap.push (.map #[] 0))[w.heap.size]? = some _ from by simp)
  have M1 : Hid (W2.heap[w.heap.size]? = some (.map #[] 0)) := by show _ = _; rw [k2.block _ (by omega) (fun e => e)]; exact m1
  have M2 : Hid (W2.heap[W1.heap.size]? = some (.map #[] 0)) := by show _ = _; rw [hW2]; exact (show (W1.heap.push (.map #[] 0))[W1.heap.size]? = some _ from by simp)
  have K02 : Hid (Keeps (fun _ => False) w W2) := k1.trans k2
  clear hW1 hW2 k1 k2 m1
  unfold chk
  go_enter Tryz.func17, Tryz.ntmps17
  refine wp_seq_k (fun K0 h0 => ?_)
  have H0 : Hid _ := h0
  clear h0
  go_wp2_with fail
  refine H0.out _ _ ?_
  clear H0 K0
  refine wp_seq_k (fun K0 h0 => ?_)
  have H0 : Hid _ := h0
  clear h0
  go_wp2_with fail
  refine H0.out _ _ ?_
  clear H0 K0
  obtain ⟨w3, hw3⟩ : ∃ w3, w3 = W2.alloc (.cells ([.bool false, .slice none 0 0, .map (some w.heap.size), .map (some (w.heap.size + 1))] : List Value).toArray 63) := ⟨_, rfl⟩
  have hw4 : W2.alloc (.cells #[.bool false, .slice none 0 0, .map (some w.heap.size), .map (some (w.heap.size + 1))] 63) = w3 := hw3.symm
  rw [hw4]
  clear hw4
  have c3 : CL w3 (w.heap.size + 1 + 1) [.bool false, .slice none 0 0, .map (some w.heap.size), .map (some (w.heap.size + 1))] := by rw [hw3, ← z2]; exact CL.made W2 _ _
  have K3 : Keeps (fun _ => False) W2 w3 := by rw [hw3]; exact (Keeps.refl (fun _ => False) W2).alloc _
  clear hw3
  rw [z1] at M2
  have K03 : Keeps (fun _ => False) w w3 := K02.out.trans K3
  have st3 : Stay (fun g => g < w.heap.size) w w3 := K03.stay (fun _ _ _ e => e)
  have V3 : SV w3 w.heap.size (w.heap.size + 1 + 1) w.heap.size (w.heap.size + 1) false [] none 0 := ⟨c3, ownP_nil _ _ _ _, mmap_new (by rw [K3.block _ (by omega) (fun e => e)]; exact M1.out), mmap_new (by rw [K3.block _ (by omega) (fun e => e)]; exact M2.out), hG.keep K03 (fun _ _ e => e), by omega, by omega, by omega, by omega, (fun g e => by cases e), by simp, h12⟩
  have hS := css_of (cxs_all 1099511627776 (Nat.le_refl _)) (Nat.le_refl _) ps hb w3 w.heap.size (w.heap.size + 1 + 1) w.heap.size (w.heap.size + 1) false [] none 0 q cq xs V3 (ho.stay st3) (hl.stay st3)
  have hlw := V3.low
  clear K3 c3 hmm1 hmm2 st3 K02 M1 M2 V3 z1 z2 ho hl hG
  rw [Bool.false_or] at hS
  generalize hwq : wrSL ps = wq at *
  generalize hnq : nmSL ps [] = nq at *
  generalize hs1 : (szSL ps).1 = s1 at *
  generalize hs2 : (szSL ps).2 = s2 at *
  clear hwq hnq hs1 hs2
  refine wp_seq_k (fun K0 h0 => ?_)
  have H0 : Hid _ := h0
  clear h0
  go_wp2_with (go_at_call 22; refine hS.mono ?_; rintro e w4 ⟨rfl, T4⟩; clear hS)
  refine H0.out _ _ ?_
  clear H0 K0
  obtain ⟨p4, c4, V4, n4, k4⟩ := T4
  obtain ⟨w5, hw5⟩ : ∃ w5, w5 = w4.alloc (.cells ([.int .i64 (s1 : Int), .int .i64 (s2 : Int)] : List Value).toArray 65) := ⟨_, rfl⟩
  have hw6 : w4.alloc (.cells #[.int .i64 (s1 : Int), .int .i64 (s2 : Int)] 65) = w5 := hw5.symm
  rw [hw6]
  clear hw6
  have c5 : CL w5 w4.heap.size [.int .i64 (s1 : Int), .int .i64 (s2 : Int)] := by rw [hw5]; exact CL.made w4 _ _
  have K5 : Keeps (fun _ => False) w4 w5 := by rw [hw5]; exact (Keeps.refl (fun _ => False) w4).alloc _
  clear hw5
  have V5 := V4.keep0 K5
  have x0 := V5.cl.c 0 _ rfl
  have x1 := V5.cl.c 1 _ rfl
  have y0 := c5.c 0 _ rfl
  have y1 := c5.c 1 _ rfl
  have FIN : Hid (Keeps (fun _ => False) w w5) := ((K03.trans' k4 (U := fun i => w.heap.size ≤ i) (fun _ _ e => e.elim) (fun i hi e => by have := hlw i e; omega)).trans (K5.mono (fun _ _ e => e.elim))).mono (fun i hi e => by omega)
  clear V5 V4 c5 K5 k4 n4 K03 hlw
  cases wq with
  | true =>
    rw [if_pos rfl]
    go_wp2_with fail
    go_ret2
    exact ⟨_, _, _, rfl, FIN.out⟩
  | false =>
    rw [if_neg (by decide)]
    by_cases h1 : 8 < nq.length
    · rw [if_pos h1]
      have d1 : decide ((8 : Int) < (nq.length : Int)) = true := decide_eq_true (by omega)
      have e1 : decide (8 < nq.length) = true := decide_eq_true h1
      go_wp2_with fail
      go_ret2
      exact ⟨_, _, _, rfl, FIN.out⟩
    · rw [if_neg h1]
      have d1 : decide ((8 : Int) < (nq.length : Int)) = false := decide_eq_false (by omega)
      have e1 : decide (8 < nq.length) = false := decide_eq_false h1
      by_cases h2 : 24 < s1
      · rw [if_pos h2]
        have d2 : decide ((24 : Int) < (s1 : Int)) = true := decide_eq_true (by omega)
        have e2 : decide (24 < s1) = true := decide_eq_true h2
        go_wp2_with fail
        go_ret2
        exact ⟨_, _, _, rfl, FIN.out⟩
      · rw [if_neg h2]
        have d2 : decide ((24 : Int) < (s1 : Int)) = false := decide_eq_false (by omega)
        have e2 : decide (24 < s1) = false := decide_eq_false h2
        by_cases h3 : 512 < s2
        · rw [if_pos h3]
          have d3 : decide ((512 : Int) < (s2 : Int)) = true := decide_eq_true (by omega)
          have e3 : decide (512 < s2) = true := decide_eq_true h3
          go_wp2_with fail
          go_ret2
          exact ⟨_, _, _, rfl, FIN.out⟩
        · rw [if_neg h3]
          have d3 : decide ((512 : Int) < (s2 : Int)) = false := decide_eq_false (by omega)
          have e3 : decide (512 < s2) = false := decide_eq_false h3
          go_wp2_with fail
          go_ret2
          exact ⟨_, _, _, rfl, FIN.out⟩
set_option maxHeartbeats 1000000 in
set_option maxRecDepth 100000 in
theorem check_any {w : World} {q : Option Addr} {cq : Nat} {ps : List St} {xs : List Value} (hG : SG w) (h12 : 12 ≤ w.heap.size) (ho : OwnP w (fun g => g < w.heap.size) 33 12 (.slice q ps.length cq) ps.length xs) (hl : SL w (fun g => g < w.heap.size) 31 33 ps xs) (hb : bgSL ps ≤ 1099511627776) :
    Calls Tryz.prog 7 #[.slice q ps.length cq] w fun e w' => e = .returned (.int .i64 (chk ps)) ∧ Keeps (fun _ => False) w w' := by
  have hN := names_any hG h12 ho hl hb
  generalize chk ps = C at *
  go_enter Tryz.func7, Tryz.ntmps7
  go_wp2_with (go_at_call 17; refine hN.mono ?_; rintro e w1 ⟨pn, n, c, rfl, k1⟩)
  go_ret
  exact ⟨rfl, k1⟩
end Go.Proofs.YtckjnjdmnhmgeaaGreatDoor
