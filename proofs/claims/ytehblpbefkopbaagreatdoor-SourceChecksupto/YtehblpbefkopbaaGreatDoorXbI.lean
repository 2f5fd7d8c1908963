import Derived.Test.YtehblpbefkopbaaGreatDoorXbE
import Derived.Test.YtehblpbefkopbaaGreatDoorXaS
namespace Go.Proofs.YtehblpbefkopbaaGreatDoor
open Go.RowKit Go.ChangeShapes Go.WideShapes Go.ChangeAt Go.Deep Go.Maps Go.ChangeMaps Go.MapKept
attribute [local go_sem] Oper.semAt_some run_store_nf run_store_f
theorem iSv : (Tryz.prog.info? 59).map (·.size) = some 4 := by kernel_rfl
abbrev zV : List Value := [.bool false, .slice none 0 0, .map none, .map none]
theorem one4v {a b : Nat} : ([.bool false, .slice none 0 0, .map (some a), .map (some b)] : List Value).toArray.all (·.oneCell') = true := all_oneCell_toArray (by simp [Value.oneCell'])
theorem mmap_new {W : World} {mb : Nat} {G : Nat → Nat → Nat → Nat → Prop} (h : W.heap[mb]? = some (.map #[] 0)) : MMap W mb G := ⟨#[], 0, h, fun e he => by simp at he⟩
set_option maxHeartbeats 2000000 in
set_option maxRecDepth 100000 in
theorem names_M {w : World} {q : Option Addr} {cq : Nat} {ps : List St} {xs : List Value} (hG : SG w) (h12 : 12 ≤ w.heap.size) (ho : OwnP w (fun g => g < w.heap.size) 37 12 (.slice q ps.length cq) ps.length xs) (hl : SL w (fun g => g < w.heap.size) 35 37 ps xs) (hF : FtSL ps) (hb : ps.length * 184 ≤ 140737488355327) :
    Calls Tryz.prog 9 #[.slice q ps.length cq] w fun e w' => ∃ pn n c, e = .returned (.tuple #[.slice pn n c, .int .i64 (chkM ps)]) ∧ Keeps (fun _ => False) w w' := by
  obtain ⟨W1, hW1⟩ : ∃ W1, W1 = w.alloc (.map #[] 0) := ⟨_, rfl⟩
  have hmm1 : (Instr.makeMap 56 none).run Tryz.prog w = .ok (.map (some w.heap.size)) W1 := by rw [hW1]; exact run_makeMap _ _
  obtain ⟨W2, hW2⟩ : ∃ W2, W2 = W1.alloc (.map #[] 0) := ⟨_, rfl⟩
  have hmm2 : (Instr.makeMap 57 none).run Tryz.prog W1 = .ok (.map (some W1.heap.size)) W2 := by rw [hW2]; exact run_makeMap _ _
  have k1 : Keeps (fun _ => False) w W1 := by rw [hW1]; exact (Keeps.refl _ w).alloc _
  have k2 : Keeps (fun _ => False) W1 W2 := by rw [hW2]; exact (Keeps.refl _ W1).alloc _
  have z1 : W1.heap.size = w.heap.size + 1 := by rw [hW1]; simp
  have z2 : W2.heap.size = w.heap.size + 1 + 1 := by rw [hW2, ← z1]; simp
  have m1 : W1.heap[w.heap.size]? = some (.map #[] 0) := by rw [hW1]; exact (show (w.heap.push (.map #[] 0))[w.heap.size]? = some _ from by simp)
  have M1 : Hid (W2.heap[w.heap.size]? = some (.map #[] 0)) := by show _ = _; rw [k2.block _ (by omega) (fun e => e)]; exact m1
  have M2 : Hid (W2.heap[W1.heap.size]? = some (.map #[] 0)) := by show _ = _; rw [hW2]; exact (show (W1.heap.push (.map #[] 0))[W1.heap.size]? = some _ from by simp)
  have K02 : Hid (Keeps (fun _ => False) w W2) := k1.trans k2
  clear hW1 hW2 k1 k2 m1
  unfold chkM
  go_enter Tryz.func9, Tryz.ntmps9
  refine wp_seq_k (fun K0 h0 => ?_)
  have H0 : Hid _ := h0
  clear h0
  go_wp2_with fail
  refine H0.out _ _ ?_
  clear H0 K0
  refine wp_seq_k (fun K0 h0 => ?_)
  have H0 : Hid _ := h0
  clear h0
  go_wp2_with fail
  refine H0.out _ _ ?_
  clear H0 K0
  obtain ⟨w3, hw3⟩ : ∃ w3, w3 = W2.alloc (.cells ([.bool false, .slice none 0 0, .map (some w.heap.size), .map (some (w.heap.size + 1))] : List Value).toArray 59) := ⟨_, rfl⟩
  have hw4 : W2.alloc (.cells #[.bool false, .slice none 0 0, .map (some w.heap.size), .map (some (w.heap.size + 1))] 59) = w3 := hw3.symm
  rw [hw4]
  clear hw4
  have c3 : CL w3 (w.heap.size + 1 + 1) [.bool false, .slice none 0 0, .map (some w.heap.size), .map (some (w.heap.size + 1))] := by rw [hw3, ← z2]; exact CL.made W2 _ _
  have K3 : Keeps (fun _ => False) W2 w3 := by rw [hw3]; exact (Keeps.refl (fun _ => False) W2).alloc _
  clear hw3
  rw [z1] at M2
  have K03 : Keeps (fun _ => False) w w3 := K02.out.trans K3
  have st3 : Stay (fun g => g < w.heap.size) w w3 := K03.stay (fun _ _ _ e => e)
  have V3 : SV w3 w.heap.size (w.heap.size + 1 + 1) w.heap.size (w.heap.size + 1) false [] none 0 := ⟨c3, ownP_nil _ _ _ _, mmap_new (by rw [K3.block _ (by omega) (fun e => e)]; exact M1.out), mmap_new (by rw [K3.block _ (by omega) (fun e => e)]; exact M2.out), hG.keep K03 (fun _ _ e => e), by omega, by omega, by omega, by omega, (fun g e => by cases e), by simp, h12⟩
  have hS := css_of (cxs_all (bgSL ps)) ps (Nat.le_refl _) hF hb w3 w.heap.size (w.heap.size + 1 + 1) w.heap.size (w.heap.size + 1) false [] none 0 q cq xs V3 (ho.stay st3) (hl.stay st3)
  have hlw := V3.low
  clear K3 c3 hmm1 hmm2 st3 K02 M1 M2 V3 z1 z2 ho hl hG
  rw [Bool.false_or] at hS
  generalize hwq : wrSL ps = wq at *
  generalize hnq : nmSL ps [] = nq at *
  generalize hs1 : (mzSL ps).1 = s1 at *
  generalize hs2 : (mzSL ps).2 = s2 at *
  clear hwq hnq hs1 hs2
  refine wp_seq_k (fun K0 h0 => ?_)
  have H0 : Hid _ := h0
  clear h0
  go_wp2_with (go_at_call 16; refine hS.mono ?_; rintro e w4 ⟨rfl, T4⟩; clear hS)
  refine H0.out _ _ ?_
  clear H0 K0
  obtain ⟨p4, c4, V4, n4, k4⟩ := T4
  obtain ⟨w5, hw5⟩ : ∃ w5, w5 = w4.alloc (.cells ([.int .i64 (s1 : Int), .int .i64 (s2 : Int)] : List Value).toArray 61) := ⟨_, rfl⟩
  have hw6 : w4.alloc (.cells #[.int .i64 (s1 : Int), .int .i64 (s2 : Int)] 61) = w5 := hw5.symm
  rw [hw6]
  clear hw6
  have c5 : CL w5 w4.heap.size [.int .i64 (s1 : Int), .int .i64 (s2 : Int)] := by rw [hw5]; exact CL.made w4 _ _
  have K5 : Keeps (fun _ => False) w4 w5 := by rw [hw5]; exact (Keeps.refl (fun _ => False) w4).alloc _
  clear hw5
  have V5 := V4.keep0 K5
  have x0 := V5.cl.c 0 _ rfl
  have x1 := V5.cl.c 1 _ rfl
  have y0 := c5.c 0 _ rfl
  have y1 := c5.c 1 _ rfl
  have FIN : Hid (Keeps (fun _ => False) w w5) := ((K03.trans' k4 (U := fun i => w.heap.size ≤ i) (fun _ _ e => e.elim) (fun i hi e => by have := hlw i e; omega)).trans (K5.mono (fun _ _ e => e.elim))).mono (fun i hi e => by omega)
  clear V5 V4 c5 K5 k4 n4 K03 hlw
  cases wq with
  | true =>
    rw [if_pos rfl]
    go_wp2_with fail
    go_ret2
    exact ⟨_, _, _, rfl, FIN.out⟩
  | false =>
    rw [if_neg (by decide)]
    by_cases h1 : 8 < nq.length
    · rw [if_pos h1]
      have d1 : decide ((8 : Int) < (nq.length : Int)) = true := decide_eq_true (by omega)
      have e1 : decide (8 < nq.length) = true := decide_eq_true h1
      go_wp2_with fail
      go_ret2
      exact ⟨_, _, _, rfl, FIN.out⟩
    · rw [if_neg h1]
      have d1 : decide ((8 : Int) < (nq.length : Int)) = false := decide_eq_false (by omega)
      have e1 : decide (8 < nq.length) = false := decide_eq_false h1
      by_cases h2 : 24 < s1
      · rw [if_pos h2]
        have d2 : decide ((24 : Int) < (s1 : Int)) = true := decide_eq_true (by omega)
        have e2 : decide (24 < s1) = true := decide_eq_true h2
        go_wp2_with fail
        go_ret2
        exact ⟨_, _, _, rfl, FIN.out⟩
      · rw [if_neg h2]
        have d2 : decide ((24 : Int) < (s1 : Int)) = false := decide_eq_false (by omega)
        have e2 : decide (24 < s1) = false := decide_eq_false h2
        by_cases h3 : 512 < s2
        · rw [if_pos h3]
          have d3 : decide ((512 : Int) < (s2 : Int)) = true := decide_eq_true (by omega)
          have e3 : decide (512 < s2) = true := decide_eq_true h3
          go_wp2_with fail
          go_ret2
          exact ⟨_, _, _, rfl, FIN.out⟩
        · rw [if_neg h3]
          have d3 : decide ((512 : Int) < (s2 : Int)) = false := decide_eq_false (by omega)
          have e3 : decide (512 < s2) = false := decide_eq_false h3
          go_wp2_with fail
          go_ret2
          exact ⟨_, _, _, rfl, FIN.out⟩
set_option maxHeartbeats 1000000 in
set_option maxRecDepth 100000 in
theorem check_M {w : World} {q : Option Addr} {cq : Nat} {ps : List St} {xs : List Value} (hG : SG w) (h12 : 12 ≤ w.heap.size) (ho : OwnP w (fun g => g < w.heap.size) 37 12 (.slice q ps.length cq) ps.length xs) (hl : SL w (fun g => g < w.heap.size) 35 37 ps xs) (hF : FtSL ps) (hb : ps.length * 184 ≤ 140737488355327) :
    Calls Tryz.prog 4 #[.slice q ps.length cq] w fun e w' => e = .returned (.int .i64 (chkM ps)) ∧ Keeps (fun _ => False) w w' := by
  have hN := names_M hG h12 ho hl hF hb
  generalize chkM ps = C at *
  go_enter Tryz.func4, Tryz.ntmps4
  go_wp2_with (go_at_call 9; refine hN.mono ?_; rintro e w1 ⟨pn, n, c, rfl, k1⟩)
  go_ret
  exact ⟨rfl, k1⟩
mutual
theorem ftE_of : ∀ t : Tr, bgE t ≤ 549755813888 → FtE t
  | .mk k n wd ps, h => by
    unfold bgE at h
    have := bgL_len ps
    unfold FtE
    exact ⟨by omega, ftL_of ps (by omega)⟩
theorem ftL_of : ∀ l : List Tr, bgL l ≤ 549755813888 → FtL l
  | [], _ => by unfold FtL; trivial
  | t :: r, h => by
    unfold bgL at h
    unfold FtL
    exact ⟨ftE_of t (by omega), ftL_of r (by omega)⟩
end
mutual
theorem ftS_of : ∀ t : St, bgS t ≤ 549755813888 → FtS t
  | .mk k wd a b th el, h => by
    unfold bgS at h
    have := bgSL_len th
    have := bgSL_len el
    unfold FtS
    exact ⟨ftE_of a (by omega), ftE_of b (by omega), by omega, ftSL_of th (by omega), by omega, ftSL_of el (by omega)⟩
theorem ftSL_of : ∀ l : List St, bgSL l ≤ 549755813888 → FtSL l
  | [], _ => by unfold FtSL; trivial
  | t :: r, h => by
    unfold bgSL at h
    unfold FtSL
    exact ⟨ftS_of t (by omega), ftSL_of r (by omega)⟩
end
theorem check_any {w : World} {q : Option Addr} {cq : Nat} {ps : List St} {xs : List Value} (hG : SG w) (h12 : 12 ≤ w.heap.size) (ho : OwnP w (fun g => g < w.heap.size) 37 12 (.slice q ps.length cq) ps.length xs) (hl : SL w (fun g => g < w.heap.size) 35 37 ps xs) (hb : bgSL ps ≤ 549755813888) :
    Calls Tryz.prog 4 #[.slice q ps.length cq] w fun e w' => e = .returned (.int .i64 (chk ps)) ∧ Keeps (fun _ => False) w w' := by
  have h := check_M hG h12 ho hl (ftSL_of ps hb) (by have := bgSL_len ps; omega)
  rwa [chkM_eq (by omega)] at h
theorem num_bg {R : Bs} {t : Tr} {R1 : Bs} (h : num R = .ok (t, R1)) : bgE t + R1.length ≤ R.length := by
  have hl := num_lt h
  have : bgE t = 1 := by
    unfold num at h
    split at h
    · first
      | cases h
      | (obtain ⟨R2, h1, h2⟩ := thr_ok h; injection h2 with h2; injection h2 with h2a h2; subst h2a; simp [bgE, bgL])
    · first
      | cases h
      | (split at h <;> first | cases h | (obtain ⟨R2, h1, h2⟩ := thr_ok h; injection h2 with h2; injection h2 with h2a h2; subst h2a; simp [bgE, bgL]))
      | (obtain ⟨R2, h1, h2⟩ := thr_ok h; injection h2 with h2; injection h2 with h2a h2; subst h2a; simp [bgE, bgL])
  omega
theorem rd_bg : ∀ d : Nat,
    (∀ least R t R1, 1 ≤ least → ex d least R = .ok (t, R1) → bgE t + R1.length ≤ R.length) ∧
    (∀ left str least R t R1, 1 ≤ least → lp d left str least R = .ok (t, R1) → bgE t + R1.length ≤ bgE left + R.length) ∧
    (∀ R t R1, opd d R = .ok (t, R1) → bgE t + R1.length ≤ R.length) ∧
    (∀ R t R1, lst d R = .ok (t, R1) → bgE t + R1.length ≤ R.length) ∧
    (∀ R t R1, obj d R = .ok (t, R1) → bgE t + 1 + R1.length ≤ R.length) ∧
    (∀ R t R1, (tok R = kMin ∨ tok R = kMax) → pr d R = .ok (t, R1) → bgE t + R1.length ≤ R.length)
  | 0 => ⟨fun _ _ _ _ _ h => by simp [ex] at h, fun _ _ _ _ _ _ _ h => by simp [lp] at h, fun _ _ _ h => by simp [opd] at h, fun _ _ _ h => by simp [lst] at h, fun _ _ _ h => by simp [obj] at h, fun _ _ _ _ h => by simp [pr] at h⟩
  | d + 1 => by
    obtain ⟨i1, i2, i3, i4, i5, i6⟩ := rd_bg d
    refine ⟨fun least R t R1 hl h => ?_, fun left str least R t R1 hl h => ?_, fun R t R1 h => ?_, fun R t R1 h => ?_, fun R t R1 h => ?_, fun R t R1 hm h => ?_⟩
    · rw [ex] at h
      obtain ⟨a, R2, h1, h2⟩ := thn_ok h
      have := i3 _ _ _ h1
      have := i2 _ _ _ _ _ _ hl h2
      first | omega | (simp only [bgE, bgL] at *; omega)
    · rw [lp] at h
      split at h
      · injection h with h; injection h with ha h; subst h ha; first | exact Nat.le_refl _ | omega
      · rename_i hb
        obtain ⟨R2, h1, h2⟩ := thr_ok h
        obtain ⟨a, R3, h3, h4⟩ := thn_ok h2
        have h5 := nxt_lt h1 (fun e => hb (.inl (by rw [e, bnd_nil]; exact hl)))
        have := i1 _ _ _ _ (by omega) h3
        have := i2 _ _ _ _ _ _ hl h4
        first | omega | (simp only [bgE, bgL] at *; omega)
    · rw [opd] at h
      split at h
      · rename_i ht
        obtain ⟨R2, h1, h2⟩ := thr_ok h
        obtain ⟨a, R3, h3, h4⟩ := thn_ok h2
        injection h4 with h4; injection h4 with h4a h4; subst h4 h4a
        have := nxt_lt h1 (by rw [ht]; decide)
        have := i3 _ _ _ h3
        first | omega | (simp only [bgE, bgL] at *; omega)
      · split at h
        · rename_i ht
          obtain ⟨R2, h1, h2⟩ := thr_ok h
          obtain ⟨a, R3, h3, h4⟩ := thn_ok h2
          injection h4 with h4; injection h4 with h4a h4; subst h4 h4a
          have := nxt_lt h1 (by rw [ht]; decide)
          have := i3 _ _ _ h3
          first | omega | (simp only [bgE, bgL] at *; omega)
        · exact i4 _ _ _ h
    · rw [lst] at h
      split at h
      · obtain ⟨a, R3, h3, h4⟩ := thn_ok h
        injection h4 with h4; injection h4 with h4a h4; subst h4 h4a
        have := i5 _ _ _ h3
        simp only [bgE, bgL] at *; omega
      · split at h
        · rename_i ht
          obtain ⟨R2, h1, h2⟩ := thr_ok h
          obtain ⟨a, R3, h3, h4⟩ := thn_ok h2
          injection h4 with h4; injection h4 with h4a h4; subst h4 h4a
          have := nxt_lt h1 (by rw [ht]; decide)
          have := i5 _ _ _ h3
          first | omega | (simp only [bgE, bgL] at *; omega)
        · split at h
          · rename_i ht; exact i6 _ _ _ ht h
          · split at h
            · rename_i ht
              obtain ⟨R2, h1, h2⟩ := thr_ok h
              obtain ⟨a, R3, h3, h4⟩ := thn_ok h2
              obtain ⟨R4, h5, h6⟩ := thr_ok h4
              injection h6 with h6; injection h6 with h6a h6; subst h6 h6a
              have := nxt_lt h1 (by rw [ht]; decide)
              have := i1 _ _ _ _ (Nat.le_refl _) h3
              have := need_lt h5 (by decide)
              first | omega | (simp only [bgE, bgL] at *; omega)
            · split at h
              · rename_i ht
                obtain ⟨R2, h1, h2⟩ := thr_ok h
                injection h2 with h2; injection h2 with h2a h2; subst h2 h2a
                have := nxt_lt h1 (isNm_ne ht)
                simp only [bgE, bgL] at *; omega
              · exact num_bg h
    · rw [obj] at h
      obtain ⟨R2, h1, h2⟩ := thr_ok h
      obtain ⟨a, R3, h3, h4⟩ := thn_ok h2
      obtain ⟨R4, h5, h6⟩ := thr_ok h4
      injection h6 with h6; injection h6 with h6a h6; subst h6 h6a
      have := need_lt h1 (by decide)
      have := i1 _ _ _ _ (Nat.le_refl _) h3
      have := need_lt h5 (by decide)
      first | omega | (simp only [bgE, bgL] at *; omega)
    · rw [pr] at h
      obtain ⟨R2, h1, h2⟩ := thr_ok h
      obtain ⟨R3, h3, h4⟩ := thr_ok h2
      obtain ⟨a, R4, h5, h6⟩ := thn_ok h4
      obtain ⟨R5, h7, h8⟩ := thr_ok h6
      obtain ⟨b, R6, h9, h10⟩ := thn_ok h8
      obtain ⟨R7, h11, h12⟩ := thr_ok h10
      injection h12 with h12; injection h12 with h12a h12; subst h12 h12a
      have := nxt_lt h1 (by rcases hm with e | e <;> rw [e] <;> decide)
      have := need_lt h3 (by decide)
      have := i1 _ _ _ _ (Nat.le_refl _) h5
      have := need_lt h7 (by decide)
      have := i1 _ _ _ _ (Nat.le_refl _) h9
      have := need_lt h11 (by decide)
      first | omega | (simp only [bgE, bgL] at *; omega)
theorem smp_bg {R : Bs} {s : St} {R1 : Bs} (h : smp R = .ok (s, R1)) : bgS s + 3 * R1.length ≤ 3 * R.length := by
  have i1 := fun R t R1 => (rd_bg FU).1 1 R t R1 (Nat.le_refl _)
  have i5 := (rd_bg FU).2.2.2.2.1
  unfold smp at h
  split at h
  · obtain ⟨a, R2, h1, h2⟩ := thn_ok h
    obtain ⟨R3, h3, h4⟩ := thr_ok h2
    obtain ⟨b, R4, h5, h6⟩ := thn_ok h4
    injection h6 with h6; injection h6 with h6a h6; subst h6 h6a
    have := i5 _ _ _ h1
    have := need_lt h3 (by decide)
    have := i1 _ _ _ h5
    first | omega | ((try simp only [tr0] at *); (try simp only [bgS] at *); (try simp only [bgSL] at *); (try simp only [bgE] at *); (try simp only [bgL] at *); omega)
  · split at h
    · rename_i ht
      obtain ⟨R2, h1, h2⟩ := thr_ok h
      obtain ⟨a, R3, h3, h4⟩ := thn_ok h2
      injection h4 with h4; injection h4 with h4a h4; subst h4 h4a
      have := nxt_lt h1 (by rw [ht]; decide)
      have := i5 _ _ _ h3
      first | omega | ((try simp only [tr0] at *); (try simp only [bgS] at *); (try simp only [bgSL] at *); (try simp only [bgE] at *); (try simp only [bgL] at *); omega)
    · split at h
      · rename_i ht
        obtain ⟨R2, h1, h2⟩ := thr_ok h
        injection h2 with h2; injection h2 with h2a h2; subst h2 h2a
        have := nxt_lt h1 (by rw [ht]; decide)
        ((try simp only [tr0] at *); (try simp only [bgS] at *); (try simp only [bgSL] at *); (try simp only [bgE] at *); (try simp only [bgL] at *); omega)
      · split at h
        · rename_i ht
          obtain ⟨R2, h1, h2⟩ := thr_ok h
          obtain ⟨a, R3, h3, h4⟩ := thn_ok h2
          injection h4 with h4; injection h4 with h4a h4; subst h4 h4a
          have := nxt_lt h1 (by rw [ht]; decide)
          have := i1 _ _ _ h3
          first | omega | ((try simp only [tr0] at *); (try simp only [bgS] at *); (try simp only [bgSL] at *); (try simp only [bgE] at *); (try simp only [bgL] at *); omega)
        · split at h
          · rename_i ht
            obtain ⟨R2, h1, h2⟩ := thr_ok h
            obtain ⟨R3, h3, h4⟩ := thr_ok h2
            obtain ⟨a, R4, h5, h6⟩ := thn_ok h4
            injection h6 with h6; injection h6 with h6a h6; subst h6 h6a
            have := nxt_lt h1 (isNm_ne ht)
            have := need_lt h3 (by decide)
            have := i1 _ _ _ h5
            first | omega | ((try simp only [tr0] at *); (try simp only [bgS] at *); (try simp only [bgSL] at *); (try simp only [bgE] at *); (try simp only [bgL] at *); omega)
          · cases h
theorem rs_bg : ∀ d : Nat,
    (∀ en R t R1, sts d en R = .ok (t, R1) → bgSL t + 3 * R1.length ≤ 3 * R.length) ∧
    (∀ R t R1, stm d R = .ok (t, R1) → bgS t + 3 * R1.length ≤ 3 * R.length) ∧
    (∀ R t R1, brn d R = .ok (t, R1) → bgS t + 3 * R1.length ≤ 3 * R.length) ∧
    (∀ R t R1, oth d R = .ok (t, R1) → bgSL t + 3 * R1.length ≤ 3 * R.length) ∧
    (∀ R t R1, blk d R = .ok (t, R1) → bgSL t + 3 * R1.length ≤ 3 * R.length)
  | 0 => ⟨fun _ _ _ _ h => by simp [sts] at h, fun _ _ _ h => by simp [stm] at h, fun _ _ _ h => by simp [brn] at h, fun _ _ _ h => by simp [oth] at h, fun _ _ _ h => by simp [blk] at h⟩
  | d + 1 => by
    have i0 := fun R t R1 => (rd_bg FU).1 1 R t R1 (Nat.le_refl _)
    obtain ⟨i1, i2, i3, i4, i5⟩ := rs_bg d
    refine ⟨fun en R t R1 h => ?_, fun R t R1 h => ?_, fun R t R1 h => ?_, fun R t R1 h => ?_, fun R t R1 h => ?_⟩
    · rw [sts] at h
      split at h
      · injection h with h; injection h with ha h; subst h ha; simp only [bgSL]; omega
      · obtain ⟨a, R2, h1, h2⟩ := thn_ok h
        obtain ⟨b, R3, h3, h4⟩ := thn_ok h2
        injection h4 with h4; injection h4 with h4a h4; subst h4 h4a
        have := i2 _ _ _ h1
        have := i1 _ _ _ _ h3
        first | omega | ((try simp only [tr0] at *); (try simp only [bgS] at *); (try simp only [bgSL] at *); (try simp only [bgE] at *); (try simp only [bgL] at *); omega)
    · rw [stm] at h
      split at h
      · exact i3 _ _ _ h
      · split at h
        · rename_i ht
          obtain ⟨R2, h1, h2⟩ := thr_ok h
          obtain ⟨a, R3, h3, h4⟩ := thn_ok h2
          obtain ⟨l, R4, h5, h6⟩ := thn_ok h4
          injection h6 with h6; injection h6 with h6a h6; subst h6 h6a
          have := nxt_lt h1 (by rw [ht]; decide)
          have := i0 _ _ _ h3
          have := i5 _ _ _ h5
          first | omega | ((try simp only [tr0] at *); (try simp only [bgS] at *); (try simp only [bgSL] at *); (try simp only [bgE] at *); (try simp only [bgL] at *); omega)
        · obtain ⟨s, R2, h1, h2⟩ := thn_ok h
          obtain ⟨R3, h3, h4⟩ := thr_ok h2
          injection h4 with h4; injection h4 with h4a h4; subst h4 h4a
          have := smp_bg h1
          have := need_lt h3 (by decide)
          first | omega | ((try simp only [tr0] at *); (try simp only [bgS] at *); (try simp only [bgSL] at *); (try simp only [bgE] at *); (try simp only [bgL] at *); omega)
    · rw [brn] at h
      obtain ⟨R2, h1, h2⟩ := thr_ok h
      obtain ⟨a, R3, h3, h4⟩ := thn_ok h2
      obtain ⟨l, R4, h5, h6⟩ := thn_ok h4
      have := need_lt h1 (by decide)
      have := i0 _ _ _ h3
      have := i5 _ _ _ h5
      split at h6
      · rename_i ht
        obtain ⟨R5, h7, h8⟩ := thr_ok h6
        obtain ⟨m, R6, h9, h10⟩ := thn_ok h8
        injection h10 with h10; injection h10 with h10a h10; subst h10 h10a
        have := nxt_lt h7 (by rw [ht]; decide)
        have := i4 _ _ _ h9
        first | omega | ((try simp only [tr0] at *); (try simp only [bgS] at *); (try simp only [bgSL] at *); (try simp only [bgE] at *); (try simp only [bgL] at *); omega)
      · injection h6 with h6; injection h6 with h6a h6; subst h6 h6a
        first | omega | ((try simp only [tr0] at *); (try simp only [bgS] at *); (try simp only [bgSL] at *); (try simp only [bgE] at *); (try simp only [bgL] at *); omega)
    · rw [oth] at h
      split at h
      · obtain ⟨s, R2, h1, h2⟩ := thn_ok h
        injection h2 with h2; injection h2 with h2a h2; subst h2 h2a
        have := i3 _ _ _ h1
        ((try simp only [tr0] at *); (try simp only [bgS] at *); (try simp only [bgSL] at *); (try simp only [bgE] at *); (try simp only [bgL] at *); omega)
      · exact i5 _ _ _ h
    · rw [blk] at h
      obtain ⟨R2, h1, h2⟩ := thr_ok h
      obtain ⟨a, R3, h3, h4⟩ := thn_ok h2
      obtain ⟨R4, h5, h6⟩ := thr_ok h4
      injection h6 with h6; injection h6 with h6a h6; subst h6 h6a
      have := need_lt h1 (by decide)
      have := i1 _ _ _ _ h3
      have := need_lt h5 (by decide)
      first | omega | ((try simp only [tr0] at *); (try simp only [bgS] at *); (try simp only [bgSL] at *); (try simp only [bgE] at *); (try simp only [bgL] at *); omega)
abbrev Z0 : Bs := []
set_option maxHeartbeats 1000000 in
set_option maxRecDepth 100000 in
theorem next_0 {w : World} {r : Nat} {T : Bs} (hc0 : CL w r [.string (bs T), .string (bs T), .string (bs Z0)]) (hTl : T.length ≤ 32768) (hGw : SG w) (hlow : 12 ≤ r) : Calls Tryz.prog 32 #[.pointer (some ⟨r, 0, none⟩)] w fun e w' => (badB ((spk false T)) = false → e = .returned (.tuple #[]) ∧ RdM w' r T ((spk false T)) ∧ Keeps (fun k => k = r) w w') ∧ (badB ((spk false T)) = true → e = panT T ((spk false T)) ∧ Keeps (fun k => k = r) w w') := by
  have kD : Keeps (fun _ => False) w w.drew := (Keeps.refl _ w).drew
  have cD := hc0.keep (by show 0 < 3; decide) kD (fun e => e)
  have y1d := cD.c 1 _ rfl
  have y2d := cD.c 2 _ rfl
  have hsz := bs_size T
  have hex := ext_bs T (Z0).length T.length
  have hkz := bs_size (Z0)
  have hse : (bs T).extract (bs (Z0)).size (bs T).size = bs (T.drop (Z0).length) := by rw [bs_size, bs_size, hex, List.take_length]
  have hle : (bs (Z0)).size ≤ (bs T).size := by rw [bs_size, bs_size]; exact Nat.zero_le _
  have hle2 : ((bs (Z0)).size : Int) ≤ ((bs T).size : Int) := by omega
  clear hsz hkz
  have hrl := hTl
  have hG : SG w.drew := hGw.keep kD (fun _ _ e => e)
  have hSp := spoken_any (T.drop (Z0).length) (by rw [List.length_drop]; omega) hG
  have hr12 : ∀ i, i < 12 → ¬ i = r := fun i hi e => by omega
  have hsA : (spk false T) <:+ T := spk_suf false T
  have hAl : ((spk false T)).length ≤ 32768 := Nat.le_trans hsA.length_le hTl
  have hFi := fun W (hg : SG W) => first_any ((spk false T)) hAl hg
  rw [show spk false (T.drop (Z0).length) = (spk false T) from rfl] at hSp
  have hbad : badB ((spk false T)) = ((tok ((spk false T))).isEmpty && !((spk false T)).isEmpty) := rfl
  have hKt := bs_toList (tok ((spk false T)))
  have hAt := bs_toList ((spk false T))
  have HA : Hid ((spk false T) = (spk false T)) := rfl
  clear hex
  generalize T.drop (Z0).length = Nx at *
  generalize hA : (spk false T) = A at *
  generalize Z0 = K at *
  have hKA : Hid (tok A = tok A) := rfl
  have BODY : ∀ Q : Ending → World → Prop, (∀ W3, RdM W3 r T A → Keeps (fun k => k = r) w W3 → badB A = false → Q (.returned (.tuple #[])) W3) → (∀ W3, Keeps (fun k => k = r) w W3 → badB A = true → Q (panT T A) W3) → Calls Tryz.prog 32 #[.pointer (some ⟨r, 0, none⟩)] w Q := by
    intro Q q1 q2
    generalize hT : tok A = KA at *
    go_enter Tryz.func32, Tryz.ntmps32
    go_wp2_with fail
    refine wp_region_held_drew (S := fun W => W.cell? ⟨r, 2, none⟩ = some (.string (bs K))) (by kernel_rfl) y2d (fun hHeld => ?_)
    refine wpAnyH_take (i := 0) (v := ?_) rfl (by kernel_rfl) (by kernel_rfl) (by kernel_rfl) (fun _ _ _ h => h) (Or.inl ⟨by rfl, ?_⟩) (by assumption) ?_
    rotate_left
    · intro wx hSw; clear hSw; go_simp <;> with_reducible rfl
    (try simp only [gA]); (try simp only [gB]); (try simp only [gC]); (try simp only [Act.put]); (try simp only [gD]); (repeat first | simp only [gE] | simp only [gF])
    refine wpAnyH_take (i := 1) (v := ?_) rfl (by kernel_rfl) (by kernel_rfl) (by kernel_rfl) (fun _ _ _ h => h) (Or.inl ⟨by rfl, ?_⟩) (by assumption) ?_
    rotate_left
    · intro wx hSw; clear hSw; go_simp <;> with_reducible rfl
    (try simp only [gA]); (try simp only [gB]); (try simp only [gC]); (try simp only [Act.put]); (try simp only [gD]); (repeat first | simp only [gE] | simp only [gF])
    refine wpAnyH_take (i := 2) (v := ?_) rfl (by kernel_rfl) (by kernel_rfl) (by kernel_rfl) (fun _ _ _ h => h) (Or.inl ⟨by rfl, ?_⟩) (by assumption) ?_
    rotate_left
    · intro wx hSw; clear hSw; go_simp <;> with_reducible rfl
    (try simp only [gA]); (try simp only [gB]); (try simp only [gC]); (try simp only [Act.put]); (try simp only [gD]); (repeat first | simp only [gE] | simp only [gF])
    refine wpAnyH_take (i := 3) (v := ?_) rfl (by kernel_rfl) (by kernel_rfl) (by kernel_rfl) (fun _ _ _ h => h) (Or.inl ⟨by rfl, ?_⟩) (by assumption) ?_
    rotate_left
    · intro wx hSw; clear hSw; go_simp <;> with_reducible rfl
    (try simp only [gA]); (try simp only [gB]); (try simp only [gC]); (try simp only [Act.put]); (try simp only [gD]); (repeat first | simp only [gE] | simp only [gF])
    refine wpAnyH_take (i := 5) (v := ?_) rfl (by kernel_rfl) (by kernel_rfl) (by kernel_rfl) (fun _ _ _ h => h) (Or.inl ⟨by rfl, ?_⟩) (by assumption) ?_
    rotate_left
    · intro wx hSw; clear hSw; go_simp <;> with_reducible rfl
    (try simp only [gA]); (try simp only [gB]); (try simp only [gC]); (try simp only [Act.put]); (try simp only [gD]); (repeat first | simp only [gE] | simp only [gF])
    refine wpAnyH_take (i := 6) (v := ?_) rfl (by kernel_rfl) (by kernel_rfl) (by kernel_rfl) (fun _ _ _ h => h) (Or.inl ⟨by rfl, ?_⟩) (by assumption) ?_
    rotate_left
    · intro wx hSw; clear hSw; go_simp <;> with_reducible rfl
    (try simp only [gA]); (try simp only [gB]); (try simp only [gC]); (try simp only [Act.put]); (try simp only [gD]); (repeat first | simp only [gE] | simp only [gF])
    refine wpAnyH_take (i := 7) (v := ?_) rfl (by kernel_rfl) (by kernel_rfl) (by kernel_rfl) (fun _ _ _ h => h) (Or.inl ⟨by rfl, ?_⟩) (by assumption) ?_
    rotate_left
    · intro wx hSw; clear hSw; go_simp <;> with_reducible rfl
    (try simp only [gA]); (try simp only [gB]); (try simp only [gC]); (try simp only [Act.put]); (try simp only [gD]); (repeat first | simp only [gE] | simp only [gF])
    refine wpAnyH_take (i := 8) (v := ?_) rfl (by kernel_rfl) (by kernel_rfl) (by kernel_rfl) (fun _ _ _ h => h) (Or.inl ⟨by rfl, ?_⟩) (by assumption) ?_
    rotate_left
    · intro wx hSw; have q5 := hSw; clear hSw; go_simp <;> with_reducible rfl
    (try simp only [gA]); (try simp only [gB]); (try simp only [gC]); (try simp only [Act.put]); (try simp only [gD]); (repeat first | simp only [gE] | simp only [gF])
    refine wpAnyH_take (i := 9) (v := ?_) rfl (by kernel_rfl) (by kernel_rfl) (by kernel_rfl) (fun _ _ _ h => h) (Or.inl ⟨by rfl, ?_⟩) (by assumption) ?_
    rotate_left
    · intro wx hSw; clear hSw; go_simp <;> with_reducible rfl
    (try simp only [gA]); (try simp only [gB]); (try simp only [gC]); (try simp only [Act.put]); (try simp only [gD]); (repeat first | simp only [gE] | simp only [gF])
    refine wpAnyH_one 4 (by kernel_rfl) rfl rfl ?_
    refine wp_loadK 9 _ rfl ⟨r, 1, none⟩ rfl _ (run_load_s y1d) ?_
    refine ⟨hHeld, fun _ => ?_⟩
    (try simp only [gA]); (try simp only [gB]); (try simp only [gC]); (try simp only [Act.put]); (try simp only [gD]); (repeat first | simp only [gE] | simp only [gF])
    refine wpAnyH_take (i := 10) (v := ?_) rfl (by kernel_rfl) (by kernel_rfl) (by kernel_rfl) (fun _ _ _ h => h) (Or.inl ⟨by rfl, ?_⟩) (by assumption) ?_
    rotate_left
    · intro wx hSw; clear hSw; go_simp <;> with_reducible rfl
    (try simp only [gA]); (try simp only [gB]); (try simp only [gC]); (try simp only [Act.put]); (try simp only [gD]); (repeat first | simp only [gE] | simp only [gF])
    refine wpAnyH_one 11 (by kernel_rfl) rfl rfl ?_
    refine wp_call1 44 _ rfl _ rfl (fun _ _ => rfl) (hSp.mono ?_)
    rintro e w1 ⟨rfl, k1⟩
    have c1 := cD.keep (by show 0 < 3; decide) k1 (fun e => e)
    have z2 := c1.c 2 _ rfl
    have z1 := c1.c 1 _ rfl
    have f1 := c1.z 1 (by show 1 < 3; decide)
    have K1 : Keeps (fun k => k = r) w (w1.setCell ⟨r, 1, none⟩ (.string (bs A))) := Keeps.setCell (S := fun k => k = r) (p := ⟨r, 1, none⟩) ((kD.trans k1).mono (fun _ _ e => e.elim)) (fun _ => rfl) _
    have c2 : CL (w1.setCell ⟨r, 1, none⟩ (.string (bs A))) r [.string (bs T), .string (bs A), .string (bs K)] := c1.set (o := 1) (by show 1 < 3; decide) (.string (bs A))
    refine ⟨_, rfl, z2, fun _ => ?_⟩
    (try simp only [gA]); (try simp only [gB]); (try simp only [gC]); (try simp only [Act.put]); (try simp only [gD]); (repeat first | simp only [gE] | simp only [gF])
    refine wpAnyH_take (i := 12) (v := ?_) rfl (by kernel_rfl) (by kernel_rfl) (by kernel_rfl) (fun _ _ _ h => h) (Or.inl ⟨by rfl, ?_⟩) (by assumption) ?_
    rotate_left
    · intro wx hSw; clear hSw; go_simp <;> with_reducible rfl
    (try simp only [gA]); (try simp only [gB]); (try simp only [gC]); (try simp only [Act.put]); (try simp only [gD]); (repeat first | simp only [gE] | simp only [gF])
    refine wpAnyH_take (i := 13) (v := ?_) rfl (by kernel_rfl) (by kernel_rfl) (by kernel_rfl) (fun _ _ _ h => h) (Or.inl ⟨by rfl, ?_⟩) (by assumption) ?_
    rotate_left
    · intro wx hSw; clear hSw; go_simp <;> with_reducible rfl
    (try simp only [gA]); (try simp only [gB]); (try simp only [gC]); (try simp only [Act.put]); (try simp only [gD]); (repeat first | simp only [gE] | simp only [gF])
    refine wpAnyH_one 14 (by kernel_rfl) rfl rfl ?_
    refine wp_storeK 9 _ _ rfl ⟨r, 1, none⟩ rfl _ rfl (run_store_s (by rw [z1]; rfl) f1 _) ?_
    refine ⟨c2.c 2 _ rfl, fun _ => ?_⟩
    (try simp only [gA]); (try simp only [gB]); (try simp only [gC]); (try simp only [Act.put]); (try simp only [gD]); (repeat first | simp only [gE] | simp only [gF])
    refine wpAnyH_done (by kernel_rfl) ?_ _
    generalize w1.setCell ⟨r, 1, none⟩ (.string (bs A)) = W2 at *
    clear hSp k1 c1 z1 f1 z2 hHeld y1d y2d cD
    have g2 := hGw.keep K1 hr12
    have hf2 := hFi W2 g2
    have x1 := c2.c 1 _ rfl
    have x2 := c2.c 2 _ rfl
    have x2z := c2.z 2 (by show 2 < 3; decide)
    have hLv : ∀ W, CL W r [.string (bs T), .string (bs A), .string (bs KA)] → Keeps (fun k => k = r) w W → Calls Tryz.prog 46 #[.pointer (some ⟨r, 0, none⟩)] W fun e w' => e = panT T A ∧ Keeps (fun _ => False) W w' := fun W c k => leave_any ⟨hT ▸ c, hsA, hTl, hGw.keep k hr12, hlow⟩
    have hRd : ∀ W, CL W r [.string (bs T), .string (bs A), .string (bs KA)] → Keeps (fun k => k = r) w W → RdM W r T A := fun W c k => ⟨hT ▸ c, hsA, hTl, hGw.keep k hr12, hlow⟩
    have HQ1 : Hid _ := q1
    have HQ2 : Hid _ := q2
    have HB : Hid (badB A = (List.isEmpty KA && !List.isEmpty A)) := hbad
    clear q1 q2 hbad g2
    cases hk : KA.isEmpty
    · have eK : (bs KA).toList.isEmpty = false := by rw [hKt]; exact hk
      clear hKt hAt
      go_wp2_with ((go_at_call 45; refine hf2.mono ?_; rintro e w3 ⟨rfl, b3⟩; have k3 := Keeps.ofBelow b3; have c3 := c2.keep (by show 0 < 3; decide) k3 (fun e => e); have v1 := c3.c 1 _ rfl; have v2 := c3.c 2 _ rfl; have v2z := c3.z 2 (by show 2 < 3; decide); have K3 := K1.trans (k3.mono (fun _ _ e => e.elim)); have K4 : Keeps (fun k => k = r) w (w3.setCell ⟨r, 2, none⟩ (.string (bs KA))) := Keeps.setCell (S := fun k => k = r) (p := ⟨r, 2, none⟩) K3 (fun _ => rfl) _; have c4 : CL (w3.setCell ⟨r, 2, none⟩ (.string (bs KA))) r [.string (bs T), .string (bs A), .string (bs KA)] := c3.set (o := 2) (by show 2 < 3; decide) (.string (bs KA)); clear c2 hf2 x1 x2 x2z b3 k3 c3 K3 K1))
      go_end0
      exact HQ1.out _ (hRd _ c4 K4) K4 (by rw [HB.out, hk]; rfl)
    · have eK : (bs KA).toList.isEmpty = true := by rw [hKt]; exact hk
      cases ha : A.isEmpty
      · have eA : (bs A).toList.isEmpty = false := by rw [hAt]; exact ha
        clear hKt hAt
        go_wp2_with (first | (go_at_call 45; refine hf2.mono ?_; rintro e w3 ⟨rfl, b3⟩; have k3 := Keeps.ofBelow b3; have c3 := c2.keep (by show 0 < 3; decide) k3 (fun e => e); have v1 := c3.c 1 _ rfl; have v2 := c3.c 2 _ rfl; have v2z := c3.z 2 (by show 2 < 3; decide); have K3 := K1.trans (k3.mono (fun _ _ e => e.elim)); have K4 : Keeps (fun k => k = r) w (w3.setCell ⟨r, 2, none⟩ (.string (bs KA))) := Keeps.setCell (S := fun k => k = r) (p := ⟨r, 2, none⟩) K3 (fun _ => rfl) _; have c4 : CL (w3.setCell ⟨r, 2, none⟩ (.string (bs KA))) r [.string (bs T), .string (bs A), .string (bs KA)] := c3.set (o := 2) (by show 2 < 3; decide) (.string (bs KA)); clear c2 hf2 x1 x2 x2z b3 k3 c3 K3 K1) | (go_at_call 46; refine (hLv _ c4 K4).mono ?_; rintro e w5 ⟨rfl, k5⟩))
        exact ⟨rfl, HQ2.out _ (K4.trans (k5.mono (fun _ _ e => e.elim))) (by rw [HB.out, hk, ha]; rfl)⟩
      · have eA : (bs A).toList.isEmpty = true := by rw [hAt]; exact ha
        clear hKt hAt
        go_wp2_with ((go_at_call 45; refine hf2.mono ?_; rintro e w3 ⟨rfl, b3⟩; have k3 := Keeps.ofBelow b3; have c3 := c2.keep (by show 0 < 3; decide) k3 (fun e => e); have v1 := c3.c 1 _ rfl; have v2 := c3.c 2 _ rfl; have v2z := c3.z 2 (by show 2 < 3; decide); have K3 := K1.trans (k3.mono (fun _ _ e => e.elim)); have K4 : Keeps (fun k => k = r) w (w3.setCell ⟨r, 2, none⟩ (.string (bs KA))) := Keeps.setCell (S := fun k => k = r) (p := ⟨r, 2, none⟩) K3 (fun _ => rfl) _; have c4 : CL (w3.setCell ⟨r, 2, none⟩ (.string (bs KA))) r [.string (bs T), .string (bs A), .string (bs KA)] := c3.set (o := 2) (by show 2 < 3; decide) (.string (bs KA)); clear c2 hf2 x1 x2 x2z b3 k3 c3 K3 K1))
        go_end0
        exact HQ1.out _ (hRd _ c4 K4) K4 (by rw [HB.out, hk, ha]; rfl)
  cases hb : badB A
  · refine BODY _ ?_ ?_
    · exact fun W3 h3 k3 _ => ⟨fun _ => ⟨rfl, h3, k3⟩, fun c => by cases c⟩
    · exact fun W3 _ c => by rw [hb] at c; cases c
  · refine BODY _ ?_ ?_
    · exact fun W3 _ _ c => by rw [hb] at c; cases c
    · exact fun W3 k3 _ => ⟨fun c => (by cases c), fun _ => ⟨rfl, k3⟩⟩
set_option maxHeartbeats 1000000 in
set_option maxRecDepth 100000 in
theorem newReader_any {w : World} {T : Bs} (hG : SG w) (h12 : 12 ≤ w.heap.size) (hT : T.length ≤ 32768) : Calls Tryz.prog 22 #[.string (bs T)] w fun e w' => (badB (spk false T) = false → e = .returned (pR w.heap.size) ∧ RdM w' w.heap.size T (spk false T) ∧ Keeps (fun _ => False) w w') ∧ (badB (spk false T) = true → e = panT T (spk false T) ∧ Keeps (fun _ => False) w w') := by
  have ka := (Keeps.refl (fun _ => False) w).alloc (.cells ([.string (bs T), .string (bs T), .string (bs Z0)] : List Value).toArray 80)
  have hN := next_0 (CL.made w [.string (bs T), .string (bs T), .string (bs Z0)] 80) hT (hG.keep ka (fun _ _ e => e)) h12
  have fin : ∀ w', Keeps (fun k => k = w.heap.size) (w.alloc (.cells ([.string (bs T), .string (bs T), .string (bs Z0)] : List Value).toArray 80)) w' → Keeps (fun _ => False) w w' := fun w' k => ka.trans' k (fun _ _ e => e) (fun i hi e => by omega)
  generalize hS : spk false T = S at *
  generalize bs T = TT at *
  cases hb : badB S with
  | false =>
    refine Calls.mono ?_ (fun e w' (h : e = .returned (pR w.heap.size) ∧ RdM w' w.heap.size T S ∧ Keeps (fun _ => False) w w') => ⟨fun _ => h, fun q => by cases q⟩)
    have hN := hN.mono fun e w' h => h.1 hb
    go_enter Tryz.func22, Tryz.ntmps22
    go_wp2_with (go_at_call 32; refine hN.mono ?_; rintro e w1 ⟨rfl, h1, k1⟩)
    go_ret
    exact ⟨rfl, h1, fin _ k1⟩
  | true =>
    refine Calls.mono ?_ (fun e w' (h : e = panT T S ∧ Keeps (fun _ => False) w w') => ⟨(fun q => by cases q), fun _ => h⟩)
    have hN := hN.mono fun e w' h => h.2 hb
    go_enter Tryz.func22, Tryz.ntmps22
    go_wp2_with (go_at_call 32; refine hN.mono ?_; rintro e w1 ⟨rfl, k1⟩)
    exact ⟨rfl, rfl, fin _ k1⟩
theorem made1 (w : World) (l : List Value) (t : TypeId) (o : Obj) (hl : 0 < l.length) : CL ((w.alloc (.cells l.toArray t)).alloc o) w.heap.size l := (CL.made w l t).alloc hl o
theorem made2 (w : World) (l : List Value) (t : TypeId) (o : Obj) : CL ((w.alloc o).alloc (.cells l.toArray t)) (w.heap.size + 1) l := by
  have h := CL.made (w.alloc o) l t
  simpa using h
theorem ks2 (w : World) (o o' : Obj) : Keeps (fun _ => False) w ((w.alloc o).alloc o') := ((Keeps.refl _ w).alloc o).alloc o'
theorem iFa : (Tryz.prog.info? 51).map (·.size) = some 3 := by kernel_rfl
theorem run_fa {W : World} {b : Nat} {x y z : Int} (h : CL W b [.int .i64 x, .int .i64 y, .int .i64 z]) : (loadVar 51 ⟨b, 0, none⟩).run Tryz.prog W = .ok (.agg #[.int .i64 x, .int .i64 y, .int .i64 z]) W :=
  run_loadVar_mid W b 0 51 [.int .i64 x, .int .i64 y, .int .i64 z] _ (fun j v e => by have := h.c j v e; rwa [Nat.zero_add]) Tryz.underlying51 rfl (by rw [iFa]; rfl)
set_option maxHeartbeats 400000 in
set_option maxRecDepth 1000000 in
theorem caught_any (w : World) (x y z : Int) : Calls Tryz.prog 21 #[.iface 51 (.agg #[.int .i64 x, .int .i64 y, .int .i64 z])] w fun e w' => e = .returned (.agg #[.int .i64 x, .int .i64 y, .int .i64 z]) ∧ Keeps (fun _ => False) w w' := by
  have ht : ∀ w : World, (Instr.typeAssert (.iface 51 (.agg #[.int .i64 x, .int .i64 y, .int .i64 z])) 20 51 true).run Tryz.prog w = .ok (.tuple #[.agg #[.int .i64 x, .int .i64 y, .int .i64 z], .bool true]) w := fun _ => rfl
  obtain ⟨W2, hW2⟩ : ∃ W2, W2 = (w.alloc (.cells #[.int .i64 0, .int .i64 0, .int .i64 0] 51)).alloc (.cells #[.int .i64 x, .int .i64 y, .int .i64 z] 51) := ⟨_, rfl⟩
  have m1 : CL W2 w.heap.size [.int .i64 0, .int .i64 0, .int .i64 0] := by rw [hW2]; exact made1 w [.int .i64 0, .int .i64 0, .int .i64 0] 51 _ (by show 0 < 3; decide)
  have m2 : CL W2 (w.heap.size + 1) [.int .i64 x, .int .i64 y, .int .i64 z] := by rw [hW2]; exact made2 w [.int .i64 x, .int .i64 y, .int .i64 z] 51 _
  have k2 : Keeps (fun _ => False) w W2 := by rw [hW2]; exact ks2 w _ _
  have HW : Hid (_ = _) := hW2
  have hRL := run_fa m2
  have hA : ([.int .i64 x, .int .i64 y, .int .i64 z] : List Value).toArray.all (·.oneCell') = true := all_oneCell_toArray (by simp [Value.oneCell'])
  clear hW2 m2
  go_enter Tryz.func21, Tryz.ntmps21
  go_wp2_with (first | (rw [← HW.out]; clear HW; refine wpList_load_run rfl 51 _ rfl ⟨w.heap.size + 1, 0, none⟩ rfl _ hRL ?_; clear hRL) | (refine wpList_store_cl rfl 51 _ _ rfl w.heap.size 0 3 _ rfl rfl rfl m1 (by show 3 ≤ 3; decide) iFa hA ?_; intro w5 hc5 k5 hsz5; clear hsz5))
  have hc6 : CL w5 w.heap.size [.int .i64 x, .int .i64 y, .int .i64 z] := hc5
  have hr6 := run_fa hc6
  refine bodyPost_ret (v := .agg #[.int .i64 x, .int .i64 y, .int .i64 z]) (by rw [results_cell1 rfl]; simp [asAddr, hr6]) rfl ⟨rfl, ?_⟩
  exact k2.trans' k5 (fun _ _ e => e) (fun i hi e => by have e : i = w.heap.size := e; omega)
set_option maxHeartbeats 800000 in
set_option maxRecDepth 1000000 in
/-- The deferred closure on a frame that a fault has left. -/
theorem pcatch_fault {A B : Nat} (older : List PanicEntry) {v0 : Value} {a0 b0 c0 : Int} (x y z : Int) {w : World} (ca : CL w A [v0]) (cb : CL w B [.int .i64 a0, .int .i64 b0, .int .i64 c0]) (hAB : A ≠ B) :
    CallsD Tryz.prog 20 #[.pointer (some ⟨A, 0, none⟩), .pointer (some ⟨B, 0, none⟩)] (.panicking ({ v := .iface 51 (.agg #[.int .i64 x, .int .i64 y, .int .i64 z]), recovered := false } :: older)) w fun e u' w' =>
      e = .returned (.tuple #[]) ∧ u' = .panicking ({ v := .iface 51 (.agg #[.int .i64 x, .int .i64 y, .int .i64 z]), recovered := true } :: older) ∧ CL w' A [.slice none 0 0] ∧ CL w' B [.int .i64 x, .int .i64 y, .int .i64 z] ∧ Keeps (fun k => k = A ∨ k = B) w w' := by
  have hK := caught_any w x y z
  refine callsD_of_wpS Tryz.func20 rfl fun c₀ cs hu => ?_
  apply wpS_seq
  apply wpS_region
  simp [wpOpsS, go_sem, recoverD, hu, Tryz.ntmps20, Exit.thenS]
  apply wpS_seq
  apply wpS_region
  simp [wpOpsS, go_sem, Exit.thenS]
  refine wpS_cond (t := true) (by simp [Act.eval, Array.replicate]) ?_
  simp only [if_true]
  refine wpS_of_wp ?_
  change Code.wp _ _ _ { tmps := #[.pointer (some ⟨A, 0, none⟩), .pointer (some ⟨B, 0, none⟩), .iface 51 (.agg #[.int .i64 x, .int .i64 y, .int .i64 z]), .iface 51 (.agg #[.int .i64 x, .int .i64 y, .int .i64 z]), .iface 51 (.agg #[.int .i64 x, .int .i64 y, .int .i64 z]), .bool true, undef, undef], defers := [] } w
  have hA : ([.int .i64 x, .int .i64 y, .int .i64 z] : List Value).toArray.all (·.oneCell') = true := all_oneCell_toArray (by simp [Value.oneCell'])
  go_wp2_with fail
  refine hK.mono ?_
  rintro e w1 ⟨rfl, k1⟩
  have ca1 := ca.keep (by show 0 < 1; decide) k1 (fun e => e)
  have cb1 := cb.keep (by show 0 < 3; decide) k1 (fun e => e)
  have y0 := ca1.c 0 _ rfl
  have z0 := ca1.z 0 (by show 0 < 1; decide)
  have ca2 := ca1.set (o := 0) (by show 0 < 1; decide) (.slice none 0 0)
  have cb2 := cb1.other (p := ⟨A, 0, none⟩) hAB (.slice none 0 0)
  have k2 : Keeps (fun k => k = A ∨ k = B) w (w1.setCell ⟨A, 0, none⟩ (.slice none 0 0)) := (k1.mono (fun _ _ e => e.elim)).setCell (fun _ => .inl rfl) _
  clear ca1 cb1 hK
  go_wp2_with (refine wpList_store_cl rfl 51 _ _ rfl B 0 3 _ rfl rfl rfl cb2 (by show 3 ≤ 3; decide) iFa hA ?_; intro w5 hc5 k5 hsz5; clear hsz5)
  have hc6 : CL w5 B [.int .i64 x, .int .i64 y, .int .i64 z] := hc5
  have ca6 := ca2.keep (by show 0 < _; simp) k5 hAB
  simp [bodyPostS, results, Tryz.results20]
  exact ⟨ca6, hc6, k2.trans (k5.mono (fun _ _ e => .inr e))⟩
end Go.Proofs.YtehblpbefkopbaaGreatDoor
