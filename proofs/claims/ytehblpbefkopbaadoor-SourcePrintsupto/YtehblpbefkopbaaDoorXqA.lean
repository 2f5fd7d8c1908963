import Derived.Test.YtehblpbefkopbaaDoorXbE
import Derived.Test.YtehblpbefkopbaaDoorXaS
namespace Go.Proofs.YtehblpbefkopbaaDoor
open Go.RowKit Go.ChangeShapes Go.WideShapes Go.ChangeAt Go.Deep Go.Maps Go.ChangeMaps Go.MapKept
attribute [local go_sem] Oper.semAt_some run_store_nf run_store_f
theorem iSv : (Tryd.prog.info? 72).map (·.size) = some 4 := by kernel_rfl
abbrev zV : List Value := [.bool false, .slice none 0 0, .map none, .map none]
theorem one4v {a b : Nat} : ([.bool false, .slice none 0 0, .map (some a), .map (some b)] : List Value).toArray.all (·.oneCell') = true := all_oneCell_toArray (by simp [Value.oneCell'])
theorem mmap_new {W : World} {mb : Nat} {G : Nat → Nat → Nat → Nat → Prop} (h : W.heap[mb]? = some (.map #[] 0)) : MMap W mb G := ⟨#[], 0, h, fun e he => by simp at he⟩
set_option maxHeartbeats 2000000 in
set_option maxRecDepth 100000 in
theorem names_M {w : World} {q : Option Addr} {cq : Nat} {ps : List St} {xs : List Value} (hG : SG w) (h12 : 6 ≤ w.heap.size) (ho : OwnP w (fun g => g < w.heap.size) 34 12 (.slice q ps.length cq) ps.length xs) (hl : SL w (fun g => g < w.heap.size) 32 34 ps xs) (hF : FtSL ps) (hb : ps.length * 184 ≤ 140737488355327) :
    Calls Tryd.prog 16 #[.slice q ps.length cq] w fun e w' => ∃ pn n c, e = .returned (.tuple #[.slice pn n c, .int .i64 (chkM ps)]) ∧ Keeps (fun _ => False) w w' := by
  obtain ⟨W1, hW1⟩ : ∃ W1, W1 = w.alloc (.map #[] 0) := ⟨_, rfl⟩
  have hmm1 : (Instr.makeMap 69 none).run Tryd.prog w = .ok (.map (some w.heap.size)) W1 := by rw [hW1]; exact run_makeMap _ _
  obtain ⟨W2, hW2⟩ : ∃ W2, W2 = W1.alloc (.map #[] 0) := ⟨_, rfl⟩
  have hmm2 : (Instr.makeMap 70 none).run Tryd.prog W1 = .ok (.map (some W1.heap.size)) W2 := by rw [hW2]; exact run_makeMap _ _
  have k1 : Keeps (fun _ => False) w W1 := by rw [hW1]; exact (Keeps.refl _ w).alloc _
  have k2 : Keeps (fun _ => False) W1 W2 := by rw [hW2]; exact (Keeps.refl _ W1).alloc _
  have z1 : W1.heap.size = w.heap.size + 1 := by rw [hW1]; simp
  have z2 : W2.heap.size = w.heap.size + 1 + 1 := by rw [hW2, ← z1]; simp
  have m1 : W1.heap[w.heap.size]? = some (.map #[] 0) := by rw [hW1]; exact (show (w.heap.push (.map #[] 0))[w.heap.size]? = some _ from by simp)
  have M1 : Hid (W2.heap[w.heap.size]? = some (.map #[] 0)) := by show _ = _; rw [k2.block _ (by omega) (fun e => e)]; exact m1
  have M2 : Hid (W2.heap[W1.heap.size]? = some (.map #[] 0)) := by show _ = _; rw [hW2]; exact (show (W1.heap.push (.map #[] 0))[W1.heap.size]? = some _ from by simp)
  have K02 : Hid (Keeps (fun _ => False) w W2) := k1.trans k2
  clear hW1 hW2 k1 k2 m1
  unfold chkM
  go_enter Tryd.func16, Tryd.ntmps16
  refine wp_seq_k (fun K0 h0 => ?_)
  have H0 : Hid _ := h0
  clear h0
  go_wp2_with fail
  refine H0.out _ _ ?_
  clear H0 K0
  refine wp_seq_k (fun K0 h0 => ?_)
  have H0 : Hid _ := h0
  clear h0
  go_wp2_with fail
  refine H0.out _ _ ?_
  clear H0 K0
  obtain ⟨w3, hw3⟩ : ∃ w3, w3 = W2.alloc (.cells ([.bool false, .slice none 0 0, .map (some w.heap.size), .map (some (w.heap.size + 1))] : List Value).toArray 72) := ⟨_, rfl⟩
  have hw4 : W2.alloc (.cells #[.bool false, .slice none 0 0, .map (some w.heap.size), .map (some (w.heap.size + 1))] 72) = w3 := hw3.symm
  rw [hw4]
  clear hw4
  have c3 : CL w3 (w.heap.size + 1 + 1) [.bool false, .slice none 0 0, .map (some w.heap.size), .map (some (w.heap.size + 1))] := by rw [hw3, ← z2]; exact CL.made W2 _ _
  have K3 : Keeps (fun _ => False) W2 w3 := by rw [hw3]; exact (Keeps.refl (fun _ => False) W2).alloc _
  clear hw3
  rw [z1] at M2
  have K03 : Keeps (fun _ => False) w w3 := K02.out.trans K3
  have st3 : Stay (fun g => g < w.heap.size) w w3 := K03.stay (fun _ _ _ e => e)
  have V3 : SV w3 w.heap.size (w.heap.size + 1 + 1) w.heap.size (w.heap.size + 1) false [] none 0 := ⟨c3, ownP_nil _ _ _ _, mmap_new (by rw [K3.block _ (by omega) (fun e => e)]; exact M1.out), mmap_new (by rw [K3.block _ (by omega) (fun e => e)]; exact M2.out), hG.keep K03 (fun _ _ e => e), by omega, by omega, by omega, by omega, (fun g e => by cases e), by simp, h12⟩
  have hS := css_of (cxs_all (bgSL ps)) ps (Nat.le_refl _) hF hb w3 w.heap.size (w.heap.size + 1 + 1) w.heap.size (w.heap.size + 1) false [] none 0 q cq xs V3 (ho.stay st3) (hl.stay st3)
  have hlw := V3.low
  clear K3 c3 hmm1 hmm2 st3 K02 M1 M2 V3 z1 z2 ho hl hG
  rw [Bool.false_or] at hS
  generalize hwq : wrSL ps = wq at *
  generalize hnq : nmSL ps [] = nq at *
  generalize hs1 : (mzSL ps).1 = s1 at *
  generalize hs2 : (mzSL ps).2 = s2 at *
  clear hwq hnq hs1 hs2
  refine wp_seq_k (fun K0 h0 => ?_)
  have H0 : Hid _ := h0
  clear h0
  go_wp2_with (go_at_call 24; refine hS.mono ?_; rintro e w4 ⟨rfl, T4⟩; clear hS)
  refine H0.out _ _ ?_
  clear H0 K0
  obtain ⟨p4, c4, V4, n4, k4⟩ := T4
  obtain ⟨w5, hw5⟩ : ∃ w5, w5 = w4.alloc (.cells ([.int .i64 (s1 : Int), .int .i64 (s2 : Int)] : List Value).toArray 74) := ⟨_, rfl⟩
  have hw6 : w4.alloc (.cells #[.int .i64 (s1 : Int), .int .i64 (s2 : Int)] 74) = w5 := hw5.symm
  rw [hw6]
  clear hw6
  have c5 : CL w5 w4.heap.size [.int .i64 (s1 : Int), .int .i64 (s2 : Int)] := by rw [hw5]; exact CL.made w4 _ _
  have K5 : Keeps (fun _ => False) w4 w5 := by rw [hw5]; exact (Keeps.refl (fun _ => False) w4).alloc _
  clear hw5
  have V5 := V4.keep0 K5
  have x0 := V5.cl.c 0 _ rfl
  have x1 := V5.cl.c 1 _ rfl
  have y0 := c5.c 0 _ rfl
  have y1 := c5.c 1 _ rfl
  have FIN : Hid (Keeps (fun _ => False) w w5) := ((K03.trans' k4 (U := fun i => w.heap.size ≤ i) (fun _ _ e => e.elim) (fun i hi e => by have := hlw i e; omega)).trans (K5.mono (fun _ _ e => e.elim))).mono (fun i hi e => by omega)
  clear V5 V4 c5 K5 k4 n4 K03 hlw
  cases wq with
  | true =>
    rw [if_pos rfl]
    go_wp2_with fail
    go_ret2
    exact ⟨_, _, _, rfl, FIN.out⟩
  | false =>
    rw [if_neg (by decide)]
    by_cases h1 : 8 < nq.length
    · rw [if_pos h1]
      have d1 : decide ((8 : Int) < (nq.length : Int)) = true := decide_eq_true (by omega)
      have e1 : decide (8 < nq.length) = true := decide_eq_true h1
      go_wp2_with fail
      go_ret2
      exact ⟨_, _, _, rfl, FIN.out⟩
    · rw [if_neg h1]
      have d1 : decide ((8 : Int) < (nq.length : Int)) = false := decide_eq_false (by omega)
      have e1 : decide (8 < nq.length) = false := decide_eq_false h1
      by_cases h2 : 24 < s1
      · rw [if_pos h2]
        have d2 : decide ((24 : Int) < (s1 : Int)) = true := decide_eq_true (by omega)
        have e2 : decide (24 < s1) = true := decide_eq_true h2
        go_wp2_with fail
        go_ret2
        exact ⟨_, _, _, rfl, FIN.out⟩
      · rw [if_neg h2]
        have d2 : decide ((24 : Int) < (s1 : Int)) = false := decide_eq_false (by omega)
        have e2 : decide (24 < s1) = false := decide_eq_false h2
        by_cases h3 : 512 < s2
        · rw [if_pos h3]
          have d3 : decide ((512 : Int) < (s2 : Int)) = true := decide_eq_true (by omega)
          have e3 : decide (512 < s2) = true := decide_eq_true h3
          go_wp2_with fail
          go_ret2
          exact ⟨_, _, _, rfl, FIN.out⟩
        · rw [if_neg h3]
          have d3 : decide ((512 : Int) < (s2 : Int)) = false := decide_eq_false (by omega)
          have e3 : decide (512 < s2) = false := decide_eq_false h3
          go_wp2_with fail
          go_ret2
          exact ⟨_, _, _, rfl, FIN.out⟩
set_option maxHeartbeats 1000000 in
set_option maxRecDepth 100000 in
theorem check_M {w : World} {q : Option Addr} {cq : Nat} {ps : List St} {xs : List Value} (hG : SG w) (h12 : 6 ≤ w.heap.size) (ho : OwnP w (fun g => g < w.heap.size) 34 12 (.slice q ps.length cq) ps.length xs) (hl : SL w (fun g => g < w.heap.size) 32 34 ps xs) (hF : FtSL ps) (hb : ps.length * 184 ≤ 140737488355327) :
    Calls Tryd.prog 10 #[.slice q ps.length cq] w fun e w' => e = .returned (.int .i64 (chkM ps)) ∧ Keeps (fun _ => False) w w' := by
  have hN := names_M hG h12 ho hl hF hb
  generalize chkM ps = C at *
  go_enter Tryd.func10, Tryd.ntmps10
  go_wp2_with (go_at_call 16; refine hN.mono ?_; rintro e w1 ⟨pn, n, c, rfl, k1⟩)
  go_ret
  exact ⟨rfl, k1⟩
mutual
theorem ftE_of : ∀ t : Tr, bgE t ≤ 549755813888 → FtE t
  | .mk k n wd ps, h => by
    unfold bgE at h
    have := bgL_len ps
    unfold FtE
    exact ⟨by omega, ftL_of ps (by omega)⟩
theorem ftL_of : ∀ l : List Tr, bgL l ≤ 549755813888 → FtL l
  | [], _ => by unfold FtL; trivial
  | t :: r, h => by
    unfold bgL at h
    unfold FtL
    exact ⟨ftE_of t (by omega), ftL_of r (by omega)⟩
end
mutual
theorem ftS_of : ∀ t : St, bgS t ≤ 549755813888 → FtS t
  | .mk k wd a b th el, h => by
    unfold bgS at h
    have := bgSL_len th
    have := bgSL_len el
    unfold FtS
    exact ⟨ftE_of a (by omega), ftE_of b (by omega), by omega, ftSL_of th (by omega), by omega, ftSL_of el (by omega)⟩
theorem ftSL_of : ∀ l : List St, bgSL l ≤ 549755813888 → FtSL l
  | [], _ => by unfold FtSL; trivial
  | t :: r, h => by
    unfold bgSL at h
    unfold FtSL
    exact ⟨ftS_of t (by omega), ftSL_of r (by omega)⟩
end
theorem check_any {w : World} {q : Option Addr} {cq : Nat} {ps : List St} {xs : List Value} (hG : SG w) (h12 : 6 ≤ w.heap.size) (ho : OwnP w (fun g => g < w.heap.size) 34 12 (.slice q ps.length cq) ps.length xs) (hl : SL w (fun g => g < w.heap.size) 32 34 ps xs) (hb : bgSL ps ≤ 549755813888) :
    Calls Tryd.prog 10 #[.slice q ps.length cq] w fun e w' => e = .returned (.int .i64 (chk ps)) ∧ Keeps (fun _ => False) w w' := by
  have h := check_M hG h12 ho hl (ftSL_of ps hb) (by have := bgSL_len ps; omega)
  rwa [chkM_eq (by omega)] at h
theorem num_bg {R : Bs} {t : Tr} {R1 : Bs} (h : num R = .ok (t, R1)) : bgE t + R1.length ≤ R.length := by
  have hl := num_lt h
  have : bgE t = 1 := by
    unfold num at h
    split at h
    · first
      | cases h
      | (obtain ⟨R2, h1, h2⟩ := thr_ok h; injection h2 with h2; injection h2 with h2a h2; subst h2a; simp [bgE, bgL])
    · first
      | cases h
      | (split at h <;> first | cases h | (obtain ⟨R2, h1, h2⟩ := thr_ok h; injection h2 with h2; injection h2 with h2a h2; subst h2a; simp [bgE, bgL]))
      | (obtain ⟨R2, h1, h2⟩ := thr_ok h; injection h2 with h2; injection h2 with h2a h2; subst h2a; simp [bgE, bgL])
  omega
theorem rd_bg : ∀ d : Nat,
    (∀ least R t R1, 1 ≤ least → ex d least R = .ok (t, R1) → bgE t + R1.length ≤ R.length) ∧
    (∀ left str least R t R1, 1 ≤ least → lp d left str least R = .ok (t, R1) → bgE t + R1.length ≤ bgE left + R.length) ∧
    (∀ R t R1, opd d R = .ok (t, R1) → bgE t + R1.length ≤ R.length) ∧
    (∀ R t R1, lst d R = .ok (t, R1) → bgE t + R1.length ≤ R.length) ∧
    (∀ R t R1, obj d R = .ok (t, R1) → bgE t + 1 + R1.length ≤ R.length) ∧
    (∀ R t R1, (tok R = kMin ∨ tok R = kMax) → pr d R = .ok (t, R1) → bgE t + R1.length ≤ R.length)
  | 0 => ⟨fun _ _ _ _ _ h => by simp [ex] at h, fun _ _ _ _ _ _ _ h => by simp [lp] at h, fun _ _ _ h => by simp [opd] at h, fun _ _ _ h => by simp [lst] at h, fun _ _ _ h => by simp [obj] at h, fun _ _ _ _ h => by simp [pr] at h⟩
  | d + 1 => by
    obtain ⟨i1, i2, i3, i4, i5, i6⟩ := rd_bg d
    refine ⟨fun least R t R1 hl h => ?_, fun left str least R t R1 hl h => ?_, fun R t R1 h => ?_, fun R t R1 h => ?_, fun R t R1 h => ?_, fun R t R1 hm h => ?_⟩
    · rw [ex] at h
      obtain ⟨a, R2, h1, h2⟩ := thn_ok h
      have := i3 _ _ _ h1
      have := i2 _ _ _ _ _ _ hl h2
      first | omega | (simp only [bgE, bgL] at *; omega)
    · rw [lp] at h
      split at h
      · injection h with h; injection h with ha h; subst h ha; first | exact Nat.le_refl _ | omega
      · rename_i hb
        obtain ⟨R2, h1, h2⟩ := thr_ok h
        obtain ⟨a, R3, h3, h4⟩ := thn_ok h2
        have h5 := nxt_lt h1 (fun e => hb (.inl (by rw [e, bnd_nil]; exact hl)))
        have := i1 _ _ _ _ (by omega) h3
        have := i2 _ _ _ _ _ _ hl h4
        first | omega | (simp only [bgE, bgL] at *; omega)
    · rw [opd] at h
      split at h
      · rename_i ht
        obtain ⟨R2, h1, h2⟩ := thr_ok h
        obtain ⟨a, R3, h3, h4⟩ := thn_ok h2
        injection h4 with h4; injection h4 with h4a h4; subst h4 h4a
        have := nxt_lt h1 (by rw [ht]; decide)
        have := i3 _ _ _ h3
        first | omega | (simp only [bgE, bgL] at *; omega)
      · split at h
        · rename_i ht
          obtain ⟨R2, h1, h2⟩ := thr_ok h
          obtain ⟨a, R3, h3, h4⟩ := thn_ok h2
          injection h4 with h4; injection h4 with h4a h4; subst h4 h4a
          have := nxt_lt h1 (by rw [ht]; decide)
          have := i3 _ _ _ h3
          first | omega | (simp only [bgE, bgL] at *; omega)
        · exact i4 _ _ _ h
    · rw [lst] at h
      split at h
      · obtain ⟨a, R3, h3, h4⟩ := thn_ok h
        injection h4 with h4; injection h4 with h4a h4; subst h4 h4a
        have := i5 _ _ _ h3
        simp only [bgE, bgL] at *; omega
      · split at h
        · rename_i ht
          obtain ⟨R2, h1, h2⟩ := thr_ok h
          obtain ⟨a, R3, h3, h4⟩ := thn_ok h2
          injection h4 with h4; injection h4 with h4a h4; subst h4 h4a
          have := nxt_lt h1 (by rw [ht]; decide)
          have := i5 _ _ _ h3
          first | omega | (simp only [bgE, bgL] at *; omega)
        · split at h
          · rename_i ht; exact i6 _ _ _ ht h
          · split at h
            · rename_i ht
              obtain ⟨R2, h1, h2⟩ := thr_ok h
              obtain ⟨a, R3, h3, h4⟩ := thn_ok h2
              obtain ⟨R4, h5, h6⟩ := thr_ok h4
              injection h6 with h6; injection h6 with h6a h6; subst h6 h6a
              have := nxt_lt h1 (by rw [ht]; decide)
              have := i1 _ _ _ _ (Nat.le_refl _) h3
              have := need_lt h5 (by decide)
              first | omega | (simp only [bgE, bgL] at *; omega)
            · split at h
              · rename_i ht
                obtain ⟨R2, h1, h2⟩ := thr_ok h
                injection h2 with h2; injection h2 with h2a h2; subst h2 h2a
                have := nxt_lt h1 (isNm_ne ht)
                simp only [bgE, bgL] at *; omega
              · exact num_bg h
    · rw [obj] at h
      obtain ⟨R2, h1, h2⟩ := thr_ok h
      obtain ⟨a, R3, h3, h4⟩ := thn_ok h2
      obtain ⟨R4, h5, h6⟩ := thr_ok h4
      injection h6 with h6; injection h6 with h6a h6; subst h6 h6a
      have := need_lt h1 (by decide)
      have := i1 _ _ _ _ (Nat.le_refl _) h3
      have := need_lt h5 (by decide)
      first | omega | (simp only [bgE, bgL] at *; omega)
    · rw [pr] at h
      obtain ⟨R2, h1, h2⟩ := thr_ok h
      obtain ⟨R3, h3, h4⟩ := thr_ok h2
      obtain ⟨a, R4, h5, h6⟩ := thn_ok h4
      obtain ⟨R5, h7, h8⟩ := thr_ok h6
      obtain ⟨b, R6, h9, h10⟩ := thn_ok h8
      obtain ⟨R7, h11, h12⟩ := thr_ok h10
      injection h12 with h12; injection h12 with h12a h12; subst h12 h12a
      have := nxt_lt h1 (by rcases hm with e | e <;> rw [e] <;> decide)
      have := need_lt h3 (by decide)
      have := i1 _ _ _ _ (Nat.le_refl _) h5
      have := need_lt h7 (by decide)
      have := i1 _ _ _ _ (Nat.le_refl _) h9
      have := need_lt h11 (by decide)
      first | omega | (simp only [bgE, bgL] at *; omega)
theorem smp_bg {R : Bs} {s : St} {R1 : Bs} (h : smp R = .ok (s, R1)) : bgS s + 3 * R1.length ≤ 3 * R.length := by
  have i1 := fun R t R1 => (rd_bg FU).1 1 R t R1 (Nat.le_refl _)
  have i5 := (rd_bg FU).2.2.2.2.1
  unfold smp at h
  split at h
  · obtain ⟨a, R2, h1, h2⟩ := thn_ok h
    obtain ⟨R3, h3, h4⟩ := thr_ok h2
    obtain ⟨b, R4, h5, h6⟩ := thn_ok h4
    injection h6 with h6; injection h6 with h6a h6; subst h6 h6a
    have := i5 _ _ _ h1
    have := need_lt h3 (by decide)
    have := i1 _ _ _ h5
    first | omega | ((try simp only [tr0] at *); (try simp only [bgS] at *); (try simp only [bgSL] at *); (try simp only [bgE] at *); (try simp only [bgL] at *); omega)
  · split at h
    · rename_i ht
      obtain ⟨R2, h1, h2⟩ := thr_ok h
      obtain ⟨a, R3, h3, h4⟩ := thn_ok h2
      injection h4 with h4; injection h4 with h4a h4; subst h4 h4a
      have := nxt_lt h1 (by rw [ht]; decide)
      have := i5 _ _ _ h3
      first | omega | ((try simp only [tr0] at *); (try simp only [bgS] at *); (try simp only [bgSL] at *); (try simp only [bgE] at *); (try simp only [bgL] at *); omega)
    · split at h
      · rename_i ht
        obtain ⟨R2, h1, h2⟩ := thr_ok h
        injection h2 with h2; injection h2 with h2a h2; subst h2 h2a
        have := nxt_lt h1 (by rw [ht]; decide)
        ((try simp only [tr0] at *); (try simp only [bgS] at *); (try simp only [bgSL] at *); (try simp only [bgE] at *); (try simp only [bgL] at *); omega)
      · split at h
        · rename_i ht
          obtain ⟨R2, h1, h2⟩ := thr_ok h
          obtain ⟨a, R3, h3, h4⟩ := thn_ok h2
          injection h4 with h4; injection h4 with h4a h4; subst h4 h4a
          have := nxt_lt h1 (by rw [ht]; decide)
          have := i1 _ _ _ h3
          first | omega | ((try simp only [tr0] at *); (try simp only [bgS] at *); (try simp only [bgSL] at *); (try simp only [bgE] at *); (try simp only [bgL] at *); omega)
        · split at h
          · rename_i ht
            obtain ⟨R2, h1, h2⟩ := thr_ok h
            obtain ⟨R3, h3, h4⟩ := thr_ok h2
            obtain ⟨a, R4, h5, h6⟩ := thn_ok h4
            injection h6 with h6; injection h6 with h6a h6; subst h6 h6a
            have := nxt_lt h1 (isNm_ne ht)
            have := need_lt h3 (by decide)
            have := i1 _ _ _ h5
            first | omega | ((try simp only [tr0] at *); (try simp only [bgS] at *); (try simp only [bgSL] at *); (try simp only [bgE] at *); (try simp only [bgL] at *); omega)
          · cases h
theorem rs_bg : ∀ d : Nat,
    (∀ en R t R1, sts d en R = .ok (t, R1) → bgSL t + 3 * R1.length ≤ 3 * R.length) ∧
    (∀ R t R1, stm d R = .ok (t, R1) → bgS t + 3 * R1.length ≤ 3 * R.length) ∧
    (∀ R t R1, brn d R = .ok (t, R1) → bgS t + 3 * R1.length ≤ 3 * R.length) ∧
    (∀ R t R1, oth d R = .ok (t, R1) → bgSL t + 3 * R1.length ≤ 3 * R.length) ∧
    (∀ R t R1, blk d R = .ok (t, R1) → bgSL t + 3 * R1.length ≤ 3 * R.length)
  | 0 => ⟨fun _ _ _ _ h => by simp [sts] at h, fun _ _ _ h => by simp [stm] at h, fun _ _ _ h => by simp [brn] at h, fun _ _ _ h => by simp [oth] at h, fun _ _ _ h => by simp [blk] at h⟩
  | d + 1 => by
    have i0 := fun R t R1 => (rd_bg FU).1 1 R t R1 (Nat.le_refl _)
    obtain ⟨i1, i2, i3, i4, i5⟩ := rs_bg d
    refine ⟨fun en R t R1 h => ?_, fun R t R1 h => ?_, fun R t R1 h => ?_, fun R t R1 h => ?_, fun R t R1 h => ?_⟩
    · rw [sts] at h
      split at h
      · injection h with h; injection h with ha h; subst h ha; simp only [bgSL]; omega
      · obtain ⟨a, R2, h1, h2⟩ := thn_ok h
        obtain ⟨b, R3, h3, h4⟩ := thn_ok h2
        injection h4 with h4; injection h4 with h4a h4; subst h4 h4a
        have := i2 _ _ _ h1
        have := i1 _ _ _ _ h3
        first | omega | ((try simp only [tr0] at *); (try simp only [bgS] at *); (try simp only [bgSL] at *); (try simp only [bgE] at *); (try simp only [bgL] at *); omega)
    · rw [stm] at h
      split at h
      · exact i3 _ _ _ h
      · split at h
        · rename_i ht
          obtain ⟨R2, h1, h2⟩ := thr_ok h
          obtain ⟨a, R3, h3, h4⟩ := thn_ok h2
          obtain ⟨l, R4, h5, h6⟩ := thn_ok h4
          injection h6 with h6; injection h6 with h6a h6; subst h6 h6a
          have := nxt_lt h1 (by rw [ht]; decide)
          have := i0 _ _ _ h3
          have := i5 _ _ _ h5
          first | omega | ((try simp only [tr0] at *); (try simp only [bgS] at *); (try simp only [bgSL] at *); (try simp only [bgE] at *); (try simp only [bgL] at *); omega)
        · obtain ⟨s, R2, h1, h2⟩ := thn_ok h
          obtain ⟨R3, h3, h4⟩ := thr_ok h2
          injection h4 with h4; injection h4 with h4a h4; subst h4 h4a
          have := smp_bg h1
          have := need_lt h3 (by decide)
          first | omega | ((try simp only [tr0] at *); (try simp only [bgS] at *); (try simp only [bgSL] at *); (try simp only [bgE] at *); (try simp only [bgL] at *); omega)
    · rw [brn] at h
      obtain ⟨R2, h1, h2⟩ := thr_ok h
      obtain ⟨a, R3, h3, h4⟩ := thn_ok h2
      obtain ⟨l, R4, h5, h6⟩ := thn_ok h4
      have := need_lt h1 (by decide)
      have := i0 _ _ _ h3
      have := i5 _ _ _ h5
      split at h6
      · rename_i ht
        obtain ⟨R5, h7, h8⟩ := thr_ok h6
        obtain ⟨m, R6, h9, h10⟩ := thn_ok h8
        injection h10 with h10; injection h10 with h10a h10; subst h10 h10a
        have := nxt_lt h7 (by rw [ht]; decide)
        have := i4 _ _ _ h9
        first | omega | ((try simp only [tr0] at *); (try simp only [bgS] at *); (try simp only [bgSL] at *); (try simp only [bgE] at *); (try simp only [bgL] at *); omega)
      · injection h6 with h6; injection h6 with h6a h6; subst h6 h6a
        first | omega | ((try simp only [tr0] at *); (try simp only [bgS] at *); (try simp only [bgSL] at *); (try simp only [bgE] at *); (try simp only [bgL] at *); omega)
    · rw [oth] at h
      split at h
      · obtain ⟨s, R2, h1, h2⟩ := thn_ok h
        injection h2 with h2; injection h2 with h2a h2; subst h2 h2a
        have := i3 _ _ _ h1
        ((try simp only [tr0] at *); (try simp only [bgS] at *); (try simp only [bgSL] at *); (try simp only [bgE] at *); (try simp only [bgL] at *); omega)
      · exact i5 _ _ _ h
    · rw [blk] at h
      obtain ⟨R2, h1, h2⟩ := thr_ok h
      obtain ⟨a, R3, h3, h4⟩ := thn_ok h2
      obtain ⟨R4, h5, h6⟩ := thr_ok h4
      injection h6 with h6; injection h6 with h6a h6; subst h6 h6a
      have := need_lt h1 (by decide)
      have := i1 _ _ _ _ h3
      have := need_lt h5 (by decide)
      first | omega | ((try simp only [tr0] at *); (try simp only [bgS] at *); (try simp only [bgSL] at *); (try simp only [bgE] at *); (try simp only [bgL] at *); omega)
abbrev Z0 : Bs := []
theorem made1 (w : World) (l : List Value) (t : TypeId) (o : Obj) (hl : 0 < l.length) : CL ((w.alloc (.cells l.toArray t)).alloc o) w.heap.size l := (CL.made w l t).alloc hl o
theorem made2 (w : World) (l : List Value) (t : TypeId) (o : Obj) : CL ((w.alloc o).alloc (.cells l.toArray t)) (w.heap.size + 1) l := by
  have h := CL.made (w.alloc o) l t
  simpa using h
theorem ks2 (w : World) (o o' : Obj) : Keeps (fun _ => False) w ((w.alloc o).alloc o') := ((Keeps.refl _ w).alloc o).alloc o'
end Go.Proofs.YtehblpbefkopbaaDoor
namespace Go.Proofs.YtehblpbefkopbaaDoor
open Go.RowKit Go.ChangeShapes Go.WideShapes Go.ChangeAt Go.Deep
attribute [local go_sem] Oper.semAt_some run_store_nf run_store_f
theorem results_cell2y {fn : Func} {p q : Tmp} {ty ty2 : TypeId} (h : fn.results = #[.cell p ty, .cell q ty2]) (tmps : Array Value) (P : Program) (w : World) {a b : Addr} {v1 v2 : Value}
    (ha : tmps[p]?.getD undef = .pointer (some a)) (hb : tmps[q]?.getD undef = .pointer (some b)) (h1 : (loadVar ty a).run P w = .ok v1 w) (h2 : (loadVar ty2 b).run P w = .ok v2 w) : (results fn tmps).run P w = .ok (.tuple #[v1, v2]) w := by
  simp only [results, h]
  simp [Sem.run_bind, Result.andThen, asAddr, ha, hb, h1, h2]
/-- What Parse comes to. -/
def PrsE (a b c : Int) (w : World) (e : Ending) (w' : World) : Prop := e = .returned (.tuple #[.slice none 0 0, .agg #[.int .i64 a, .int .i64 b, .int .i64 c]]) ∧ Keeps (fun _ => False) w w'
/-- What Parse comes to, if all is well: the list's blocks are new. -/
def PrsO (l : List St) (w : World) (e : Ending) (w' : World) : Prop := ∃ (p : Option Addr) (c : Nat) (xs : List Value), e = .returned (.tuple #[.slice p l.length c, .agg #[.int .i64 0, .int .i64 0, .int .i64 0]]) ∧ OwnP w' (fun g => w.heap.size ≤ g) 34 12 (.slice p l.length c) l.length xs ∧ SL w' (fun g => w.heap.size ≤ g) 32 34 l xs ∧ Keeps (fun _ => False) w w'
end Go.Proofs.YtehblpbefkopbaaDoor
