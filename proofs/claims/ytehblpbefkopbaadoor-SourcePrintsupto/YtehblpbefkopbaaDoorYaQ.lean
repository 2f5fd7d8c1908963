import Derived.Test.YtehblpbefkopbaaDoorYaP
import Derived.Test.YtehblpbefkopbaaDoorXqB
namespace Go.Proofs.YtehblpbefkopbaaDoor
open Go.RowKit Go.ChangeShapes Go.WideShapes Go.ChangeAt Go.Deep
attribute [local go_sem] Oper.semAt_some run_store_nf run_store_f
/-! The document's expressions: can, field. -/
theorem wr_leaf {k n : Int} {wd : Bs} {ps : List Tr} (hk : k = 1 ∨ k = 2) : (!wrE (.mk k n wd ps)) = okE k n wd ps.length := by
  unfold wrE
  cases ho : okE k n wd ps.length
  · rfl
  · have h0 : ps = [] := by
      rcases hk with rfl | rfl <;> simp [okE] at ho
      · exact ho.2
      · exact ho.2
    subst h0
    rfl
theorem wr_in {k n : Int} {wd : Bs} {ps : List Tr} {b : Bool} (h : okE k n wd ps.length = b) : (!wrE (.mk k n wd ps)) = (b && !wrL ps) := by
  unfold wrE
  rw [h]
  cases b <;> rfl
theorem wrL_at {ps : List Tr} {i : Nat} {t : Tr} (h : ps[i]? = some t) : wrL (ps.drop i) = (wrE t || wrL (ps.drop (i + 1))) := by
  obtain ⟨hi, e⟩ := List.getElem?_eq_some_iff.1 h
  rw [List.drop_eq_getElem_cons hi, e]
  rfl
def CanE (t : Tr) : Prop := ∀ (w : World) (l : List Value), IE w t l → Calls Tryd.prog 48 #[.agg l.toArray] w fun e w' => e = .returned (.bool (!wrE t)) ∧ Keeps (fun _ => False) w w'
set_option maxHeartbeats 1000000 in
theorem can_1 {n : Int} {wd : Bs} {ps : List Tr} : CanE (.mk 1 n wd ps) := by
  intro w l ht
  rw [wr_leaf (.inl rfl)]
  unfold IE at ht
  obtain ⟨-, -, -, p, c, xs, rfl, -, -⟩ := ht
  generalize ps.length = m
  have hk : okE 1 n wd m = (decide (0 ≤ n) && wd.isEmpty && decide (m = 0)) := by simp [okE]
  rw [hk]
  clear hk
  have e2 : (bs wd).toList.isEmpty = wd.isEmpty := by rw [bs_toList]
  have e3 : ((m : Int) == 0) = decide (m = 0) := by rw [beq_int]; exact dec_cast m 0
  have e4 : (m == 0) = decide (m = 0) := beq_nat _ _
  have e5 : decide ((m : Int) = 0) = decide (m = 0) := dec_cast m 0
  generalize hb1 : decide (0 ≤ n) = b1 at *
  generalize wd.isEmpty = b2 at *
  generalize bs wd = W0 at *
  generalize decide (m = 0) = b3 at *
  have q := CL.made w [.int .i64 1, .int .i64 n, .string W0, .slice p m c] 40
  have y0 := q.c 0 _ rfl
  have y1 := q.c 1 _ rfl
  have y2 := q.c 2 _ rfl
  have y3 := q.c 3 _ rfl
  have ka := (Keeps.refl (fun _ => False) w).alloc (.cells ([.int .i64 1, .int .i64 n, .string W0, .slice p m c] : List Value).toArray 40)
  clear q
  cases b1 <;> cases b2 <;> cases b3 <;>
  (go_enter Tryd.func48, Tryd.ntmps48
   go_wp2
   go_ret
   exact ⟨rfl, ka⟩)
set_option maxHeartbeats 1000000 in
theorem can_2 {n : Int} {wd : Bs} {ps : List Tr} : CanE (.mk 2 n wd ps) := by
  intro w l ht
  rw [wr_leaf (.inr rfl)]
  unfold IE at ht
  obtain ⟨-, -, hw, p, c, xs, rfl, -, -⟩ := ht
  generalize ps.length = m
  have hk : okE 2 n wd m = (decide (n = 0) && isNm wd && decide (m = 0)) := by simp [okE]
  rw [hk]
  clear hk
  have hNm := fun W => rNamed_any wd hw W
  have e1 : (n == 0) = decide (n = 0) := beq_int _ _
  have e3 : ((m : Int) == 0) = decide (m = 0) := by rw [beq_int]; exact dec_cast m 0
  have e4 : (m == 0) = decide (m = 0) := beq_nat _ _
  have e5 : decide ((m : Int) = 0) = decide (m = 0) := dec_cast m 0
  generalize decide (n = 0) = b1 at *
  generalize isNm wd = b2 at *
  generalize bs wd = W0 at *
  generalize decide (m = 0) = b3 at *
  have q := CL.made w [.int .i64 2, .int .i64 n, .string W0, .slice p m c] 40
  have y0 := q.c 0 _ rfl
  have y1 := q.c 1 _ rfl
  have y2 := q.c 2 _ rfl
  have y3 := q.c 3 _ rfl
  have ka := (Keeps.refl (fun _ => False) w).alloc (.cells ([.int .i64 2, .int .i64 n, .string W0, .slice p m c] : List Value).toArray 40)
  clear q
  cases b1 <;> cases b2 <;> cases b3 <;>
  (go_enter Tryd.func48, Tryd.ntmps48
   go_wp2_with (go_at_call 31; refine (hNm _).mono ?_; rintro e w' ⟨rfl, rfl⟩)
   go_ret
   exact ⟨rfl, ka⟩)
set_option maxHeartbeats 1000000 in
/-- A kind that is none. -/
theorem can_0 {k n : Int} {wd : Bs} {ps : List Tr} (h1 : k ≠ 1) (h2 : k ≠ 2) (h3 : k ≠ 3) (h4 : k ≠ 4) (h5 : k ≠ 5) (h6 : k ≠ 6) (h7 : k ≠ 7) : CanE (.mk k n wd ps) := by
  intro w l ht
  rw [wr_in (b := false) (by simp [okE, h1, h2, h3, h4, h5, h6, h7]), Bool.false_and]
  unfold IE at ht
  obtain ⟨-, -, -, p, c, xs, rfl, -, -⟩ := ht
  generalize ps.length = m
  generalize bs wd = W0 at *
  have d1 := beq_eq_false_iff_ne.2 h1
  have d2 := beq_eq_false_iff_ne.2 h2
  have d3 := beq_eq_false_iff_ne.2 h3
  have d4 := beq_eq_false_iff_ne.2 h4
  have d5 := beq_eq_false_iff_ne.2 h5
  have d6 := beq_eq_false_iff_ne.2 h6
  have d7 := beq_eq_false_iff_ne.2 h7
  clear h1 h2 h3 h4 h5 h6 h7
  have q := CL.made w [.int .i64 k, .int .i64 n, .string W0, .slice p m c] 40
  have y0 := q.c 0 _ rfl
  have y1 := q.c 1 _ rfl
  have y2 := q.c 2 _ rfl
  have y3 := q.c 3 _ rfl
  have ka := (Keeps.refl (fun _ => False) w).alloc (.cells ([.int .i64 k, .int .i64 n, .string W0, .slice p m c] : List Value).toArray 40)
  clear q
  go_enter Tryd.func48, Tryd.ntmps48
  go_wp2
  go_ret
  exact ⟨rfl, ka⟩
set_option maxHeartbeats 1000000 in
/-- A kind with one part, and it can't be. -/
theorem can_no1 {k n : Int} {wd : Bs} {ps : List Tr} (hk : k = 3 ∨ k = 4 ∨ k = 5 ∨ k = 6) (ho : okE k n wd ps.length = false) : CanE (.mk k n wd ps) := by
  intro w l ht
  rw [wr_in ho, Bool.false_and]
  unfold IE at ht
  obtain ⟨-, -, hw, p, c, xs, rfl, -, -⟩ := ht
  generalize ps.length = m at *
  have hq : okE k n wd m = (decide (n = 0) && wd.isEmpty && decide (m = 1)) := by rcases hk with rfl | rfl | rfl | rfl <;> simp [okE]
  rw [hq] at ho
  clear hq
  have e1 : (n == 0) = decide (n = 0) := beq_int _ _
  have e1' : (n != 0) = !decide (n = 0) := by rw [bne, e1]
  have e3 : ((m : Int) == 1) = decide (m = 1) := by rw [beq_int]; exact dec_cast m 1
  have e3' : ((m : Int) != 1) = !decide (m = 1) := by rw [bne, e3]
  have e4 : (m == 1) = decide (m = 1) := beq_nat _ _
  have e4' : (m != 1) = !decide (m = 1) := by rw [bne, e4]
  have e5 : decide ((m : Int) = 1) = decide (m = 1) := dec_cast m 1
  have e2 : (bs wd).toList.isEmpty = wd.isEmpty := by rw [bs_toList]
  have e2' : ((bs wd).toList != []) = !wd.isEmpty := by rw [bs_toList]; cases wd <;> rfl
  generalize decide (n = 0) = b1 at *
  generalize wd.isEmpty = b2 at *
  generalize bs wd = W0 at *
  generalize decide (m = 1) = b3 at *
  have q := CL.made w [.int .i64 k, .int .i64 n, .string W0, .slice p m c] 40
  have y0 := q.c 0 _ rfl
  have y1 := q.c 1 _ rfl
  have y2 := q.c 2 _ rfl
  have y3 := q.c 3 _ rfl
  have ka := (Keeps.refl (fun _ => False) w).alloc (.cells ([.int .i64 k, .int .i64 n, .string W0, .slice p m c] : List Value).toArray 40)
  clear q
  obtain rfl | rfl | rfl | rfl := hk
  · cases b1 <;> cases b2 <;> cases b3 <;>
      first
      | (cases ho; done)
      | (clear ho
         go_enter Tryd.func48, Tryd.ntmps48
         go_wp2
         go_ret
         exact ⟨rfl, ka⟩)
  · cases b1 <;> cases b2 <;> cases b3 <;>
      first
      | (cases ho; done)
      | (clear ho
         go_enter Tryd.func48, Tryd.ntmps48
         go_wp2
         go_ret
         exact ⟨rfl, ka⟩)
  · cases b1 <;> cases b2 <;> cases b3 <;>
      first
      | (cases ho; done)
      | (clear ho
         go_enter Tryd.func48, Tryd.ntmps48
         go_wp2
         go_ret
         exact ⟨rfl, ka⟩)
  · cases b1 <;> cases b2 <;> cases b3 <;>
      first
      | (cases ho; done)
      | (clear ho
         go_enter Tryd.func48, Tryd.ntmps48
         go_wp2
         go_ret
         exact ⟨rfl, ka⟩)
set_option maxHeartbeats 1000000 in
/-- A kind with two parts, and it can't be. -/
theorem can_no2 {k n : Int} {wd : Bs} {ps : List Tr} (hk : k = 7) (ho : okE k n wd ps.length = false) : CanE (.mk k n wd ps) := by
  intro w l ht
  rw [wr_in ho, Bool.false_and]
  unfold IE at ht
  obtain ⟨-, -, hw, p, c, xs, rfl, -, -⟩ := ht
  generalize ps.length = m at *
  have hq : okE k n wd m = (decide (n = 0) && decide (0 < (bnd wd).1) && decide (m = 2)) := by subst hk; simp [okE]
  rw [hq] at ho
  clear hq
  have e1 : (n == 0) = decide (n = 0) := beq_int _ _
  have e1' : (n != 0) = !decide (n = 0) := by rw [bne, e1]
  have e3 : ((m : Int) == 2) = decide (m = 2) := by rw [beq_int]; exact dec_cast m 2
  have e3' : ((m : Int) != 2) = !decide (m = 2) := by rw [bne, e3]
  have e4 : (m == 2) = decide (m = 2) := beq_nat _ _
  have e4' : (m != 2) = !decide (m = 2) := by rw [bne, e4]
  have e5 : decide ((m : Int) = 2) = decide (m = 2) := dec_cast m 2
  have hSt := fun W => rStr_any wd hw W
  have e2 : (((bnd wd).1 : Int) == 0) = !decide (0 < (bnd wd).1) := by rw [beq_int]; by_cases h : 0 < (bnd wd).1 <;> simp [h] <;> omega
  have e2b : (((bnd wd).1 : Nat) == 0) = !decide (0 < (bnd wd).1) := by rw [beq_nat]; by_cases h : 0 < (bnd wd).1 <;> simp [h] <;> omega
  generalize decide (n = 0) = b1 at *
  generalize decide (0 < (bnd wd).1) = b2 at *
  generalize ((bnd wd).1) = sv at *
  generalize bs wd = W0 at *
  generalize decide (m = 2) = b3 at *
  have q := CL.made w [.int .i64 7, .int .i64 n, .string W0, .slice p m c] 40
  have y0 := q.c 0 _ rfl
  have y1 := q.c 1 _ rfl
  have y2 := q.c 2 _ rfl
  have y3 := q.c 3 _ rfl
  have ka := (Keeps.refl (fun _ => False) w).alloc (.cells ([.int .i64 7, .int .i64 n, .string W0, .slice p m c] : List Value).toArray 40)
  clear q
  subst hk
  cases b1 <;> cases b2 <;> cases b3 <;>
    first
    | (cases ho; done)
    | (clear ho
       go_enter Tryd.func48, Tryd.ntmps48
       go_wp2_with (go_at_call 38; refine (hSt _).mono ?_; rintro e w' ⟨rfl, rfl⟩)
       go_ret
       exact ⟨rfl, ka⟩)
set_option maxHeartbeats 1000000 in
set_option maxRecDepth 100000 in
/-- A kind with one part: they are looked at. -/
theorem can_ok1 {N : Nat} (IH : ∀ t : Tr, bgE t ≤ N → CanE t) {k n : Int} {wd : Bs} {ps : List Tr} (hbg : bgL ps ≤ N) (hk : k = 3 ∨ k = 4 ∨ k = 5 ∨ k = 6) (ho : okE k n wd ps.length = true) : CanE (.mk k n wd ps) := by
  intro w l ht
  rw [wr_in ho, Bool.true_and]
  obtain ⟨R, hR⟩ : ∃ R, R = wrL ps := ⟨_, rfl⟩
  rw [← hR]
  have HR : Hid (R = wrL ps) := hR
  clear hR
  unfold IE at ht
  obtain ⟨-, -, hw, p, c, xs, rfl, hget, hx⟩ := ht
  obtain ⟨m, hm⟩ : ∃ m, m = ps.length := ⟨_, rfl⟩
  have HN : Hid (m = ps.length) := hm
  rw [← hm] at ho ⊢
  clear hm
  have hq : okE k n wd m = (decide (n = 0) && wd.isEmpty && decide (m = 1)) := by rcases hk with rfl | rfl | rfl | rfl <;> simp [okE]
  rw [hq] at ho
  clear hq
  simp only [Bool.and_eq_true] at ho
  obtain ⟨⟨o1, o2⟩, o3⟩ := ho
  have HM : Hid (m ≤ 2) := by have := of_decide_eq_true o3; show m ≤ 2; omega
  have e1 : (n == 0) = decide (n = 0) := beq_int _ _
  have e1' : (n != 0) = !decide (n = 0) := by rw [bne, e1]
  have e3 : ((m : Int) == 1) = decide (m = 1) := by rw [beq_int]; exact dec_cast m 1
  have e3' : ((m : Int) != 1) = !decide (m = 1) := by rw [bne, e3]
  have e4 : (m == 1) = decide (m = 1) := beq_nat _ _
  have e4' : (m != 1) = !decide (m = 1) := by rw [bne, e4]
  have e5 : decide ((m : Int) = 1) = decide (m = 1) := dec_cast m 1
  have e2 : (bs wd).toList.isEmpty = wd.isEmpty := by rw [bs_toList]
  have e2' : ((bs wd).toList != []) = !wd.isEmpty := by rw [bs_toList]; cases wd <;> rfl
  rw [o1] at e1 e1'
  rw [o2] at e2 e2'
  rw [o3] at e3 e3' e4 e4' e5
  clear o1 o2 o3
  generalize bs wd = W0 at *
  have q := CL.made w [.int .i64 k, .int .i64 n, .string W0, .slice p m c] 40
  have y0 := q.c 0 _ rfl
  have y1 := q.c 1 _ rfl
  have y2 := q.c 2 _ rfl
  have y3 := q.c 3 _ rfl
  have ka := (Keeps.refl (fun _ => False) w).alloc (.cells ([.int .i64 k, .int .i64 n, .string W0, .slice p m c] : List Value).toArray 40)
  obtain rfl | rfl | rfl | rfl := hk
  · go_enter Tryd.func48, Tryd.ntmps48
    go_wp2
    generalize w.alloc (.cells #[.int .i64 3, .int .i64 n, .string W0, .slice p m c] 40) = W1 at *
    clear y0 y1 y2 y3
    go_loopw [4] (fun iv Wr => ∃ i : Nat, iv = .int .i64 (i : Int) ∧ i ≤ m ∧ CL Wr w.heap.size [.int .i64 3, .int .i64 n, .string W0, .slice p m c] ∧ Keeps (fun _ => False) w Wr ∧ Hid (wrL (ps.drop i) = R)) (fun iv _ => m - (intOf iv).toNat)
    case atStart => exact ⟨0, rfl, Nat.zero_le _, q, ka, (by show _ = _; rw [HR.out]; rfl)⟩
    case round =>
      clear q ka
      obtain ⟨i, rfl, hi, hC, hB, HI⟩ := hrel
      have y3 := hC.c 3 _ rfl
      have hm2 := HM.out
      by_cases hlt : i < m
      · have d1 : decide ((i : Int) < (m : Int)) = true := decide_eq_true (by omega)
        have d2 : decide (i < m) = true := decide_eq_true hlt
        have i0 : (0 : Int) ≤ (i : Int) := by omega
        have i1 : (i : Int) < (m : Int) := by omega
        have i2 : (i : Int) + 1 ≤ 9223372036854775807 := by omega
        clear hm2
        have hip : i < ps.length := by rw [← HN.out]; exact hlt
        obtain ⟨t, htt⟩ : ∃ t, t = ps[i] := ⟨_, rfl⟩
        have hgt : ps[i]? = some t := by rw [htt]; exact List.getElem?_eq_getElem hip
        have hbt : bgE t ≤ N := Nat.le_trans (bgA ps i t hgt) hbg
        have hI := HI.out
        rw [wrL_at hgt] at hI
        obtain ⟨us, hty, hyc⟩ := hx.at i t hgt
        obtain ⟨k2, n2, s2, p2, m2, c2, rfl⟩ := hty.shapeR
        obtain ⟨g, o, rfl, -⟩ := hget (i * 4) _ (hyc 0 _ rfl)
        have hq : ∀ (j : Nat) (u : Value), [Value.int .i64 k2, .int .i64 n2, .string s2, .slice p2 m2 c2][j]? = some u → wr.cell? ⟨g, o + i * 4 + j, none⟩ = some u := fun j u e => by
          obtain ⟨g', o', eg, h6⟩ := hget _ _ (hyc j u e)
          injection eg with eg; injection eg with eg eo _; subst eg eo
          rw [Nat.add_assoc]
          exact hB.cell h6 (fun e => e)
        have hR1 := run_er hq
        have hP := IH t hbt wr _ (hty.keep hB)
        clear hq hyc hgt htt hip hbt hty
        cases hwt : wrE t
        · rw [hwt] at hP
          rw [hwt, Bool.false_or] at hI
          have HT : Hid (wrL (ps.drop (i + 1)) = R) := hI
          clear hI HI hwt
          go_wp2_with (first | (refine wpList_load_runL rfl 40 _ rfl ⟨g, o + i * 4, none⟩ rfl _ hR1 ?_; clear hR1) | (go_at_call 48; refine hP.mono ?_; clear hP; rintro e w1 ⟨rfl, k1⟩))
          go_roundw
          case rel => exact ⟨i + 1, by go_num, by omega, hC.keep (by show 0 < 4; decide) k1 (fun e => e), hB.trans k1, HT⟩
          case measure => simp [intOf]; omega
        · rw [hwt] at hP
          rw [hwt, Bool.true_or] at hI
          have HT : Hid (false = !R) := by show _ = _; rw [← hI]; rfl
          clear hI HI hwt
          go_wp2_with (first | (refine wpList_load_runL rfl 40 _ rfl ⟨g, o + i * 4, none⟩ rfl _ hR1 ?_; clear hR1) | (go_at_call 48; refine hP.mono ?_; clear hP; rintro e w1 ⟨rfl, k1⟩))
          go_ret
          exact ⟨congrArg (fun x => Ending.returned (.bool x)) HT.out, hB.trans k1⟩
      · obtain rfl : i = m := by omega
        have d1 : decide ((i : Int) < (i : Int)) = false := decide_eq_false (by omega)
        have d2 : decide (i < i) = false := decide_eq_false (by omega)
        have HT : Hid (true = !R) := by show _ = _; rw [← HI.out, HN.out, List.drop_length]; rfl
        go_wp2_with fail
        go_ret
        exact ⟨congrArg (fun x => Ending.returned (.bool x)) HT.out, hB⟩
  · go_enter Tryd.func48, Tryd.ntmps48
    go_wp2
    generalize w.alloc (.cells #[.int .i64 4, .int .i64 n, .string W0, .slice p m c] 40) = W1 at *
    clear y0 y1 y2 y3
    go_loopw [4] (fun iv Wr => ∃ i : Nat, iv = .int .i64 (i : Int) ∧ i ≤ m ∧ CL Wr w.heap.size [.int .i64 4, .int .i64 n, .string W0, .slice p m c] ∧ Keeps (fun _ => False) w Wr ∧ Hid (wrL (ps.drop i) = R)) (fun iv _ => m - (intOf iv).toNat)
    case atStart => exact ⟨0, rfl, Nat.zero_le _, q, ka, (by show _ = _; rw [HR.out]; rfl)⟩
    case round =>
      clear q ka
      obtain ⟨i, rfl, hi, hC, hB, HI⟩ := hrel
      have y3 := hC.c 3 _ rfl
      have hm2 := HM.out
      by_cases hlt : i < m
      · have d1 : decide ((i : Int) < (m : Int)) = true := decide_eq_true (by omega)
        have d2 : decide (i < m) = true := decide_eq_true hlt
        have i0 : (0 : Int) ≤ (i : Int) := by omega
        have i1 : (i : Int) < (m : Int) := by omega
        have i2 : (i : Int) + 1 ≤ 9223372036854775807 := by omega
        clear hm2
        have hip : i < ps.length := by rw [← HN.out]; exact hlt
        obtain ⟨t, htt⟩ : ∃ t, t = ps[i] := ⟨_, rfl⟩
        have hgt : ps[i]? = some t := by rw [htt]; exact List.getElem?_eq_getElem hip
        have hbt : bgE t ≤ N := Nat.le_trans (bgA ps i t hgt) hbg
        have hI := HI.out
        rw [wrL_at hgt] at hI
        obtain ⟨us, hty, hyc⟩ := hx.at i t hgt
        obtain ⟨k2, n2, s2, p2, m2, c2, rfl⟩ := hty.shapeR
        obtain ⟨g, o, rfl, -⟩ := hget (i * 4) _ (hyc 0 _ rfl)
        have hq : ∀ (j : Nat) (u : Value), [Value.int .i64 k2, .int .i64 n2, .string s2, .slice p2 m2 c2][j]? = some u → wr.cell? ⟨g, o + i * 4 + j, none⟩ = some u := fun j u e => by
          obtain ⟨g', o', eg, h6⟩ := hget _ _ (hyc j u e)
          injection eg with eg; injection eg with eg eo _; subst eg eo
          rw [Nat.add_assoc]
          exact hB.cell h6 (fun e => e)
        have hR1 := run_er hq
        have hP := IH t hbt wr _ (hty.keep hB)
        clear hq hyc hgt htt hip hbt hty
        cases hwt : wrE t
        · rw [hwt] at hP
          rw [hwt, Bool.false_or] at hI
          have HT : Hid (wrL (ps.drop (i + 1)) = R) := hI
          clear hI HI hwt
          go_wp2_with (first | (refine wpList_load_runL rfl 40 _ rfl ⟨g, o + i * 4, none⟩ rfl _ hR1 ?_; clear hR1) | (go_at_call 48; refine hP.mono ?_; clear hP; rintro e w1 ⟨rfl, k1⟩))
          go_roundw
          case rel => exact ⟨i + 1, by go_num, by omega, hC.keep (by show 0 < 4; decide) k1 (fun e => e), hB.trans k1, HT⟩
          case measure => simp [intOf]; omega
        · rw [hwt] at hP
          rw [hwt, Bool.true_or] at hI
          have HT : Hid (false = !R) := by show _ = _; rw [← hI]; rfl
          clear hI HI hwt
          go_wp2_with (first | (refine wpList_load_runL rfl 40 _ rfl ⟨g, o + i * 4, none⟩ rfl _ hR1 ?_; clear hR1) | (go_at_call 48; refine hP.mono ?_; clear hP; rintro e w1 ⟨rfl, k1⟩))
          go_ret
          exact ⟨congrArg (fun x => Ending.returned (.bool x)) HT.out, hB.trans k1⟩
      · obtain rfl : i = m := by omega
        have d1 : decide ((i : Int) < (i : Int)) = false := decide_eq_false (by omega)
        have d2 : decide (i < i) = false := decide_eq_false (by omega)
        have HT : Hid (true = !R) := by show _ = _; rw [← HI.out, HN.out, List.drop_length]; rfl
        go_wp2_with fail
        go_ret
        exact ⟨congrArg (fun x => Ending.returned (.bool x)) HT.out, hB⟩
  · go_enter Tryd.func48, Tryd.ntmps48
    go_wp2
    generalize w.alloc (.cells #[.int .i64 5, .int .i64 n, .string W0, .slice p m c] 40) = W1 at *
    clear y0 y1 y2 y3
    go_loopw [4] (fun iv Wr => ∃ i : Nat, iv = .int .i64 (i : Int) ∧ i ≤ m ∧ CL Wr w.heap.size [.int .i64 5, .int .i64 n, .string W0, .slice p m c] ∧ Keeps (fun _ => False) w Wr ∧ Hid (wrL (ps.drop i) = R)) (fun iv _ => m - (intOf iv).toNat)
    case atStart => exact ⟨0, rfl, Nat.zero_le _, q, ka, (by show _ = _; rw [HR.out]; rfl)⟩
    case round =>
      clear q ka
      obtain ⟨i, rfl, hi, hC, hB, HI⟩ := hrel
      have y3 := hC.c 3 _ rfl
      have hm2 := HM.out
      by_cases hlt : i < m
      · have d1 : decide ((i : Int) < (m : Int)) = true := decide_eq_true (by omega)
        have d2 : decide (i < m) = true := decide_eq_true hlt
        have i0 : (0 : Int) ≤ (i : Int) := by omega
        have i1 : (i : Int) < (m : Int) := by omega
        have i2 : (i : Int) + 1 ≤ 9223372036854775807 := by omega
        clear hm2
        have hip : i < ps.length := by rw [← HN.out]; exact hlt
        obtain ⟨t, htt⟩ : ∃ t, t = ps[i] := ⟨_, rfl⟩
        have hgt : ps[i]? = some t := by rw [htt]; exact List.getElem?_eq_getElem hip
        have hbt : bgE t ≤ N := Nat.le_trans (bgA ps i t hgt) hbg
        have hI := HI.out
        rw [wrL_at hgt] at hI
        obtain ⟨us, hty, hyc⟩ := hx.at i t hgt
        obtain ⟨k2, n2, s2, p2, m2, c2, rfl⟩ := hty.shapeR
        obtain ⟨g, o, rfl, -⟩ := hget (i * 4) _ (hyc 0 _ rfl)
        have hq : ∀ (j : Nat) (u : Value), [Value.int .i64 k2, .int .i64 n2, .string s2, .slice p2 m2 c2][j]? = some u → wr.cell? ⟨g, o + i * 4 + j, none⟩ = some u := fun j u e => by
          obtain ⟨g', o', eg, h6⟩ := hget _ _ (hyc j u e)
          injection eg with eg; injection eg with eg eo _; subst eg eo
          rw [Nat.add_assoc]
          exact hB.cell h6 (fun e => e)
        have hR1 := run_er hq
        have hP := IH t hbt wr _ (hty.keep hB)
        clear hq hyc hgt htt hip hbt hty
        cases hwt : wrE t
        · rw [hwt] at hP
          rw [hwt, Bool.false_or] at hI
          have HT : Hid (wrL (ps.drop (i + 1)) = R) := hI
          clear hI HI hwt
          go_wp2_with (first | (refine wpList_load_runL rfl 40 _ rfl ⟨g, o + i * 4, none⟩ rfl _ hR1 ?_; clear hR1) | (go_at_call 48; refine hP.mono ?_; clear hP; rintro e w1 ⟨rfl, k1⟩))
          go_roundw
          case rel => exact ⟨i + 1, by go_num, by omega, hC.keep (by show 0 < 4; decide) k1 (fun e => e), hB.trans k1, HT⟩
          case measure => simp [intOf]; omega
        · rw [hwt] at hP
          rw [hwt, Bool.true_or] at hI
          have HT : Hid (false = !R) := by show _ = _; rw [← hI]; rfl
          clear hI HI hwt
          go_wp2_with (first | (refine wpList_load_runL rfl 40 _ rfl ⟨g, o + i * 4, none⟩ rfl _ hR1 ?_; clear hR1) | (go_at_call 48; refine hP.mono ?_; clear hP; rintro e w1 ⟨rfl, k1⟩))
          go_ret
          exact ⟨congrArg (fun x => Ending.returned (.bool x)) HT.out, hB.trans k1⟩
      · obtain rfl : i = m := by omega
        have d1 : decide ((i : Int) < (i : Int)) = false := decide_eq_false (by omega)
        have d2 : decide (i < i) = false := decide_eq_false (by omega)
        have HT : Hid (true = !R) := by show _ = _; rw [← HI.out, HN.out, List.drop_length]; rfl
        go_wp2_with fail
        go_ret
        exact ⟨congrArg (fun x => Ending.returned (.bool x)) HT.out, hB⟩
  · go_enter Tryd.func48, Tryd.ntmps48
    go_wp2
    generalize w.alloc (.cells #[.int .i64 6, .int .i64 n, .string W0, .slice p m c] 40) = W1 at *
    clear y0 y1 y2 y3
    go_loopw [4] (fun iv Wr => ∃ i : Nat, iv = .int .i64 (i : Int) ∧ i ≤ m ∧ CL Wr w.heap.size [.int .i64 6, .int .i64 n, .string W0, .slice p m c] ∧ Keeps (fun _ => False) w Wr ∧ Hid (wrL (ps.drop i) = R)) (fun iv _ => m - (intOf iv).toNat)
    case atStart => exact ⟨0, rfl, Nat.zero_le _, q, ka, (by show _ = _; rw [HR.out]; rfl)⟩
    case round =>
      clear q ka
      obtain ⟨i, rfl, hi, hC, hB, HI⟩ := hrel
      have y3 := hC.c 3 _ rfl
      have hm2 := HM.out
      by_cases hlt : i < m
      · have d1 : decide ((i : Int) < (m : Int)) = true := decide_eq_true (by omega)
        have d2 : decide (i < m) = true := decide_eq_true hlt
        have i0 : (0 : Int) ≤ (i : Int) := by omega
        have i1 : (i : Int) < (m : Int) := by omega
        have i2 : (i : Int) + 1 ≤ 9223372036854775807 := by omega
        clear hm2
        have hip : i < ps.length := by rw [← HN.out]; exact hlt
        obtain ⟨t, htt⟩ : ∃ t, t = ps[i] := ⟨_, rfl⟩
        have hgt : ps[i]? = some t := by rw [htt]; exact List.getElem?_eq_getElem hip
        have hbt : bgE t ≤ N := Nat.le_trans (bgA ps i t hgt) hbg
        have hI := HI.out
        rw [wrL_at hgt] at hI
        obtain ⟨us, hty, hyc⟩ := hx.at i t hgt
        obtain ⟨k2, n2, s2, p2, m2, c2, rfl⟩ := hty.shapeR
        obtain ⟨g, o, rfl, -⟩ := hget (i * 4) _ (hyc 0 _ rfl)
        have hq : ∀ (j : Nat) (u : Value), [Value.int .i64 k2, .int .i64 n2, .string s2, .slice p2 m2 c2][j]? = some u → wr.cell? ⟨g, o + i * 4 + j, none⟩ = some u := fun j u e => by
          obtain ⟨g', o', eg, h6⟩ := hget _ _ (hyc j u e)
          injection eg with eg; injection eg with eg eo _; subst eg eo
          rw [Nat.add_assoc]
          exact hB.cell h6 (fun e => e)
        have hR1 := run_er hq
        have hP := IH t hbt wr _ (hty.keep hB)
        clear hq hyc hgt htt hip hbt hty
        cases hwt : wrE t
        · rw [hwt] at hP
          rw [hwt, Bool.false_or] at hI
          have HT : Hid (wrL (ps.drop (i + 1)) = R) := hI
          clear hI HI hwt
          go_wp2_with (first | (refine wpList_load_runL rfl 40 _ rfl ⟨g, o + i * 4, none⟩ rfl _ hR1 ?_; clear hR1) | (go_at_call 48; refine hP.mono ?_; clear hP; rintro e w1 ⟨rfl, k1⟩))
          go_roundw
          case rel => exact ⟨i + 1, by go_num, by omega, hC.keep (by show 0 < 4; decide) k1 (fun e => e), hB.trans k1, HT⟩
          case measure => simp [intOf]; omega
        · rw [hwt] at hP
          rw [hwt, Bool.true_or] at hI
          have HT : Hid (false = !R) := by show _ = _; rw [← hI]; rfl
          clear hI HI hwt
          go_wp2_with (first | (refine wpList_load_runL rfl 40 _ rfl ⟨g, o + i * 4, none⟩ rfl _ hR1 ?_; clear hR1) | (go_at_call 48; refine hP.mono ?_; clear hP; rintro e w1 ⟨rfl, k1⟩))
          go_ret
          exact ⟨congrArg (fun x => Ending.returned (.bool x)) HT.out, hB.trans k1⟩
      · obtain rfl : i = m := by omega
        have d1 : decide ((i : Int) < (i : Int)) = false := decide_eq_false (by omega)
        have d2 : decide (i < i) = false := decide_eq_false (by omega)
        have HT : Hid (true = !R) := by show _ = _; rw [← HI.out, HN.out, List.drop_length]; rfl
        go_wp2_with fail
        go_ret
        exact ⟨congrArg (fun x => Ending.returned (.bool x)) HT.out, hB⟩
set_option maxHeartbeats 1000000 in
set_option maxRecDepth 100000 in
/-- A kind with two parts: they are looked at. -/
theorem can_ok2 {N : Nat} (IH : ∀ t : Tr, bgE t ≤ N → CanE t) {k n : Int} {wd : Bs} {ps : List Tr} (hbg : bgL ps ≤ N) (hk : k = 7) (ho : okE k n wd ps.length = true) : CanE (.mk k n wd ps) := by
  intro w l ht
  rw [wr_in ho, Bool.true_and]
  obtain ⟨R, hR⟩ : ∃ R, R = wrL ps := ⟨_, rfl⟩
  rw [← hR]
  have HR : Hid (R = wrL ps) := hR
  clear hR
  unfold IE at ht
  obtain ⟨-, -, hw, p, c, xs, rfl, hget, hx⟩ := ht
  obtain ⟨m, hm⟩ : ∃ m, m = ps.length := ⟨_, rfl⟩
  have HN : Hid (m = ps.length) := hm
  rw [← hm] at ho ⊢
  clear hm
  have hq : okE k n wd m = (decide (n = 0) && decide (0 < (bnd wd).1) && decide (m = 2)) := by subst hk; simp [okE]
  rw [hq] at ho
  clear hq
  simp only [Bool.and_eq_true] at ho
  obtain ⟨⟨o1, o2⟩, o3⟩ := ho
  have HM : Hid (m ≤ 2) := by have := of_decide_eq_true o3; show m ≤ 2; omega
  have e1 : (n == 0) = decide (n = 0) := beq_int _ _
  have e1' : (n != 0) = !decide (n = 0) := by rw [bne, e1]
  have e3 : ((m : Int) == 2) = decide (m = 2) := by rw [beq_int]; exact dec_cast m 2
  have e3' : ((m : Int) != 2) = !decide (m = 2) := by rw [bne, e3]
  have e4 : (m == 2) = decide (m = 2) := beq_nat _ _
  have e4' : (m != 2) = !decide (m = 2) := by rw [bne, e4]
  have e5 : decide ((m : Int) = 2) = decide (m = 2) := dec_cast m 2
  have hSt := fun W => rStr_any wd hw W
  have e2 : (((bnd wd).1 : Int) == 0) = !decide (0 < (bnd wd).1) := by rw [beq_int]; by_cases h : 0 < (bnd wd).1 <;> simp [h] <;> omega
  have e2b : (((bnd wd).1 : Nat) == 0) = !decide (0 < (bnd wd).1) := by rw [beq_nat]; by_cases h : 0 < (bnd wd).1 <;> simp [h] <;> omega
  rw [o1] at e1 e1'
  rw [o2] at e2 e2b
  rw [o3] at e3 e3' e4 e4' e5
  clear o1 o2 o3
  generalize ((bnd wd).1) = sv at *
  generalize bs wd = W0 at *
  subst hk
  have q := CL.made w [.int .i64 7, .int .i64 n, .string W0, .slice p m c] 40
  have y0 := q.c 0 _ rfl
  have y1 := q.c 1 _ rfl
  have y2 := q.c 2 _ rfl
  have y3 := q.c 3 _ rfl
  have ka := (Keeps.refl (fun _ => False) w).alloc (.cells ([.int .i64 7, .int .i64 n, .string W0, .slice p m c] : List Value).toArray 40)
  go_enter Tryd.func48, Tryd.ntmps48
  go_wp2_with (go_at_call 38; refine (hSt _).mono ?_; rintro e w' ⟨rfl, rfl⟩)
  generalize w.alloc (.cells #[.int .i64 7, .int .i64 n, .string W0, .slice p m c] 40) = W1 at *
  clear y0 y1 y2 y3
  go_loopw [4] (fun iv Wr => ∃ i : Nat, iv = .int .i64 (i : Int) ∧ i ≤ m ∧ CL Wr w.heap.size [.int .i64 7, .int .i64 n, .string W0, .slice p m c] ∧ Keeps (fun _ => False) w Wr ∧ Hid (wrL (ps.drop i) = R)) (fun iv _ => m - (intOf iv).toNat)
  case atStart => exact ⟨0, rfl, Nat.zero_le _, q, ka, (by show _ = _; rw [HR.out]; rfl)⟩
  case round =>
    clear q ka
    obtain ⟨i, rfl, hi, hC, hB, HI⟩ := hrel
    have y3 := hC.c 3 _ rfl
    have hm2 := HM.out
    by_cases hlt : i < m
    · have d1 : decide ((i : Int) < (m : Int)) = true := decide_eq_true (by omega)
      have d2 : decide (i < m) = true := decide_eq_true hlt
      have i0 : (0 : Int) ≤ (i : Int) := by omega
      have i1 : (i : Int) < (m : Int) := by omega
      have i2 : (i : Int) + 1 ≤ 9223372036854775807 := by omega
      clear hm2
      have hip : i < ps.length := by rw [← HN.out]; exact hlt
      obtain ⟨t, htt⟩ : ∃ t, t = ps[i] := ⟨_, rfl⟩
      have hgt : ps[i]? = some t := by rw [htt]; exact List.getElem?_eq_getElem hip
      have hbt : bgE t ≤ N := Nat.le_trans (bgA ps i t hgt) hbg
      have hI := HI.out
      rw [wrL_at hgt] at hI
      obtain ⟨us, hty, hyc⟩ := hx.at i t hgt
      obtain ⟨k2, n2, s2, p2, m2, c2, rfl⟩ := hty.shapeR
      obtain ⟨g, o, rfl, -⟩ := hget (i * 4) _ (hyc 0 _ rfl)
      have hq : ∀ (j : Nat) (u : Value), [Value.int .i64 k2, .int .i64 n2, .string s2, .slice p2 m2 c2][j]? = some u → wr.cell? ⟨g, o + i * 4 + j, none⟩ = some u := fun j u e => by
        obtain ⟨g', o', eg, h6⟩ := hget _ _ (hyc j u e)
        injection eg with eg; injection eg with eg eo _; subst eg eo
        rw [Nat.add_assoc]
        exact hB.cell h6 (fun e => e)
      have hR1 := run_er hq
      have hP := IH t hbt wr _ (hty.keep hB)
      clear hq hyc hgt htt hip hbt hty
      cases hwt : wrE t
      · rw [hwt] at hP
        rw [hwt, Bool.false_or] at hI
        have HT : Hid (wrL (ps.drop (i + 1)) = R) := hI
        clear hI HI hwt
        go_wp2_with (first | (refine wpList_load_runL rfl 40 _ rfl ⟨g, o + i * 4, none⟩ rfl _ hR1 ?_; clear hR1) | (go_at_call 48; refine hP.mono ?_; clear hP; rintro e w1 ⟨rfl, k1⟩))
        go_roundw
        case rel => exact ⟨i + 1, by go_num, by omega, hC.keep (by show 0 < 4; decide) k1 (fun e => e), hB.trans k1, HT⟩
        case measure => simp [intOf]; omega
      · rw [hwt] at hP
        rw [hwt, Bool.true_or] at hI
        have HT : Hid (false = !R) := by show _ = _; rw [← hI]; rfl
        clear hI HI hwt
        go_wp2_with (first | (refine wpList_load_runL rfl 40 _ rfl ⟨g, o + i * 4, none⟩ rfl _ hR1 ?_; clear hR1) | (go_at_call 48; refine hP.mono ?_; clear hP; rintro e w1 ⟨rfl, k1⟩))
        go_ret
        exact ⟨congrArg (fun x => Ending.returned (.bool x)) HT.out, hB.trans k1⟩
    · obtain rfl : i = m := by omega
      have d1 : decide ((i : Int) < (i : Int)) = false := decide_eq_false (by omega)
      have d2 : decide (i < i) = false := decide_eq_false (by omega)
      have HT : Hid (true = !R) := by show _ = _; rw [← HI.out, HN.out, List.drop_length]; rfl
      go_wp2_with fail
      go_ret
      exact ⟨congrArg (fun x => Ending.returned (.bool x)) HT.out, hB⟩
theorem can_all : ∀ (n : Nat) (t : Tr), bgE t ≤ n → CanE t
  | 0, t, h => absurd h (by have := bgE_pos t; omega)
  | N + 1, .mk k n wd ps, h => by
    have hbg : bgL ps ≤ N := by unfold bgE at h; omega
    have IH := fun t (ht : bgE t ≤ N) => can_all N t ht
    by_cases h1 : k = 1
    · subst h1; exact can_1
    by_cases h2 : k = 2
    · subst h2; exact can_2
    by_cases h7 : k = 7
    · cases ho : okE k n wd ps.length
      · exact can_no2 h7 ho
      · exact can_ok2 IH hbg h7 ho
    by_cases hk : k = 3 ∨ k = 4 ∨ k = 5 ∨ k = 6
    · cases ho : okE k n wd ps.length
      · exact can_no1 hk ho
      · exact can_ok1 IH hbg hk ho
    · exact can_0 h1 h2 (fun e => hk (.inl e)) (fun e => hk (.inr (.inl e))) (fun e => hk (.inr (.inr (.inl e)))) (fun e => hk (.inr (.inr (.inr e)))) h7
end Go.Proofs.YtehblpbefkopbaaDoor
namespace Go.Proofs.YtehblpbefkopbaaDoor
open Go.RowKit Go.ChangeShapes Go.WideShapes Go.ChangeAt Go.Deep
attribute [local go_sem] Oper.semAt_some run_store_nf run_store_f
/-! The document's statements: field, all. -/
theorem wpQuiet_load {P : Program} {ops : Array Oper} {C : World → Prop} {Q : Act → Prop} {rest : List Oper} {o : Oper} {a : Act} (hw : Region.wanted o (yielded ops a.tmps) = true) (ty : TypeId) (x : Operand) (ho : o.op = .load ty x) (ad : Addr) (hx : a.eval x = .pointer (some ad)) (v : Value)
    (hr : ∀ w, C w → (loadVar ty ad).run P w = .ok v w) (h : wpQuiet P ops C Q rest (a.put o.dst v)) : wpQuiet P ops C Q (o :: rest) a :=
  BigFrame.wpQuiet_want hw fun K hK => ⟨v, fun w hC => by
    unfold Oper.quietAt execOp
    simp only [ho, hx, Instr.loadAt, Instr.sureAddr, Sem.run_bind, Sem.run_pure, Result.andThen_ok, hr w hC]
    exact ⟨rfl, rfl⟩, hK _ h⟩
theorem wrS_eq {k : Int} {wd : Bs} {a b : Tr} {th el : List St} : (!wrS (.mk k wd a b th el)) = (decide (1 ≤ k) && decide (k ≤ 7) && (usW k == isNm wd) && (usW k || wd.isEmpty) && (if usA k then !wrE a else isZr a) && (if usB k then !wrE b else isZr b) && (usT k || decide (th.length = 0)) && (usE k || decide (el.length = 0)) && !wrSL th && !wrSL el) := by
  unfold wrS okS
  have hn : wd.isEmpty = true → isNm wd = false := fun e => by cases wd; rfl; cases e
  generalize isNm wd = nm at *
  generalize wd.isEmpty = em at *
  generalize wrE a = xa
  generalize wrE b = xb
  generalize wrSL th = xt
  generalize wrSL el = xe
  generalize isZr a = za
  generalize isZr b = zb
  generalize decide (1 ≤ k) = c1
  generalize decide (k ≤ 7) = c2
  generalize (usT k || decide (th.length = 0)) = ot
  generalize (usE k || decide (el.length = 0)) = oe
  generalize usA k = ua
  generalize usB k = ub
  cases c1
  · rfl
  cases c2
  · rfl
  cases usW k
  · cases em
    · cases nm <;> rfl
    · rw [hn rfl]
      cases ua <;> cases za <;> cases ub <;> cases zb <;> cases ot <;> cases oe <;> cases xa <;> (try rfl) <;> cases xb <;> (try rfl) <;> cases xt <;> (try rfl) <;> cases xe <;> rfl
  · cases nm
    · rfl
    · cases ua <;> cases za <;> cases ub <;> cases zb <;> cases ot <;> cases oe <;> cases xa <;> (try rfl) <;> cases xb <;> (try rfl) <;> cases xt <;> (try rfl) <;> cases xe <;> rfl
theorem wrSL_at {ps : List St} {i : Nat} {t : St} (h : ps[i]? = some t) : (!wrSL (ps.drop i)) = (!wrS t && !wrSL (ps.drop (i + 1))) := by
  obtain ⟨hi, e⟩ := List.getElem?_eq_some_iff.1 h
  rw [List.drop_eq_getElem_cons hi, e, wrSL, Bool.not_or]
set_option maxHeartbeats 1000000 in
set_option maxRecDepth 100000 in
theorem rField_any {w : World} {t : Tr} {l : List Value} (ht : IE w t l) (u : Bool) : Calls Tryd.prog 32 #[.agg l.toArray, .bool u] w fun e w' => e = .returned (.bool (if u then !wrE t else isZr t)) ∧ Keeps (fun _ => False) w w' := by
  have hC := fun W (k : Keeps (fun _ => False) w W) => can_all (bgE t) t (Nat.le_refl _) W l (ht.keep k)
  have hN : ∀ W, Calls Tryd.prog 49 #[.agg l.toArray] W fun e w' => e = .returned (.bool (isZr t)) ∧ Keeps (fun _ => False) W w' := fun W => by
    obtain ⟨k, n, wd, ps⟩ := t
    unfold IE at ht
    obtain ⟨-, -, -, p, c, xs, rfl, -, -⟩ := ht
    have e : isZr (.mk k n wd ps) = (decide (k = 0) && decide (n = 0) && wd.isEmpty && decide (ps.length = 0)) := by unfold isZr; cases ps <;> simp
    rw [e]
    exact rNone_any
  obtain ⟨k, n, s, p, m, c, rfl⟩ := ht.shapeR
  have q := CL.made w [.int .i64 k, .int .i64 n, .string s, .slice p m c] 40
  have ka := (Keeps.refl (fun _ => False) w).alloc (.cells ([.int .i64 k, .int .i64 n, .string s, .slice p m c] : List Value).toArray 40)
  have hCa := hC _ ka
  have hNa := hN (w.alloc (.cells ([.int .i64 k, .int .i64 n, .string s, .slice p m c] : List Value).toArray 40))
  have hR := run_er (cl_at0 q)
  clear hC hN ht
  generalize wrE t = x1 at *
  generalize isZr t = x2 at *
  cases u
  · rw [if_neg (by simp)]
    go_enter Tryd.func32, Tryd.ntmps32
    go_wp2_with (first | (refine wpList_load_runL rfl 40 _ rfl ⟨w.heap.size, 0, none⟩ rfl _ hR ?_; clear hR) | (go_at_call 49; refine hNa.mono ?_; rintro e w1 ⟨rfl, k1⟩))
    go_ret
    exact ⟨rfl, ka.trans k1⟩
  · rw [if_pos rfl]
    go_enter Tryd.func32, Tryd.ntmps32
    go_wp2_with (first | (refine wpList_load_runL rfl 40 _ rfl ⟨w.heap.size, 0, none⟩ rfl _ hR ?_; clear hR) | (go_at_call 48; refine hCa.mono ?_; rintro e w1 ⟨rfl, k1⟩))
    go_ret
    exact ⟨rfl, ka.trans k1⟩
def AllS (l : List St) : Prop := ∀ (w : World) (p : Option Addr) (c : Nat) (xs : List Value), Rd w p xs → ISL w l xs → Calls Tryd.prog 20 #[.slice p l.length c] w fun e w' => e = .returned (.bool (!wrSL l)) ∧ Keeps (fun _ => False) w w'
end Go.Proofs.YtehblpbefkopbaaDoor
namespace Go.Proofs.YtehblpbefkopbaaDoor
open Go.RowKit Go.ChangeShapes Go.WideShapes Go.ChangeAt Go.Deep
attribute [local go_sem] Oper.semAt_some run_store_nf run_store_f
set_option maxHeartbeats 4000000 in
set_option maxRecDepth 100000 in
theorem all_step {n : Nat} (IH : ∀ l : List St, bgSL l < n → AllS l) (hn : n + 1 ≤ 1048576) (l : List St) (h : bgSL l < n + 1) : AllS l := by
    intro w p c xs hget hx
    obtain ⟨N, hN⟩ : ∃ N, N = l.length := ⟨_, rfl⟩
    have hNn : N ≤ n := by have := bgSL_len l; omega
    have HN : Hid (N = l.length) := hN
    rw [← hN]
    clear hN
    obtain ⟨NR, hR⟩ : ∃ NR, NR = !wrSL l := ⟨_, rfl⟩
    rw [← hR]
    have HR : Hid (NR = !wrSL l) := hR
    clear hR
    go_enter Tryd.func20, Tryd.ntmps20
    go_wp2_with fail
    go_loopw [3] (fun iv Wr => ∃ (i : Nat), iv = .int .i64 (i : Int) ∧ i ≤ N ∧ Keeps (fun _ => False) w Wr ∧ Hid ((!wrSL (l.drop i)) = NR)) (fun iv _ => N - (intOf iv).toNat)
    case atStart => exact ⟨0, rfl, Nat.zero_le _, Keeps.refl _ w, HR.out.symm⟩
    case round =>
      obtain ⟨i, rfl, hi, hB, HI⟩ := hrel
      by_cases hlt : i < N
      · have d1 : decide ((i : Int) < (N : Int)) = true := decide_eq_true (by omega)
        have d2 : decide (i < N) = true := decide_eq_true hlt
        have i0 : (0 : Int) ≤ (i : Int) := by omega
        have i1 : (i : Int) < (N : Int) := by omega
        have i2 : (i : Int) + 1 ≤ 9223372036854775807 := by omega
        have hip : i < l.length := by rw [← HN.out]; exact hlt
        obtain ⟨t, htt⟩ : ∃ t, t = l[i] := ⟨_, rfl⟩
        have hgt : l[i]? = some t := by rw [htt]; exact List.getElem?_eq_getElem hip
        have hbt : bgS t ≤ bgSL l := bgSA l i t hgt
        have hI := HI.out
        rw [wrSL_at hgt] at hI
        obtain ⟨us, hty, hyc⟩ := hx.at i t hgt
        clear hgt htt hip HI
        obtain ⟨k, wd, a, b, th, el⟩ := t
        unfold bgS at hbt
        obtain ⟨-, hwd, ka, na, sa, pa, ma, ca, kb, nb, sb, pb, mb, cb, pt, ct, pe, ce, xt, xe, rfl, Ta, Tb, ot, st1, oe, se1⟩ := hty.parts
        clear hty
        rw [wrS_eq] at hI
        have hNm := fun W => rNamed_any wd hwd W
        have eS : (bs wd).toList.isEmpty = wd.isEmpty := by rw [bs_toList]
        have eS' : ((bs wd).toList != []) = !wd.isEmpty := by rw [bs_toList]; cases wd <;> rfl
        have hU : ∀ W, Calls Tryd.prog 29 #[.int .i64 k] W _ := fun W => rUses_any k W
        have hHw : ∀ W, Calls Tryd.prog 30 #[.string (bs (usR k)), .int .u8 119] W _ := fun W => rHas_any (usR k) 119 (Nat.le_trans (usR_len k) (by decide)) W
        have hHa : ∀ W, Calls Tryd.prog 30 #[.string (bs (usR k)), .int .u8 97] W _ := fun W => rHas_any (usR k) 97 (Nat.le_trans (usR_len k) (by decide)) W
        have hHb : ∀ W, Calls Tryd.prog 30 #[.string (bs (usR k)), .int .u8 98] W _ := fun W => rHas_any (usR k) 98 (Nat.le_trans (usR_len k) (by decide)) W
        have hHt : ∀ W, Calls Tryd.prog 30 #[.string (bs (usR k)), .int .u8 116] W _ := fun W => rHas_any (usR k) 116 (Nat.le_trans (usR_len k) (by decide)) W
        have hHe : ∀ W, Calls Tryd.prog 30 #[.string (bs (usR k)), .int .u8 101] W _ := fun W => rHas_any (usR k) 101 (Nat.le_trans (usR_len k) (by decide)) W
        rw [usR_w] at hHw
        rw [usR_a] at hHa
        rw [usR_b] at hHb
        rw [usR_t] at hHt
        rw [usR_e] at hHe
        have eK1 : decide (k < 1) = !decide (1 ≤ k) := by by_cases h1 : 1 ≤ k <;> simp [h1] <;> omega
        have eK2 : decide (7 < k) = !decide (k ≤ 7) := by by_cases h1 : k ≤ 7 <;> simp [h1] <;> omega
        obtain ⟨g, og, rfl, -⟩ := hget (i * 12) _ (hyc 0 _ rfl)
        have hPt := fun W (kW : Keeps (fun _ => False) wr W) => IH th (by omega) W pt ct _ (ot.keep (hB.trans kW)) (st1.keep (hB.trans kW))
        have hPe := fun W (kW : Keeps (fun _ => False) wr W) => IH el (by omega) W pe ce _ (oe.keep (hB.trans kW)) (se1.keep (hB.trans kW))
        have hFa := fun W (kW : Keeps (fun _ => False) wr W) => rField_any (Ta.keep (hB.trans kW)) (usA k)
        have hFb := fun W (kW : Keeps (fun _ => False) wr W) => rField_any (Tb.keep (hB.trans kW)) (usB k)
        have eT : decide (0 < (th.length : Int)) = !decide (th.length = 0) := by by_cases h1 : th.length = 0 <;> simp [h1] <;> omega
        have eT' : decide (0 < th.length) = !decide (th.length = 0) := by by_cases h1 : th.length = 0 <;> simp [h1] <;> omega
        have eE : decide (0 < (el.length : Int)) = !decide (el.length = 0) := by by_cases h1 : el.length = 0 <;> simp [h1] <;> omega
        have eE' : decide (0 < el.length) = !decide (el.length = 0) := by by_cases h1 : el.length = 0 <;> simp [h1] <;> omega
        have hq1 : ∀ (j : Nat) (u : Value), ([.int .i64 k, .string (bs wd), .int .i64 ka, .int .i64 na, .string sa, .slice pa ma ca, .int .i64 kb, .int .i64 nb, .string sb, .slice pb mb cb, .slice pt th.length ct, .slice pe el.length ce] : List Value)[j]? = some u → wr.cell? ⟨g, og + i * 12 + j, none⟩ = some u := fun j u e => by
          obtain ⟨g1, o1, eg, h6⟩ := hget _ _ (hyc j u e)
          injection eg with eg; injection eg with eg eo _; subst eg eo
          rw [Nat.add_assoc]
          exact hB.cell h6 (fun e => e)
        have hR1 := run_rs rfl hq1
        clear hq1 hyc hbt Ta Tb ot st1 oe se1
        have HUE : Hid (usE k = true → usT k = true) := by show _ → _; unfold usE usT; intro e; rw [e]; rfl
        have HZ1 : Hid (decide (th.length = 0) = true → wrSL th = false) := by show _ → _; intro e; rw [List.eq_nil_of_length_eq_zero (of_decide_eq_true e)]; rfl
        have HZ2 : Hid (decide (el.length = 0) = true → wrSL el = false) := by show _ → _; intro e; rw [List.eq_nil_of_length_eq_zero (of_decide_eq_true e)]; rfl
        generalize (if usA k then !wrE a else isZr a) = fa at *
        generalize (if usB k then !wrE b else isZr b) = fb at *
        generalize decide (th.length = 0) = zt at *
        generalize decide (el.length = 0) = ze at *
        generalize th.length = lt at *
        generalize el.length = le at *
        generalize decide (1 ≤ k) = c1 at *
        generalize decide (k ≤ 7) = c2 at *
        generalize usW k = uw at *
        generalize usA k = ua at *
        generalize usB k = ub at *
        generalize usT k = ut at *
        generalize usE k = ue at *
        generalize bs (usR k) = UU at *
        generalize isNm wd = nm at *
        generalize wd.isEmpty = em at *
        generalize bs wd = s at *
        generalize wrSL th = r1 at *
        generalize wrSL el = r2 at *
        obtain ⟨C, hC⟩ : ∃ C, C = (c1 && c2 && (uw == nm) && (uw || em)) := ⟨_, rfl⟩
        have HS : Hid ((C && fa && fb && (ut || zt) && (ue || ze) && !r1 && !r2 && !wrSL (l.drop (i + 1))) = NR) := by rw [hC]; exact hI
        have HC : Hid (C = (c1 && c2 && (uw == nm) && (uw || em))) := hC
        clear hI hC
        have HeT : Hid (_ ∧ _ ∧ _ ∧ _) := ⟨eT, eT', eE, eE'⟩
        clear eT eT' eE eE'
        refine wp_seq_k (fun KK hKK => ?_)
        have hKH : Hid _ := hKK
        clear hKK
        go_wp2_with fail
        refine hKH.out _ _ ?_
        clear hKH KK
        refine wp_seq_k (fun KK hKK => ?_)
        have hKH : Hid _ := hKK
        clear hKK
        refine wp_block ?_
        refine wp_seq_k (fun K2 hK2 => ?_)
        have hKI : Hid _ := hK2
        clear hK2
        go_wp2_with (refine wpList_load_runL rfl 42 _ rfl ⟨g, og + i * 12, none⟩ rfl _ hR1 ?_; clear hR1)
        refine hKI.out _ _ ?_
        clear hKI K2
        obtain ⟨w5, hw5⟩ : ∃ w5, w5 = wr.alloc (.cells #[.int .i64 k, .string s, .int .i64 ka, .int .i64 na, .string sa, .slice pa ma ca, .int .i64 kb, .int .i64 nb, .string sb, .slice pb mb cb, .slice pt lt ct, .slice pe le ce] 42) := ⟨_, rfl⟩
        have hb5 : CL w5 wr.heap.size [.int .i64 k, .string s, .int .i64 ka, .int .i64 na, .string sa, .slice pa ma ca, .int .i64 kb, .int .i64 nb, .string sb, .slice pb mb cb, .slice pt lt ct, .slice pe le ce] := by rw [hw5]; exact CL.made wr _ _
        have k5 : Keeps (fun _ => False) wr w5 := by rw [hw5]; exact (Keeps.refl _ wr).alloc _
        rw [← hw5]
        clear hw5
        have y0 := hb5.c 0 _ rfl
        refine wp_seq_k (fun K2 hK2 => ?_)
        have hKI : Hid _ := hK2
        clear hK2
        go_wp2_with (go_at_call 29; refine (hU _).mono ?_; rintro e wn ⟨rfl, hwn⟩; rw [hwn]; clear hwn wn)
        refine hKI.out _ _ ?_
        clear hKI K2 y0 hU
        have Y0 := ks_cell (hb5.c 0 _ rfl)
        have Y1 := ks_cell (hb5.c 1 _ rfl)
        have hNE : Nonempty (KS w5) := ⟨⟨w5, Keeps.refl _ w5⟩⟩
        refine wp_seq_k (fun K2 hK2 => ?_)
        have rest : ∀ (v2 v6 v7 v8 v9 v10 v11 v12 v13 v14 v15 v16 v17 v18 v19 v20 v21 v22 v23 v24 v25 v26 v27 v28 v29 v30 v31 v32 v33 v34 v35 v36 v37 v38 v39 v40 v41 v42 v43 v44 v45 v46 v47 v48 v49 v50 v51 v52 v53 v54 v55 v56 v57 v58 v59 v60 v61 v62 v63 v64 v65 v66 v67 v68 v69 v70 v71 v72 v73 v74 v75 v76 v77 v78 v79 v80 v81 v82 v83 v84 v85 v86 v87 v88 v89 v90 : Value) (w6 : World), Keeps (fun _ => False) w5 w6 → C = true → K2 { tmps := (.slice (some ⟨g, og, none⟩) N c :: undef :: v2 :: .int .i64 (i : Int) :: .pointer (some ⟨wr.heap.size, 0, none⟩) :: .string UU :: v6 :: v7 :: v8 :: v9 :: v10 :: v11 :: v12 :: v13 :: v14 :: v15 :: v16 :: v17 :: v18 :: v19 :: v20 :: v21 :: v22 :: v23 :: v24 :: v25 :: v26 :: v27 :: v28 :: v29 :: v30 :: v31 :: v32 :: v33 :: v34 :: v35 :: v36 :: v37 :: v38 :: v39 :: v40 :: v41 :: v42 :: v43 :: v44 :: v45 :: v46 :: v47 :: v48 :: v49 :: v50 :: v51 :: v52 :: v53 :: v54 :: v55 :: v56 :: v57 :: v58 :: v59 :: v60 :: v61 :: v62 :: v63 :: v64 :: v65 :: v66 :: v67 :: v68 :: v69 :: v70 :: v71 :: v72 :: v73 :: v74 :: v75 :: v76 :: v77 :: v78 :: v79 :: v80 :: v81 :: v82 :: v83 :: v84 :: v85 :: v86 :: v87 :: v88 :: v89 :: v90 :: []).toArray, defers := [] } w6 := by
          intro v2 v6 v7 v8 v9 v10 v11 v12 v13 v14 v15 v16 v17 v18 v19 v20 v21 v22 v23 v24 v25 v26 v27 v28 v29 v30 v31 v32 v33 v34 v35 v36 v37 v38 v39 v40 v41 v42 v43 v44 v45 v46 v47 v48 v49 v50 v51 v52 v53 v54 v55 v56 v57 v58 v59 v60 v61 v62 v63 v64 v65 v66 v67 v68 v69 v70 v71 v72 v73 v74 v75 v76 v77 v78 v79 v80 v81 v82 v83 v84 v85 v86 v87 v88 v89 v90 w6 ku hCt
          subst hCt
          have hKI : Hid _ := hK2
          clear hK2 Y0 Y1 hNE eS eS' eK1 eK2 d1 d2 i0 i1
          refine hKI.out _ _ ?_
          clear hKI
          have b6 := hb5.keep (by show 0 < 12; decide) ku (fun e => e)
          have k6 := k5.trans ku
          have hqa : ∀ W, (∃ u : KS w6, W = u.1) → (loadVar 40 ⟨wr.heap.size, 2, none⟩).run Tryd.prog W = .ok (.agg #[.int .i64 ka, .int .i64 na, .string sa, .slice pa ma ca]) W := fun W hW => by
            obtain ⟨u, rfl⟩ := hW
            exact run_er (fun j v e => (b6.keep (by show 0 < 12; decide) u.2 (fun e => e)).c (2 + j) v (by rw [← List.getElem?_drop, ← e]; exact List.getElem?_append_left (l₂ := [.int .i64 kb, .int .i64 nb, .string sb, .slice pb mb cb, .slice pt lt ct, .slice pe le ce]) (List.getElem?_eq_some_iff.1 e).1))
          have hqb : ∀ W, (∃ u : KS w6, W = u.1) → (loadVar 40 ⟨wr.heap.size, 6, none⟩).run Tryd.prog W = .ok (.agg #[.int .i64 kb, .int .i64 nb, .string sb, .slice pb mb cb]) W := fun W hW => by
            obtain ⟨u, rfl⟩ := hW
            exact run_er (fun j v e => (b6.keep (by show 0 < 12; decide) u.2 (fun e => e)).c (6 + j) v (by rw [← List.getElem?_drop, ← e]; exact List.getElem?_append_left (l₂ := [.slice pt lt ct, .slice pe le ce]) (List.getElem?_eq_some_iff.1 e).1))
          have hfa := fun u : KS w6 => hFa u.1 (k6.trans u.2)
          have hfb := fun u : KS w6 => hFb u.1 (k6.trans u.2)
          have hNE : Nonempty (KS w6) := ⟨⟨w6, Keeps.refl _ w6⟩⟩
          clear hb5 hFa hFb hHw hNm ku HC
          refine wp_seq_k (fun K2 hK2 => ?_)
          have hKI : Hid _ := hK2
          clear hK2
          refine wp_seq_k (fun K3 hK3 => ?_)
          have hKJ : Hid _ := hK3
          clear hK3
          refine wp_region_ks (by kernel_rfl) (by kernel_rfl) ?_
          cases fa
          · (repeat (first | go_big_quiet_skip | (have hqx := hqa; refine wpQuiet_load (by kernel_rfl) 40 _ rfl ⟨wr.heap.size, 2, none⟩ rfl _ hqx ?_; clear hqx hqa; (try simp only [Act.put, List.setIfInBounds_toArray, List.set_cons_zero, List.set_cons_succ])) | (have hqx := hqb; refine wpQuiet_load (by kernel_rfl) 40 _ rfl ⟨wr.heap.size, 6, none⟩ rfl _ hqx ?_; clear hqx hqb; (try simp only [Act.put, List.setIfInBounds_toArray, List.set_cons_zero, List.set_cons_succ])) | go_big_quiet_step (first | (go_at_call 30; first | (with_reducible refine (hHa _).mono ?_; rintro e w9 ⟨rfl, rfl⟩; exact ⟨rfl, ⟨_, KS.property _⟩, rfl⟩) | (with_reducible refine (hHb _).mono ?_; rintro e w9 ⟨rfl, rfl⟩; exact ⟨rfl, ⟨_, KS.property _⟩, rfl⟩)) | (go_at_call 32; first | (with_reducible refine (hfa _).mono ?_; rintro e w9 ⟨rfl, k9⟩; exact ⟨rfl, ⟨_, (KS.property _).trans k9⟩, rfl⟩) | (with_reducible refine (hfb _).mono ?_; rintro e w9 ⟨rfl, k9⟩; exact ⟨rfl, ⟨_, (KS.property _).trans k9⟩, rfl⟩)))))
            refine wpQuiet_nil ?_
            rintro _ ⟨U, rfl⟩
            have ku := U.property
            (try clear hqa)
            (try clear hqb)
            (try clear hfa)
            (try clear hfb)
            (try clear hHa)
            (try clear hHb)
            clear hNE
            generalize U.val = w8 at *
            refine hKJ.out _ _ ?_
            clear hKJ K3
            go_wp2_with fail
            go_ret
            exact ⟨congrArg (fun x => Ending.returned (.bool x)) (show false = NR from HS.out), (hB.trans k6).trans ku⟩
          · cases fb
            · (repeat (first | go_big_quiet_skip | (have hqx := hqa; refine wpQuiet_load (by kernel_rfl) 40 _ rfl ⟨wr.heap.size, 2, none⟩ rfl _ hqx ?_; clear hqx hqa; (try simp only [Act.put, List.setIfInBounds_toArray, List.set_cons_zero, List.set_cons_succ])) | (have hqx := hqb; refine wpQuiet_load (by kernel_rfl) 40 _ rfl ⟨wr.heap.size, 6, none⟩ rfl _ hqx ?_; clear hqx hqb; (try simp only [Act.put, List.setIfInBounds_toArray, List.set_cons_zero, List.set_cons_succ])) | go_big_quiet_step (first | (go_at_call 30; first | (with_reducible refine (hHa _).mono ?_; rintro e w9 ⟨rfl, rfl⟩; exact ⟨rfl, ⟨_, KS.property _⟩, rfl⟩) | (with_reducible refine (hHb _).mono ?_; rintro e w9 ⟨rfl, rfl⟩; exact ⟨rfl, ⟨_, KS.property _⟩, rfl⟩)) | (go_at_call 32; first | (with_reducible refine (hfa _).mono ?_; rintro e w9 ⟨rfl, k9⟩; exact ⟨rfl, ⟨_, (KS.property _).trans k9⟩, rfl⟩) | (with_reducible refine (hfb _).mono ?_; rintro e w9 ⟨rfl, k9⟩; exact ⟨rfl, ⟨_, (KS.property _).trans k9⟩, rfl⟩)))))
              refine wpQuiet_nil ?_
              rintro _ ⟨U, rfl⟩
              have ku := U.property
              (try clear hqa)
              (try clear hqb)
              (try clear hfa)
              (try clear hfb)
              (try clear hHa)
              (try clear hHb)
              clear hNE
              generalize U.val = w8 at *
              refine hKJ.out _ _ ?_
              clear hKJ K3
              go_wp2_with fail
              go_ret
              exact ⟨congrArg (fun x => Ending.returned (.bool x)) (show false = NR from HS.out), (hB.trans k6).trans ku⟩
            · (repeat (first | go_big_quiet_skip | (have hqx := hqa; refine wpQuiet_load (by kernel_rfl) 40 _ rfl ⟨wr.heap.size, 2, none⟩ rfl _ hqx ?_; clear hqx hqa; (try simp only [Act.put, List.setIfInBounds_toArray, List.set_cons_zero, List.set_cons_succ])) | (have hqx := hqb; refine wpQuiet_load (by kernel_rfl) 40 _ rfl ⟨wr.heap.size, 6, none⟩ rfl _ hqx ?_; clear hqx hqb; (try simp only [Act.put, List.setIfInBounds_toArray, List.set_cons_zero, List.set_cons_succ])) | go_big_quiet_step (first | (go_at_call 30; first | (with_reducible refine (hHa _).mono ?_; rintro e w9 ⟨rfl, rfl⟩; exact ⟨rfl, ⟨_, KS.property _⟩, rfl⟩) | (with_reducible refine (hHb _).mono ?_; rintro e w9 ⟨rfl, rfl⟩; exact ⟨rfl, ⟨_, KS.property _⟩, rfl⟩)) | (go_at_call 32; first | (with_reducible refine (hfa _).mono ?_; rintro e w9 ⟨rfl, k9⟩; exact ⟨rfl, ⟨_, (KS.property _).trans k9⟩, rfl⟩) | (with_reducible refine (hfb _).mono ?_; rintro e w9 ⟨rfl, k9⟩; exact ⟨rfl, ⟨_, (KS.property _).trans k9⟩, rfl⟩)))))
              refine wpQuiet_nil ?_
              rintro _ ⟨U, rfl⟩
              have ku := U.property
              (try clear hqa)
              (try clear hqb)
              (try clear hfa)
              (try clear hfb)
              (try clear hHa)
              (try clear hHb)
              clear hNE
              generalize U.val = w8 at *
              refine hKJ.out _ _ ?_
              clear hKJ K3
              go_wp2_with fail
              refine hKI.out _ _ ?_
              clear hKI K2
              obtain ⟨eT, eT', eE, eE'⟩ := HeT.out
              have y10 := (b6.keep (by show 0 < 12; decide) ku (fun e => e)).c 10 _ rfl
              have y11 := (b6.keep (by show 0 < 12; decide) ku (fun e => e)).c 11 _ rfl
              have k8 := k6.trans ku
              have hpt := hPt w8 k8
              have hpe := fun W (kW : Keeps (fun _ => False) w8 W) => hPe W (k8.trans kW)
              have x11 := fun W (kW : Keeps (fun _ => False) w8 W) => (((b6.keep (by show 0 < 12; decide) ku (fun e => e)).keep (by show 0 < 12; decide) kW (fun e => e))).c 11 _ rfl
              clear hPt hPe b6 k5 k6 ku
              cases ut
              · cases ue
                · cases zt
                  · go_wp2_with (first | (go_at_call 30; first | (with_reducible refine (hHt _).mono ?_; rintro e wn ⟨rfl, hwn⟩; rw [hwn]; clear hwn wn) | (with_reducible refine (hHe _).mono ?_; rintro e wn ⟨rfl, hwn⟩; rw [hwn]; clear hwn wn)) | (go_at_call 20; first | (with_reducible refine hpt.mono ?_; clear hpt; rintro e wa ⟨rfl, kA⟩; clear y11; have y11 := x11 wa kA; have hpe2 := hpe wa kA) | (with_reducible refine hpe2.mono ?_; clear hpe2; rintro e wb ⟨rfl, kB⟩)))
                    go_ret
                    exact ⟨congrArg (fun x => Ending.returned (.bool x)) (show false = NR from HS.out), hB.trans k8⟩
                  · cases ze
                    · go_wp2_with (first | (go_at_call 30; first | (with_reducible refine (hHt _).mono ?_; rintro e wn ⟨rfl, hwn⟩; rw [hwn]; clear hwn wn) | (with_reducible refine (hHe _).mono ?_; rintro e wn ⟨rfl, hwn⟩; rw [hwn]; clear hwn wn)) | (go_at_call 20; first | (with_reducible refine hpt.mono ?_; clear hpt; rintro e wa ⟨rfl, kA⟩; clear y11; have y11 := x11 wa kA; have hpe2 := hpe wa kA) | (with_reducible refine hpe2.mono ?_; clear hpe2; rintro e wb ⟨rfl, kB⟩)))
                      go_ret
                      exact ⟨congrArg (fun x => Ending.returned (.bool x)) (show false = NR from HS.out), hB.trans k8⟩
                    · cases r1
                      · cases r2
                        · have HT : Hid ((!wrSL (l.drop (i + 1))) = NR) := HS.out
                          go_wp2_with (first | (go_at_call 30; first | (with_reducible refine (hHt _).mono ?_; rintro e wn ⟨rfl, hwn⟩; rw [hwn]; clear hwn wn) | (with_reducible refine (hHe _).mono ?_; rintro e wn ⟨rfl, hwn⟩; rw [hwn]; clear hwn wn)) | (go_at_call 20; first | (with_reducible refine hpt.mono ?_; clear hpt; rintro e wa ⟨rfl, kA⟩; clear y11; have y11 := x11 wa kA; have hpe2 := hpe wa kA) | (with_reducible refine hpe2.mono ?_; clear hpe2; rintro e wb ⟨rfl, kB⟩)))
                          refine hKH.out _ _ ?_
                          clear hKH
                          have kw := ((hB.trans k8).trans kA).trans kB
                          clear hpe x11 y10 y11 HS
                          go_wp2_with fail
                          go_roundw
                          case rel => exact ⟨i + 1, by go_num, by omega, kw, HT⟩
                          case measure => simp [intOf]; omega
                        · exact absurd (HZ2.out rfl) (by decide)
                      · exact absurd (HZ1.out rfl) (by decide)
                · exact absurd (HUE.out rfl) (by decide)
              · cases ue
                · cases ze
                  · go_wp2_with (first | (go_at_call 30; first | (with_reducible refine (hHt _).mono ?_; rintro e wn ⟨rfl, hwn⟩; rw [hwn]; clear hwn wn) | (with_reducible refine (hHe _).mono ?_; rintro e wn ⟨rfl, hwn⟩; rw [hwn]; clear hwn wn)) | (go_at_call 20; first | (with_reducible refine hpt.mono ?_; clear hpt; rintro e wa ⟨rfl, kA⟩; clear y11; have y11 := x11 wa kA; have hpe2 := hpe wa kA) | (with_reducible refine hpe2.mono ?_; clear hpe2; rintro e wb ⟨rfl, kB⟩)))
                    go_ret
                    exact ⟨congrArg (fun x => Ending.returned (.bool x)) (show false = NR from HS.out), hB.trans k8⟩
                  · cases r2
                    · cases r1
                      · have HT : Hid ((!wrSL (l.drop (i + 1))) = NR) := HS.out
                        go_wp2_with (first | (go_at_call 30; first | (with_reducible refine (hHt _).mono ?_; rintro e wn ⟨rfl, hwn⟩; rw [hwn]; clear hwn wn) | (with_reducible refine (hHe _).mono ?_; rintro e wn ⟨rfl, hwn⟩; rw [hwn]; clear hwn wn)) | (go_at_call 20; first | (with_reducible refine hpt.mono ?_; clear hpt; rintro e wa ⟨rfl, kA⟩; clear y11; have y11 := x11 wa kA; have hpe2 := hpe wa kA) | (with_reducible refine hpe2.mono ?_; clear hpe2; rintro e wb ⟨rfl, kB⟩)))
                        refine hKH.out _ _ ?_
                        clear hKH
                        have kw := ((hB.trans k8).trans kA).trans kB
                        clear hpe x11 y10 y11 HS
                        go_wp2_with fail
                        go_roundw
                        case rel => exact ⟨i + 1, by go_num, by omega, kw, HT⟩
                        case measure => simp [intOf]; omega
                      · go_wp2_with (first | (go_at_call 30; first | (with_reducible refine (hHt _).mono ?_; rintro e wn ⟨rfl, hwn⟩; rw [hwn]; clear hwn wn) | (with_reducible refine (hHe _).mono ?_; rintro e wn ⟨rfl, hwn⟩; rw [hwn]; clear hwn wn)) | (go_at_call 20; first | (with_reducible refine hpt.mono ?_; clear hpt; rintro e wa ⟨rfl, kA⟩; clear y11; have y11 := x11 wa kA; have hpe2 := hpe wa kA) | (with_reducible refine hpe2.mono ?_; clear hpe2; rintro e wb ⟨rfl, kB⟩)))
                        go_ret
                        exact ⟨congrArg (fun x => Ending.returned (.bool x)) (show false = NR from HS.out), (hB.trans k8).trans kA⟩
                    · exact absurd (HZ2.out rfl) (by decide)
                · cases r1
                  · cases r2
                    · have HT : Hid ((!wrSL (l.drop (i + 1))) = NR) := HS.out
                      go_wp2_with (first | (go_at_call 30; first | (with_reducible refine (hHt _).mono ?_; rintro e wn ⟨rfl, hwn⟩; rw [hwn]; clear hwn wn) | (with_reducible refine (hHe _).mono ?_; rintro e wn ⟨rfl, hwn⟩; rw [hwn]; clear hwn wn)) | (go_at_call 20; first | (with_reducible refine hpt.mono ?_; clear hpt; rintro e wa ⟨rfl, kA⟩; clear y11; have y11 := x11 wa kA; have hpe2 := hpe wa kA) | (with_reducible refine hpe2.mono ?_; clear hpe2; rintro e wb ⟨rfl, kB⟩)))
                      refine hKH.out _ _ ?_
                      clear hKH
                      have kw := ((hB.trans k8).trans kA).trans kB
                      clear hpe x11 y10 y11 HS
                      go_wp2_with fail
                      go_roundw
                      case rel => exact ⟨i + 1, by go_num, by omega, kw, HT⟩
                      case measure => simp [intOf]; omega
                    · go_wp2_with (first | (go_at_call 30; first | (with_reducible refine (hHt _).mono ?_; rintro e wn ⟨rfl, hwn⟩; rw [hwn]; clear hwn wn) | (with_reducible refine (hHe _).mono ?_; rintro e wn ⟨rfl, hwn⟩; rw [hwn]; clear hwn wn)) | (go_at_call 20; first | (with_reducible refine hpt.mono ?_; clear hpt; rintro e wa ⟨rfl, kA⟩; clear y11; have y11 := x11 wa kA; have hpe2 := hpe wa kA) | (with_reducible refine hpe2.mono ?_; clear hpe2; rintro e wb ⟨rfl, kB⟩)))
                      go_ret
                      exact ⟨congrArg (fun x => Ending.returned (.bool x)) (show false = NR from HS.out), ((hB.trans k8).trans kA).trans kB⟩
                  · go_wp2_with (first | (go_at_call 30; first | (with_reducible refine (hHt _).mono ?_; rintro e wn ⟨rfl, hwn⟩; rw [hwn]; clear hwn wn) | (with_reducible refine (hHe _).mono ?_; rintro e wn ⟨rfl, hwn⟩; rw [hwn]; clear hwn wn)) | (go_at_call 20; first | (with_reducible refine hpt.mono ?_; clear hpt; rintro e wa ⟨rfl, kA⟩; clear y11; have y11 := x11 wa kA; have hpe2 := hpe wa kA) | (with_reducible refine hpe2.mono ?_; clear hpe2; rintro e wb ⟨rfl, kB⟩)))
                    go_ret
                    exact ⟨congrArg (fun x => Ending.returned (.bool x)) (show false = NR from HS.out), (hB.trans k8).trans kA⟩
        clear hK2 hFa hFb hHa hHb hHt hHe hPt hPe
        refine wp_seq_k (fun K3 hK3 => ?_)
        have hKJ : Hid _ := hK3
        clear hK3
        refine wp_region_ks (by kernel_rfl) (by kernel_rfl) ?_
        cases c1
        · have HS2 : Hid (false = NR) := by have := HS.out; rw [HC.out] at this; exact this
          (repeat (first | go_big_quiet_skip | go_big_quiet_step (first | (go_at_call 30; refine (hHw _).mono ?_; rintro e w9 ⟨rfl, rfl⟩; exact ⟨rfl, ⟨_, KS.property _⟩, rfl⟩) | (go_at_call 31; refine (hNm _).mono ?_; rintro e w9 ⟨rfl, rfl⟩; exact ⟨rfl, ⟨_, KS.property _⟩, rfl⟩))))
          refine wpQuiet_nil ?_
          rintro _ ⟨U, rfl⟩
          have ku := U.property
          clear Y0 Y1 hNE
          generalize U.val = w6 at *
          refine hKJ.out _ _ ?_
          clear hKJ K3
          go_wp2_with fail
          go_ret
          exact ⟨congrArg (fun x => Ending.returned (.bool x)) (show false = NR from HS2.out), (hB.trans k5).trans ku⟩
        · cases c2
          · have HS2 : Hid (false = NR) := by have := HS.out; rw [HC.out] at this; exact this
            (repeat (first | go_big_quiet_skip | go_big_quiet_step (first | (go_at_call 30; refine (hHw _).mono ?_; rintro e w9 ⟨rfl, rfl⟩; exact ⟨rfl, ⟨_, KS.property _⟩, rfl⟩) | (go_at_call 31; refine (hNm _).mono ?_; rintro e w9 ⟨rfl, rfl⟩; exact ⟨rfl, ⟨_, KS.property _⟩, rfl⟩))))
            refine wpQuiet_nil ?_
            rintro _ ⟨U, rfl⟩
            have ku := U.property
            clear Y0 Y1 hNE
            generalize U.val = w6 at *
            refine hKJ.out _ _ ?_
            clear hKJ K3
            go_wp2_with fail
            go_ret
            exact ⟨congrArg (fun x => Ending.returned (.bool x)) (show false = NR from HS2.out), (hB.trans k5).trans ku⟩
          · cases uw
            · cases nm
              · cases em
                · have HS2 : Hid (false = NR) := by have := HS.out; rw [HC.out] at this; exact this
                  (repeat (first | go_big_quiet_skip | go_big_quiet_step (first | (go_at_call 30; refine (hHw _).mono ?_; rintro e w9 ⟨rfl, rfl⟩; exact ⟨rfl, ⟨_, KS.property _⟩, rfl⟩) | (go_at_call 31; refine (hNm _).mono ?_; rintro e w9 ⟨rfl, rfl⟩; exact ⟨rfl, ⟨_, KS.property _⟩, rfl⟩))))
                  refine wpQuiet_nil ?_
                  rintro _ ⟨U, rfl⟩
                  have ku := U.property
                  clear Y0 Y1 hNE
                  generalize U.val = w6 at *
                  refine hKJ.out _ _ ?_
                  clear hKJ K3
                  go_wp2_with fail
                  go_ret
                  exact ⟨congrArg (fun x => Ending.returned (.bool x)) (show false = NR from HS2.out), (hB.trans k5).trans ku⟩
                · (repeat (first | go_big_quiet_skip | go_big_quiet_step (first | (go_at_call 30; refine (hHw _).mono ?_; rintro e w9 ⟨rfl, rfl⟩; exact ⟨rfl, ⟨_, KS.property _⟩, rfl⟩) | (go_at_call 31; refine (hNm _).mono ?_; rintro e w9 ⟨rfl, rfl⟩; exact ⟨rfl, ⟨_, KS.property _⟩, rfl⟩))))
                  refine wpQuiet_nil ?_
                  rintro _ ⟨U, rfl⟩
                  have ku := U.property
                  clear Y0 Y1 hNE
                  generalize U.val = w6 at *
                  refine hKJ.out _ _ ?_
                  clear hKJ K3
                  go_wp2_with fail
                  exact rest _ _ _ _ _ _ _ _ _ _ _ _ _ _ _ _ _ _ _ _ _ _ _ _ _ _ _ _ _ _ _ _ _ _ _ _ _ _ _ _ _ _ _ _ _ _ _ _ _ _ _ _ _ _ _ _ _ _ _ _ _ _ _ _ _ _ _ _ _ _ _ _ _ _ _ _ _ _ _ _ _ _ _ _ _ _ w6 ku (HC.out.trans rfl)
              · have HS2 : Hid (false = NR) := by have := HS.out; rw [HC.out] at this; exact this
                (repeat (first | go_big_quiet_skip | go_big_quiet_step (first | (go_at_call 30; refine (hHw _).mono ?_; rintro e w9 ⟨rfl, rfl⟩; exact ⟨rfl, ⟨_, KS.property _⟩, rfl⟩) | (go_at_call 31; refine (hNm _).mono ?_; rintro e w9 ⟨rfl, rfl⟩; exact ⟨rfl, ⟨_, KS.property _⟩, rfl⟩))))
                refine wpQuiet_nil ?_
                rintro _ ⟨U, rfl⟩
                have ku := U.property
                clear Y0 Y1 hNE
                generalize U.val = w6 at *
                refine hKJ.out _ _ ?_
                clear hKJ K3
                go_wp2_with fail
                go_ret
                exact ⟨congrArg (fun x => Ending.returned (.bool x)) (show false = NR from HS2.out), (hB.trans k5).trans ku⟩
            · cases nm
              · have HS2 : Hid (false = NR) := by have := HS.out; rw [HC.out] at this; exact this
                (repeat (first | go_big_quiet_skip | go_big_quiet_step (first | (go_at_call 30; refine (hHw _).mono ?_; rintro e w9 ⟨rfl, rfl⟩; exact ⟨rfl, ⟨_, KS.property _⟩, rfl⟩) | (go_at_call 31; refine (hNm _).mono ?_; rintro e w9 ⟨rfl, rfl⟩; exact ⟨rfl, ⟨_, KS.property _⟩, rfl⟩))))
                refine wpQuiet_nil ?_
                rintro _ ⟨U, rfl⟩
                have ku := U.property
                clear Y0 Y1 hNE
                generalize U.val = w6 at *
                refine hKJ.out _ _ ?_
                clear hKJ K3
                go_wp2_with fail
                go_ret
                exact ⟨congrArg (fun x => Ending.returned (.bool x)) (show false = NR from HS2.out), (hB.trans k5).trans ku⟩
              · (repeat (first | go_big_quiet_skip | go_big_quiet_step (first | (go_at_call 30; refine (hHw _).mono ?_; rintro e w9 ⟨rfl, rfl⟩; exact ⟨rfl, ⟨_, KS.property _⟩, rfl⟩) | (go_at_call 31; refine (hNm _).mono ?_; rintro e w9 ⟨rfl, rfl⟩; exact ⟨rfl, ⟨_, KS.property _⟩, rfl⟩))))
                refine wpQuiet_nil ?_
                rintro _ ⟨U, rfl⟩
                have ku := U.property
                clear Y0 Y1 hNE
                generalize U.val = w6 at *
                refine hKJ.out _ _ ?_
                clear hKJ K3
                go_wp2_with fail
                exact rest _ _ _ _ _ _ _ _ _ _ _ _ _ _ _ _ _ _ _ _ _ _ _ _ _ _ _ _ _ _ _ _ _ _ _ _ _ _ _ _ _ _ _ _ _ _ _ _ _ _ _ _ _ _ _ _ _ _ _ _ _ _ _ _ _ _ _ _ _ _ _ _ _ _ _ _ _ _ _ _ _ _ _ _ _ _ w6 ku (HC.out.trans rfl)
      · obtain rfl : i = N := by omega
        have d1 : decide ((i : Int) < (i : Int)) = false := decide_eq_false (by omega)
        have d2 : decide (i < i) = false := decide_eq_false (by omega)
        have HT : Hid (true = NR) := by show _ = _; rw [← HI.out, HN.out, List.drop_length]; rfl
        go_wp2_with fail
        go_ret
        exact ⟨congrArg (fun x => Ending.returned (.bool x)) HT.out, hB⟩
theorem all_all : ∀ (n : Nat) (l : List St), bgSL l < n → n ≤ 1048576 → AllS l
  | 0, l, h, _ => absurd h (by omega)
  | n + 1, l, h, hn => all_step (fun l ht => all_all n l ht (by omega)) hn l h
end Go.Proofs.YtehblpbefkopbaaDoor
