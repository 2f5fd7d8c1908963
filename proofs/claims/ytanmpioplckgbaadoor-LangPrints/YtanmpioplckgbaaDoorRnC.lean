import Derived.Test.YtanmpioplckgbaaDoorRnB
namespace Go.Proofs.YtanmpioplckgbaaDoor
open Go.RowKit Go.Deep Go.ChangeShapes Go.WideShapes Go.ChangeAt
theorem kds_get {c : Nat} (hc : 1 ≤ c ∧ c ≤ 10) : (kdS (c : Int)).size = (slo c).length ∧ ∀ k (h : k < (kdS (c : Int)).size) x, (slo c)[k]? = some x → (kdS (c : Int))[k].toNat = (sgn x).toNat := by
  rcases (by omega : c = 1 ∨ c = 2 ∨ c = 3 ∨ c = 4 ∨ c = 5 ∨ c = 6 ∨ c = 7 ∨ c = 8 ∨ c = 9 ∨ c = 10) with rfl | rfl | rfl | rfl | rfl | rfl | rfl | rfl | rfl | rfl <;>
  (refine ⟨by decide, fun k h x hx => ?_⟩
   match k, h, hx with
   | 0, h, hx => first | (simp [slo] at hx; subst hx; rfl) | (exact absurd h (by decide))
   | 1, h, hx => first | (simp [slo] at hx; subst hx; rfl) | (exact absurd h (by decide))
   | 2, h, hx => first | (simp [slo] at hx; subst hx; rfl) | (exact absurd h (by decide))
   | 3, h, hx => first | (simp [slo] at hx; subst hx; rfl) | (exact absurd h (by decide))
   | k + 4, h, hx => simp [slo] at hx)
/-- An instruction's text, up to its k-th operand. -/
def acc (nm : List UInt8) (ws : List (List UInt8)) (k : Nat) : List UInt8 := nm ++ Lib.joinTail [32] (ws.take k)
theorem acc_succ {nm : List UInt8} {ws : List (List UInt8)} {k : Nat} {y : List UInt8} (h : ws[k]? = some y) : acc nm ws (k + 1) = acc nm ws k ++ ([32] ++ y) := by
  unfold acc
  rw [Lib.joinTail_take_succ _ _ _ _ h]
  simp
theorem acc_end (nm : List UInt8) (ws : List (List UInt8)) : acc nm ws ws.length = Lib.join (nm :: ws) [32] := by
  unfold acc
  rw [List.take_length, Lib.join_cons]
set_option maxHeartbeats 2000000 in
set_option maxRecDepth 100000 in
theorem rinstr_T {w : World} {a : Option Addr} {cap c : Nat} {l : List Ins} (h64 : l.length ≤ 64) (hl : ISL w a l) (q : Ins) (hc : q.code = (c : Int)) (h1 : 1 ≤ c ∧ c ≤ 10) (hq : q.cab (l.length : Int) c = true) (hn : n64 q) (hlb : kdL q.code = true → lbT l q.to.toNat = 108 :: Lib.itoa (cnt l q.to.toNat : Int)) :
    Calls Tryd.prog 18 #[.slice a l.length cap, .agg q.cells.toArray] w fun e w' => ∃ T : ByteArray, e = .returned (.string T) ∧ Hid (T = ⟨(lineT q (lbT l)).toArray⟩) ∧ T.size ≤ 100 ∧ Keeps (fun _ => False) w w' := by
  have hok : ∀ s ∈ slo c, q.oks (l.length : Int) s = true := by
    unfold Ins.cab at hq
    simp only [Bool.and_eq_true] at hq
    exact List.all_eq_true.1 hq.1.2
  have hop : c = 6 → isOp q.op = true := fun e => by
    unfold Ins.cab at hq
    simp only [Bool.and_eq_true] at hq
    have := hq.1.1
    rwa [if_pos e] at this
  have hlb6 : 6 ∈ slo c → lbT l q.to.toNat = 108 :: Lib.itoa (cnt l q.to.toNat : Int) := fun h6 => by
    refine hlb ?_
    have : 6 ∈ (slo c).filter (fun s => s = 6) := by simpa using h6
    rw [(slo_in h1).2] at this
    rw [hc]
    by_cases e : kdL (c : Int) = true
    · exact e
    · rw [if_neg e] at this; cases this
  have hnmT : nmT q = (if c = 6 then opT q.op.toNat else shT c).data.toList := by
    unfold nmT
    rw [show q.code.toNat = c by omega]
    by_cases e : c = 6
    · rw [if_pos e, if_pos (by omega)]
    · rw [if_neg e, if_neg (by omega)]
  have hnm4 : (if c = 6 then opT q.op.toNat else shT c).size ≤ 4 := by
    by_cases h6 : c = 6
    · rw [if_pos h6]
      obtain ⟨_, _, h3, h4⟩ := gw_op (hop h6)
      generalize q.op.toNat = k at h3 h4
      rcases (by omega : k = 1 ∨ k = 2 ∨ k = 3 ∨ k = 4 ∨ k = 5 ∨ k = 6 ∨ k = 7 ∨ k = 8 ∨ k = 9 ∨ k = 10 ∨ k = 11 ∨ k = 12) with rfl | rfl | rfl | rfl | rfl | rfl | rfl | rfl | rfl | rfl | rfl | rfl <;> decide
    · rw [if_neg h6]
      rcases (by omega : c = 1 ∨ c = 2 ∨ c = 3 ∨ c = 4 ∨ c = 5 ∨ c = 6 ∨ c = 7 ∨ c = 8 ∨ c = 9 ∨ c = 10) with rfl | rfl | rfl | rfl | rfl | rfl | rfl | rfl | rfl | rfl <;> decide
  have hW := wordOf_T c h1 q.op hop
  have hK := fun W => kindsOf_any W (c : Int) (by omega)
  obtain ⟨hks, hkb⟩ := kds_get h1
  have hln : lineT q (lbT l) = acc (nmT q) ((slo c).map (tldT q (lbT l))) (slo c).length := by
    have := acc_end (nmT q) ((slo c).map (tldT q (lbT l)))
    rw [List.length_map] at this
    rw [this]
    unfold lineT wrdsT
    rw [show q.code.toNat = c by omega]
  have sl := slo_le c
  obtain ⟨n1, n2, n3⟩ := hn
  have HF : Hid (∀ W (n : Int), In64 n → Calls Tryd.prog 31 #[.int .i64 n] W fun e w' => ∃ T : ByteArray, e = .returned (.string T) ∧ Hid (T = ⟨(Lib.itoa n).toArray⟩) ∧ T.size ≤ 20 ∧ Keeps (fun _ => False) W w') := fun W n h => rfmt n h W
  have HTd : Hid (∀ W (r : Bool) (n : Int), In64 n → Calls Tryd.prog 34 #[.agg #[.bool r, .int .i64 n]] W fun e w' => ∃ T : ByteArray, e = .returned (.string T) ∧ Hid (T = ⟨(srcT r n).toArray⟩) ∧ T.size ≤ 21 ∧ Keeps (fun _ => False) W w') := fun W r n h => rtold_T r n h
  have HLb : Hid (∀ W, Keeps (fun _ => False) w W → ∀ i : Nat, i ≤ 64 → Calls Tryd.prog 17 #[.slice a l.length cap, .int .i64 (i : Int)] W fun e w' => ∃ T : ByteArray, e = .returned (.string T) ∧ Hid (T = ⟨(108 :: Lib.itoa (cnt l i : Int)).toArray⟩) ∧ T.size ≤ 21 ∧ Keeps (fun _ => False) W w') := fun W k i hi => rlabel_T h64 (hl.keep k) i hi
  rw [hln]
  clear hlb hop hln hl hq
  obtain ⟨cd, dst, oR, oN, xR, xN, yR, yN, op, rel, to⟩ := q
  have hc' : cd = (c : Int) := hc
  subst hc'
  clear hc
  show Calls Tryd.prog 18 #[.slice a l.length cap, .agg #[.int .i64 (c : Int), .int .i64 dst, .bool oR, .int .i64 oN, .bool xR, .int .i64 xN, .bool yR, .int .i64 yN, .int .i64 op, .int .i64 rel, .int .i64 to]] w _
  obtain ⟨W1, hW1⟩ : ∃ W1, W1 = w.alloc (.cells #[.int .i64 (c : Int), .int .i64 dst, .bool oR, .int .i64 oN, .bool xR, .int .i64 xN, .bool yR, .int .i64 yN, .int .i64 op, .int .i64 rel, .int .i64 to] 42) := ⟨_, rfl⟩
  have k1 : Keeps (fun _ => False) w W1 := by rw [hW1]; exact (Keeps.refl _ w).alloc _
  have hI1 : CL W1 w.heap.size [.int .i64 (c : Int), .int .i64 dst, .bool oR, .int .i64 oN, .bool xR, .int .i64 xN, .bool yR, .int .i64 yN, .int .i64 op, .int .i64 rel, .int .i64 to] := by rw [hW1]; exact CL.made w [.int .i64 (c : Int), .int .i64 dst, .bool oR, .int .i64 oN, .bool xR, .int .i64 xN, .bool yR, .int .i64 yN, .int .i64 op, .int .i64 rel, .int .i64 to] _
  have e0 := hI1.c 0 _ rfl
  have e8 := hI1.c 8 _ rfl
  simp only at hW hnmT hnm4
  generalize hWO : (if c = 6 then opT op.toNat else shT c) = WO at *
  clear hWO
  generalize hz : kdS (c : Int) = z at *
  clear hz
  generalize hN : l.length = N at *
  have HNM : Hid (nmT ⟨(c : Int), dst, oR, oN, xR, xN, yR, yN, op, rel, to⟩ = WO.data.toList) := hnmT
  clear hnmT
  generalize nmT ⟨(c : Int), dst, oR, oN, xR, xN, yR, yN, op, rel, to⟩ = nm at *
  have HKs : Hid (z.size = (slo c).length) := hks
  have hz4 : z.size ≤ 4 := by rw [hks]; exact sl.1
  clear hks
  have H1 : Hid (1 ≤ c ∧ c ≤ 10) := h1
  go_enter Tryd.func18, Tryd.ntmps18
  go_wp2_with (first | (rw [← hW1]; clear hW1) | (go_at_call 32; refine (hW _).mono ?_; clear hW; rintro e w2 ⟨rfl, rfl⟩) | (go_at_call 33; refine (hK _).mono ?_; clear hK; rintro e w2 ⟨rfl, rfl⟩))
  go_loopw [5, 7] (fun sv iv Wr => ∃ (k : Nat) (T : ByteArray), sv = .string T ∧ iv = .int .i64 (k : Int) ∧ k ≤ z.size ∧ Hid (T = ⟨(acc nm ((slo c).map (tldT ⟨(c : Int), dst, oR, oN, xR, xN, yR, yN, op, rel, to⟩ (lbT l))) k).toArray⟩) ∧ T.size ≤ 4 + 24 * k ∧ Keeps (fun _ => False) w2 Wr) (fun _ iv _ => z.size - (intOf iv).toNat)
  case atStart => exact ⟨0, WO, rfl, rfl, Nat.zero_le _, (by show _ = _; unfold acc; rw [List.take_zero, HNM.out]; show WO = ⟨(WO.data.toList ++ []).toArray⟩; rw [List.append_nil]), by omega, Keeps.refl _ _⟩
  case round =>
    obtain ⟨k, T, rfl, rfl, hk, hT, hTs, kr0⟩ := hrel
    have kr := k1.trans kr0
    by_cases hlt : k < z.size
    · have hltI : decide ((k : Int) < (z.size : Int)) = true := by simp; omega
      have hltJ : (k : Int) < (z.size : Int) := by omega
      have hk0 : (0 : Int) ≤ (k : Int) := by omega
      obtain ⟨x, hx⟩ : ∃ x, (slo c)[k]? = some x := ⟨_, List.getElem?_eq_getElem (by rw [← HKs.out]; exact hlt)⟩
      have hby := hkb k hlt x hx
      have hx6 := sl.2 x (List.mem_of_getElem? hx)
      have hox := hok x (List.mem_of_getElem? hx)
      have HA : Hid (_ = _) := acc_succ (nm := nm) (ws := (slo c).map (tldT ⟨(c : Int), dst, oR, oN, xR, xN, yR, yN, op, rel, to⟩ (lbT l))) (k := k) (y := tldT ⟨(c : Int), dst, oR, oN, xR, xN, yR, yN, op, rel, to⟩ (lbT l) x) (by rw [List.getElem?_map, hx]; rfl)
      have h6x : x = 6 → lbT l to.toNat = 108 :: Lib.itoa (cnt l to.toNat : Int) := fun e => hlb6 (by rw [← e]; exact List.mem_of_getElem? hx)
      generalize hA0 : acc nm ((slo c).map (tldT ⟨(c : Int), dst, oR, oN, xR, xN, yR, yN, op, rel, to⟩ (lbT l))) k = A0 at *
      clear hA0 hkb hx hok hlb6
      have hI := hI1.keep (by show 0 < 11; decide) kr0 (fun e => e)
      rcases (by omega : x = 1 ∨ x = 2 ∨ x = 3 ∨ x = 4 ∨ x = 5 ∨ x = 6) with rfl | rfl | rfl | rfl | rfl | rfl
      · have hb1 : z[k].toNat = 100 := hby
        have hbI : (z[k].toNat : Int) = 100 := by omega
        clear hby
        have f0 := hI.c 1 _ rfl
        have hd : In64 dst := by have : rg dst = true := hox; unfold rg at this; simp at this; exact ⟨by omega, by omega⟩
        clear hox h6x hI
        go_wp2_with (go_at_call 31; refine (HF.out _ _ hd).mono ?_; rintro e w6 ⟨S, rfl, hS, hSs, k6⟩)
        go_roundw
        case rel => exact ⟨k + 1, _, rfl, by go_num, by omega, (by show _ = _; rw [HA.out, hT.out, hS.out]; apply ba_ext; simp [ByteArray.data_append, tldT, srcT]), (by simp only [ByteArray.size_append]; show T.size + 1 + 1 + S.size ≤ _; omega), kr0.trans k6⟩
        case measure => simp [intOf]; omega
      · have hb2 : z[k].toNat = 111 := hby
        have hbI : (z[k].toNat : Int) = 111 := by omega
        clear hby
        have f0 := hI.c 2 _ rfl
        have f1 := hI.c 3 _ rfl
        clear hox h6x hI
        go_wp2_with (go_at_call 34; refine (HTd.out _ _ _ n1).mono ?_; rintro e w6 ⟨S, rfl, hS, hSs, k6⟩)
        go_roundw
        case rel => exact ⟨k + 1, _, rfl, by go_num, by omega, (by show _ = _; rw [HA.out, hT.out, hS.out]; apply ba_ext; simp [ByteArray.data_append, tldT]), (by simp only [ByteArray.size_append]; show T.size + 1 + 1 + S.size ≤ _; omega), kr0.trans k6⟩
        case measure => simp [intOf]; omega
      · have hb3 : z[k].toNat = 120 := hby
        have hbI : (z[k].toNat : Int) = 120 := by omega
        clear hby
        have f0 := hI.c 4 _ rfl
        have f1 := hI.c 5 _ rfl
        clear hox h6x hI
        go_wp2_with (go_at_call 34; refine (HTd.out _ _ _ n2).mono ?_; rintro e w6 ⟨S, rfl, hS, hSs, k6⟩)
        go_roundw
        case rel => exact ⟨k + 1, _, rfl, by go_num, by omega, (by show _ = _; rw [HA.out, hT.out, hS.out]; apply ba_ext; simp [ByteArray.data_append, tldT]), (by simp only [ByteArray.size_append]; show T.size + 1 + S.size ≤ _; omega), kr0.trans k6⟩
        case measure => simp [intOf]; omega
      · have hb4 : z[k].toNat = 121 := hby
        have hbI : (z[k].toNat : Int) = 121 := by omega
        clear hby
        have f0 := hI.c 6 _ rfl
        have f1 := hI.c 7 _ rfl
        clear hox h6x hI
        go_wp2_with (go_at_call 34; refine (HTd.out _ _ _ n3).mono ?_; rintro e w6 ⟨S, rfl, hS, hSs, k6⟩)
        go_roundw
        case rel => exact ⟨k + 1, _, rfl, by go_num, by omega, (by show _ = _; rw [HA.out, hT.out, hS.out]; apply ba_ext; simp [ByteArray.data_append, tldT]), (by simp only [ByteArray.size_append]; show T.size + 1 + S.size ≤ _; omega), kr0.trans k6⟩
        case measure => simp [intOf]; omega
      · have hb5 : z[k].toNat = 114 := hby
        have hbI : (z[k].toNat : Int) = 114 := by omega
        clear hby
        have f0 := hI.c 9 _ rfl
        obtain ⟨i, hi0⟩ : ∃ i : Nat, rel = (i : Int) := ⟨rel.toNat, by have : isRel rel = true := hox; unfold isRel at this; simp at this; omega⟩
        subst hi0
        have hi : 1 ≤ i ∧ i ≤ 6 := by have : isRel (i : Int) = true := hox; unfold isRel at this; simp at this; omega
        have hi6 : (relT i).size ≤ 2 := by rcases (by omega : i = 1 ∨ i = 2 ∨ i = 3 ∨ i = 4 ∨ i = 5 ∨ i = 6) with rfl | rfl | rfl | rfl | rfl | rfl <;> decide
        have Hi : Hid (1 ≤ i ∧ i ≤ 6) := hi
        clear hox h6x hI
        go_wp2_with (go_at_call 35; refine (rrel_in i hi _).mono ?_; rintro e w6 ⟨rfl, rfl⟩)
        go_roundw
        case rel => exact ⟨k + 1, _, rfl, by go_num, by omega, (by show _ = _; rw [HA.out, hT.out]; apply ba_ext; simp [ByteArray.data_append, tldT]), (by simp only [ByteArray.size_append]; show T.size + 1 + (relT i).size ≤ _; omega), kr0⟩
        case measure => simp [intOf]; omega
      · have hb6 : z[k].toNat = 108 := hby
        have hbI : (z[k].toNat : Int) = 108 := by omega
        clear hby
        have f0 := hI.c 10 _ rfl
        obtain ⟨i, hi0⟩ : ∃ i : Nat, to = (i : Int) := ⟨to.toNat, by have : (decide (0 ≤ to) && decide (to ≤ (N : Int))) = true := hox; simp at this; omega⟩
        subst hi0
        have hi : i ≤ 64 := by have : (decide (0 ≤ (i : Int)) && decide ((i : Int) ≤ (N : Int))) = true := hox; simp at this; omega
        have HL6 : Hid (_ = _) := h6x rfl
        clear hox h6x hI
        go_wp2_with (go_at_call 17; refine (HLb.out _ kr i hi).mono ?_; rintro e w6 ⟨S, rfl, hS, hSs, k6⟩)
        go_roundw
        case rel => exact ⟨k + 1, _, rfl, by go_num, by omega, (by show _ = _; rw [HA.out, hT.out, hS.out]; apply ba_ext; have := HL6.out; rw [Int.toNat_natCast] at this; simp [ByteArray.data_append, tldT, this]), (by simp only [ByteArray.size_append]; show T.size + 1 + S.size ≤ _; omega), kr0.trans k6⟩
        case measure => simp [intOf]; omega
    · obtain rfl : k = z.size := by omega
      have hltI : decide ((z.size : Int) < (z.size : Int)) = false := by simp
      have HT2 : Hid (T = ⟨(acc nm ((slo c).map (tldT ⟨(c : Int), dst, oR, oN, xR, xN, yR, yN, op, rel, to⟩ (lbT l))) (slo c).length).toArray⟩) := by show _ = _; rw [← HKs.out]; exact hT.out
      clear hT hkb hok hlb6 hI1
      go_wp2_with fail
      go_ret
      exact ⟨_, rfl, HT2, by omega, kr⟩
end Go.Proofs.YtanmpioplckgbaaDoor
