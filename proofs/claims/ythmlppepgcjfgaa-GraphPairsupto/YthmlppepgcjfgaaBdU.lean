import Derived.Test.YthmlppepgcjfgaaBdT
namespace Go.Proofs.Ythmlppepgcjfgaa
open Go.RowKit Go.Deep
attribute [local go_sem] Oper.semAt_some run_store_nf run_store_f
/-- A nil list has no room. -/
def LpZ (p : Nat → Lp) (n : Nat) : Prop := ∀ i, i < n → ((p i).sa = none → (p i).sc = 0) ∧ ((p i).wa = none → (p i).wc = 0)
/-- What txsOf answers. -/
def ToP (w : World) (ts : List Tv) (e : Ending) (w' : World) : Prop := ∃ v Q, e = .returned v ∧ TO w w' v Q ∧ Q.map (·.1) = ts
set_option maxHeartbeats 2000000 in
set_option maxRecDepth 100000 in
theorem txsOf_any {w : World} {a : Option Addr} {cap : Nat} {ts : List Tv} {p : Nat → Lp} (hT : TXM w a ts p) (hz : LpZ p ts.length) (hl : ts.length ≤ 1048576) (hS : sumT ts ≤ 1048576) : Calls Try.prog 7 #[.slice a ts.length cap] w (ToP w ts) := by
  have HT : Hid (TXM w a ts p) := hT
  have HZ : Hid (LpZ p ts.length) := hz
  have HS : Hid (sumT ts ≤ 1048576) := hS
  clear hT hz hS
  generalize hN : ts.length = N at *
  have HN : Hid (ts.length = N) := hN
  clear hN
  go_enter Try.func7, Try.ntmps7
  go_wp2_with fail
  go_loopw [3, 4] (fun ov iv Wr => ∃ (i : Nat) (Q : List (Tv × Lp)), iv = .int .i64 (i : Int) ∧ i ≤ N ∧ TO w Wr ov Q ∧ Q.map (·.1) = ts.take i) (fun _ iv _ => N - (intOf iv).toNat)
  case atStart => exact ⟨0, [], rfl, Nat.zero_le _, TO.start w, rfl⟩
  case round =>
    obtain ⟨i, Q, rfl, hiN, hto, hq⟩ := hrel
    have HTO0 : Hid (TO w wr u3 Q) := hto
    have HQ : Hid (Q.map (·.1) = ts.take i) := hq
    have HKR : Hid (Keeps (fun _ => False) w wr) := hto.k
    clear hto hq
    by_cases hlt : i < N
    · have j1 : decide ((i : Int) < (N : Int)) = true := decide_eq_true (by omega)
      have j2 : decide (i < N) = true := decide_eq_true hlt
      have j3 : (i : Int) < (N : Int) := by omega
      have j4 : (0 : Int) ≤ (i : Int) := by omega
      have hwi : IntKind.i64.wrap ((i : Int) + 1) = (i : Int) + 1 := by rw [IntKind.wrap_i64]; omega
      have hil : i < ts.length := by rw [HN.out]; exact hlt
      obtain ⟨⟨b, off, rfl, hct⟩, hsw, hwo⟩ := HT.out i hil
      have hR1 := run_txAt (W := wr) (o := off + i * 11) (fun j v e => HKR.out.cell (hct j v e) (fun e => e))
      have hli : (ts.getD i tv0).saws.length ≤ 1048576 ∧ (ts.getD i tv0).wrs.length ≤ 1048576 := by
        have h1 := sumT_next hil
        have h2 := sumT_le ts (i + 1)
        have h3 := HS.out
        omega
      have hzi := HZ.out i hlt
      have HTK : Hid (ts.take (i + 1) = ts.take i ++ [ts.getD i tv0]) := by
        have := take_mp (fun x : Tv => x) tv0 hil
        rw [List.map_id', List.map_id'] at this
        exact this
      have hQl : Q.length = i := by
        have := congrArg List.length HQ.out
        rw [List.length_map, List.length_take] at this
        omega
      clear hct hil
      generalize ts.getD i tv0 = T at *
      generalize p i = q at *
      have HCS : Hid (∀ W, Keeps (fun _ => False) w W → ∃ a6 c6 W6, (Builtin.append_ #[29, 29] 29 #[.slice (some ⟨W.heap.size, 0, none⟩) 0 0, .slice q.sa T.saws.length q.sc]).run Try.prog (W.alloc (.cells #[] 46)) = .ok (.slice a6 T.saws.length c6) W6 ∧ W6.ownsRow W.heap.size 46 9 (.slice a6 T.saws.length c6) T.saws.length (swc T.saws) ∧ Keeps (fun _ => False) W W6) := fun W k => copy_gen uSw iSw rfl (by decide) (by decide) (swc_len _) (swc_one _) (hsw.keep k).flat hzi.1 (by omega)
      have HCW : Hid (∀ W, Keeps (fun _ => False) w W → ∃ a6 c6 W6, (Builtin.append_ #[30, 30] 30 #[.slice (some ⟨W.heap.size, 0, none⟩) 0 0, .slice q.wa T.wrs.length q.wc]).run Try.prog (W.alloc (.cells #[] 48)) = .ok (.slice a6 T.wrs.length c6) W6 ∧ W6.ownsRow W.heap.size 48 4 (.slice a6 T.wrs.length c6) T.wrs.length (woc T.wrs) ∧ Keeps (fun _ => False) W W6) := fun W k => copy_gen uWo iWo rfl (by decide) (by decide) (woc_len _) (woc_one _) (hwo.keep k).flat hzi.2 (by omega)
      have HNX : Hid (∀ (w5 w7 W8 w9 : World) (a6 : Option Addr) (c6 : Nat) (a8 : Option Addr) (c8 : Nat), w7.ownsRow w5.heap.size 46 9 (.slice a6 T.saws.length c6) T.saws.length (swc T.saws) → W8.ownsRow w7.heap.size 48 4 (.slice a8 T.wrs.length c8) T.wrs.length (woc T.wrs) → Keeps (fun _ => False) wr w7 → Keeps (fun _ => False) w7 W8 → Keeps (fun k => k = wr.heap.size) W8 w9 → wr.heap.size < w5.heap.size → w5.heap.size ≤ w7.heap.size →
          ∃ v' W', (Builtin.append_ #[22, 22] 22 #[u3, .slice (some ⟨w9.heap.size, 0, none⟩) 1 1]).run Try.prog (w9.alloc (.cells (T.clp ⟨a6, c6, a8, c8⟩).toArray 32)) = .ok v' W' ∧ TO w W' v' (Q ++ [(T, ⟨a6, c6, a8, c8⟩)])) := fun w5 w7 W8 w9 a6 c6 a8 c8 o6 o8 K7 k8 k9 z5 z7 => by
        have K9 : Keeps (fun _ => False) wr w9 := (K7.trans k8).trans' k9 (fun _ _ e => e) (fun i2 hi2 e => by have e : i2 = wr.heap.size := e; omega)
        have z8 := k8.size
        have z9 := k9.size
        have s9 : w9.ownsRow w5.heap.size 46 9 (.slice a6 T.saws.length c6) T.saws.length (swc T.saws) := k9.owns (k8.owns o6 (fun _ _ e => e)) (fun b2 e1 e2 => by have e2 : b2 = wr.heap.size := e2; have := owns_baseT o6 b2 e1; omega)
        have r9 : w9.ownsRow w7.heap.size 48 4 (.slice a8 T.wrs.length c8) T.wrs.length (woc T.wrs) := k9.owns o8 (fun b2 e1 e2 => by have e2 : b2 = wr.heap.size := e2; have := owns_baseT o8 b2 e1; omega)
        obtain ⟨v', W', hr, ho2, kq, hb⟩ := append_tx (K9.owns HTO0.out.o (fun _ _ e => e)) (Nat.le_trans HKR.out.size K9.size) (by omega) (T, ⟨a6, c6, a8, c8⟩)
        refine ⟨v', W', hr, HTO0.out.next T ⟨a6, c6, a8, c8⟩ K9 (SWM.of s9) (WOM.of r9) (fun b off e => ?_) (fun b off e => ?_) ho2 kq hb⟩
        · obtain ⟨a', c', e1, -, -, h4⟩ := own_slice s9
          injection e1 with e1 _ _
          rw [← e1] at h4
          obtain ⟨-, hb2⟩ := h4 b off e
          have := owns_baseT s9 b hb2
          have := owns_lt' s9 b hb2
          omega
        · obtain ⟨a', c', e1, -, -, h4⟩ := own_slice r9
          injection e1 with e1 _ _
          rw [← e1] at h4
          obtain ⟨-, hb2⟩ := h4 b off e
          have := owns_baseT r9 b hb2
          have := owns_lt' r9 b hb2
          omega
      obtain ⟨W4, hW4⟩ : ∃ W4, W4 = wr.alloc (.cells #[.int .i64 0, .int .i64 0, .int .i64 0, .int .i64 0, .int .i64 0, .int .i64 0, .int .i64 0, .int .i64 0, .int .i64 0, .slice none 0 0, .slice none 0 0] 32) := ⟨_, rfl⟩
      have k4 : Keeps (fun _ => False) wr W4 := by rw [hW4]; exact (Keeps.refl _ wr).alloc _
      have hU4 : CL W4 wr.heap.size (tv0.clp ⟨none, 0, none, 0⟩) := by rw [hW4]; exact CL.made wr (tv0.clp ⟨none, 0, none, 0⟩) 32
      have HW4 : Hid (W4 = wr.alloc (.cells #[.int .i64 0, .int .i64 0, .int .i64 0, .int .i64 0, .int .i64 0, .int .i64 0, .int .i64 0, .int .i64 0, .int .i64 0, .slice none 0 0, .slice none 0 0] 32)) := hW4
      have hOC : (T.clp q).toArray.all (·.oneCell') = true := all_oneCell_toArray (tx_one T q)
      clear hW4 hsw hwo hli hzi hQl
      go_wp2_with (first | (refine wpList_load_runL rfl 32 _ rfl ⟨b, off + i * 11, none⟩ rfl _ hR1 ?_; clear hR1) | (rw [← HW4.out]; clear HW4; refine wpList_store_cl rfl 32 _ _ rfl wr.heap.size 0 11 (T.clp q).toArray rfl rfl rfl hU4 (by show 11 ≤ 11; decide) iTx hOC ?_; intro w5 hc5 k5 hsz5; have hI5 : CL w5 wr.heap.size (T.clp q) := hc5; clear hc5; have K45 : Keeps (fun _ => False) wr w5 := k4.trans' k5 (fun _ _ e => e) (fun i2 hi2 e => (by have e : i2 = wr.heap.size := e; omega)); have Z5 : Hid (wr.heap.size < w5.heap.size) := (hI5.lt (by show 0 < 11; decide)); clear k4 k5 hU4 hsz5; obtain ⟨a6, c6, W6, hr6, ho6, k6⟩ := HCS.out w5 (HKR.out.trans K45); have c9 : (w5.alloc (.cells #[] 46)).cell? ⟨wr.heap.size, 9, none⟩ = some (.slice q.sa T.saws.length q.sc) := ((Keeps.refl (fun _ => False) w5).alloc _).cell (hI5.c 9 _ rfl) (fun e => e); have HO6 : Hid (W6.ownsRow w5.heap.size 46 9 (.slice a6 T.saws.length c6) T.saws.length (swc T.saws)) := ho6; clear ho6; have hI6 : CL W6 wr.heap.size (T.clp q) := hI5.keep (by show 0 < 11; decide) k6 (fun e => e); clear hI5) | (at_builtin; refine wpList_append_tL rfl _ _ _ rfl _ _ _ W6 rfl rfl hr6 ?_; clear hr6 c9) | (refine wpList_store_s1 rfl rfl 29 (.inl rfl) _ _ rfl wr.heap.size 9 rfl a6 T.saws.length c6 rfl hI6 (by show 9 < 11; decide) ?_; intro w7 hc7 k7 z7; have hI7 : CL w7 wr.heap.size (T.clp ⟨a6, c6, q.wa, q.wc⟩) := hc7; clear hc7 hI6; have HO7 : Hid (w7.ownsRow w5.heap.size 46 9 (.slice a6 T.saws.length c6) T.saws.length (swc T.saws)) := k7.owns HO6.out (fun b2 e1 e2 => (by have e2 : b2 = wr.heap.size := e2; have := owns_baseT HO6.out b2 e1; have := Z5.out; omega)); clear HO6; have K7 : Keeps (fun _ => False) wr w7 := (K45.trans k6).trans' k7 (fun _ _ e => e) (fun i2 hi2 e => (by have e : i2 = wr.heap.size := e; omega)); have Z7 : Hid (w5.heap.size ≤ w7.heap.size) := (by have := k6.size; have := k7.size; show _ ≤ _; omega); clear k7 z7 k6 K45; obtain ⟨a8, c8, W8, hr8, ho8, k8⟩ := HCW.out w7 (HKR.out.trans K7); have c10 : (w7.alloc (.cells #[] 48)).cell? ⟨wr.heap.size, 10, none⟩ = some (.slice q.wa T.wrs.length q.wc) := ((Keeps.refl (fun _ => False) w7).alloc _).cell (hI7.c 10 _ rfl) (fun e => e); have HO8 : Hid (W8.ownsRow w7.heap.size 48 4 (.slice a8 T.wrs.length c8) T.wrs.length (woc T.wrs)) := ho8; clear ho8; have hI8 : CL W8 wr.heap.size (T.clp ⟨a6, c6, q.wa, q.wc⟩) := hI7.keep (by show 0 < 11; decide) k8 (fun e => e); clear hI7) | (at_builtin; refine wpList_append_tL rfl _ _ _ rfl _ _ _ W8 rfl rfl hr8 ?_; clear hr8 c10) | (refine wpList_store_s1 rfl rfl 30 (.inr rfl) _ _ rfl wr.heap.size 10 rfl a8 T.wrs.length c8 rfl hI8 (by show 10 < 11; decide) ?_; intro w9 hc9 k9 z9; have hI9 : CL w9 wr.heap.size (T.clp ⟨a6, c6, a8, c8⟩) := hc9; clear hc9 hI8; obtain ⟨v', W', hr, hto⟩ := HNX.out w5 w7 W8 w9 a6 c6 a8 c8 HO7.out HO8.out K7 k8 k9 Z5.out Z7.out; have HTO : Hid (TO w W' v' (Q ++ [(T, ⟨a6, c6, a8, c8⟩)])) := hto; have hR9 := run_txAt (W := w9) (b := wr.heap.size) (o := 0) (t := T) (p := ⟨a6, c6, a8, c8⟩) (fun j v e => (by rw [Nat.zero_add]; exact hI9.c j v e)); clear hto hI9 HO7 HO8 K7 k8 k9 Z5 Z7 z9) | (refine wpList_load_runL rfl 32 _ rfl ⟨wr.heap.size, 0, none⟩ rfl _ hR9 ?_; clear hR9) | (refine wpList_build1L uTx iTxz (by decide) (by decide) rfl _ rfl (T.clp ⟨a6, c6, a8, c8⟩) rfl rfl ?_) | (at_builtin; refine wpList_append_tL rfl _ _ _ rfl _ _ _ W' rfl rfl hr ?_; clear hr))
      go_roundw
      case rel => exact ⟨i + 1, _, by go_num, by omega, HTO.out, by rw [HTK.out, List.map_append, HQ.out]; rfl⟩
      case measure => simp [intOf]; omega
    · have j1 : decide ((i : Int) < (N : Int)) = false := decide_eq_false (by omega)
      have j2 : decide (i < N) = false := decide_eq_false hlt
      have HX : Hid (ToP w ts (.returned u3) wr) := ⟨u3, Q, rfl, HTO0.out, by rw [HQ.out, List.take_of_length_le (by rw [HN.out]; omega)]⟩
      clear HTO0 HQ
      go_wp2_with fail
      go_ret
      exact HX.out
end Go.Proofs.Ythmlppepgcjfgaa
