import Derived.Test.YthmlppepgcjfgaaBdW
namespace Go.Proofs.Ythmlppepgcjfgaa
open Go.RowKit Go.Deep
attribute [local go_sem] Oper.semAt_some run_store_nf run_store_f
theorem nodup_sub : ∀ {l m : List Ed}, l.Nodup → (∀ e, e ∈ l → e ∈ m) → l.length ≤ m.length
  | [], _, _, _ => Nat.zero_le _
  | x :: l, m, hn, hs => by
    obtain ⟨h1, h2⟩ := List.nodup_cons.1 hn
    obtain ⟨p, q, rfl⟩ := List.append_of_mem (hs x (List.mem_cons_self ..))
    have := nodup_sub (l := l) (m := p ++ q) h2 (fun e he => by
      rcases List.mem_append.1 (hs e (List.mem_cons_of_mem _ he)) with h | h
      · exact List.mem_append.2 (.inl h)
      · rcases List.mem_cons.1 h with rfl | h
        · exact absurd he h1
        · exact List.mem_append.2 (.inr h))
    rw [List.length_append] at this
    rw [List.length_append, List.length_cons, List.length_cons]
    omega
/-- The numbers of a list, in order, each once. -/
def cpt (xs : List Int) : List Int := Lib.compact (xs.mergeSort fun x y => decide (x ≤ y))
theorem cmG_ex (ts : List Tv) : ∀ k, k ≤ ts.length → ∃ P : List (At × Ag), CmG ts k (P.map (·.2)) ∧ ∀ p ∈ P, OwA p
  | 0, _ => ⟨[], CmG.start ts, (fun _ h => nomatch h)⟩
  | k + 1, hk => by
    obtain ⟨P, h1, h2⟩ := cmG_ex ts k (by omega)
    by_cases ho : (ts.getD k tv0).out = 1
    · obtain ⟨a1, a2, a3⟩ := comp_sorted (rdL (ts.getD k tv0).saws)
      obtain ⟨b1, b2, b3⟩ := comp_sorted (wrL (ts.getD k tv0).wrs)
      refine ⟨P ++ [(⟨(k : Int), (ts.getD k tv0).fnl, (ts.getD k tv0).end_, none, 0, 0, none, 0, 0⟩, ⟨(k : Int), (ts.getD k tv0).fnl, (ts.getD k tv0).end_, cpt (rdL (ts.getD k tv0).saws), cpt (wrL (ts.getD k tv0).wrs)⟩)], ?_, fun p hp => ?_⟩
      · rw [List.map_append]
        exact h1.next (by omega) ho _ _ a1 b1 (fun x => (a2 x).trans rdL_rdB) (fun x => (b2 x).trans wrL_wrB) (Nat.le_trans a3 (rdL_len _)) (Nat.le_trans b3 (Nat.le_of_eq (wrL_len _)))
      · rcases List.mem_append.1 hp with q | q
        · exact h2 p q
        · simp at q
          subst q
          exact ⟨rfl, rfl, rfl⟩
    · exact ⟨P, h1.stay (by omega) ho, h2⟩
/-- How many edges there are at most. -/
theorem BuA_len {ts : List Tv} {l : List Ed} {ec : Int} (hI : TsI ts) (h : BuA ts l ec) : l.length ≤ 4294967296 := by
  rcases h with ⟨-, -, rfl⟩ | ⟨hm, -, hs, he⟩
  · exact Nat.zero_le _
  · obtain ⟨P, hG, ho⟩ := cmG_ex ts ts.length (Nat.le_refl _)
    have hB : BeI ts P := BeI.of ⟨hm.1, hI.s, hI.i⟩ hG ho
    have hn : l.Nodup := hs.imp (fun {a b} q e => by subst e; exact LtE.irr _ q)
    exact Nat.le_trans (nodup_sub hn (fun e h => (hB.m e).2 (gaE_iff.2 ((he e).1 h)))) hB.len
/-- Build in plain words. -/
theorem Build_p {w : World} {a : Option Addr} {cap : Nat} {ts : List Tv} {p : Nat → Lp} (hT : TXM w a ts p) (hI : TsI ts) : Calls Try.prog 5 #[.slice a ts.length cap] w fun e w' => ∃ va vc l ec, e = .returned (.tuple #[.slice va l.length vc, .int .i64 ec]) ∧ w'.ownsRow w.heap.size 34 4 (.slice va l.length vc) l.length (ecl l) ∧ BuA ts l ec ∧ Keeps (fun _ => False) w w' := Build_any hT hI
set_option maxHeartbeats 3000000 in
set_option maxRecDepth 100000 in
theorem gbuilds_any {w : World} {a : Option Addr} {cap : Nat} {ts : List Tv} {p : Nat → Lp} (hT : TXM w a ts p) (hz : LpZ p ts.length) (hI : TsI ts) : Calls Try.prog 4 #[.slice a ts.length cap] w fun e w' => e = .returned (.bool true) ∧ Below w.heap.size w w' := by
  have HEND : Hid (∀ W, Keeps (fun _ => False) w W → Below w.heap.size w W) := fun W k => k.below (Nat.le_refl _) (fun _ _ e => e)
  have htx : Calls Try.prog 7 #[.slice a ts.length cap] w fun e w' => ∃ a2 c2 p2, e = .returned (.slice a2 ts.length c2) ∧ TXM w' a2 ts p2 ∧ Keeps (fun _ => False) w w' := (txsOf_any hT hz hI.l hI.s).mono (by
    rintro e w' ⟨v, Q, rfl, hto, hq⟩
    obtain ⟨a2, c2, rfl, hx⟩ := hto.txm
    have hl : Q.length = ts.length := by rw [← hq, List.length_map]
    rw [hq] at hx
    rw [hl]
    exact ⟨a2, c2, _, rfl, hx, hto.k⟩)
  have HRB : Hid (∀ W, Keeps (fun _ => False) w W → Calls Try.prog 8 #[.slice a ts.length cap] W fun e w' => ∃ va vc l ec, e = .returned (.tuple #[.slice va l.length vc, .int .i64 ec]) ∧ w'.ownsRow W.heap.size 34 4 (.slice va l.length vc) l.length (ecl l) ∧ BuA ts l ec ∧ Keeps (fun _ => False) W w') := fun W k => rBuild_t (hT.keep k) hI
  have HPB : Hid (∀ W a2 c2 p2, TXM W a2 ts p2 → Calls Try.prog 5 #[.slice a2 ts.length c2] W fun e w' => ∃ va vc l ec, e = .returned (.tuple #[.slice va l.length vc, .int .i64 ec]) ∧ w'.ownsRow W.heap.size 34 4 (.slice va l.length vc) l.length (ecl l) ∧ BuA ts l ec ∧ Keeps (fun _ => False) W w') := fun W a2 c2 p2 h => Build_p h hI
  have HSM : Hid (∀ W a2 c2 p2, Keeps (fun _ => False) w W → TXM W a2 ts p2 → Calls Try.prog 9 #[.slice a2 ts.length c2, .slice a ts.length cap] W fun e w' => e = .returned (.bool true) ∧ Keeps (fun _ => False) W w') := fun W a2 c2 p2 k h => sameTxs_ok c2 cap h (hT.keep k) hI.l hI.s
  have HBL : Hid (∀ l ec, BuA ts l ec → l.length ≤ 4294967296) := fun l ec h => BuA_len hI h
  clear hT hz hI
  generalize ts.length = N at *
  go_enter Try.func4, Try.ntmps4
  refine wp_seq_k (fun KK hKK => ?_)
  have hKH : Hid _ := hKK
  clear hKK
  go_wp2_with fail
  refine hKH.out _ _ ?_
  clear hKH KK
  refine wp_seq_k (fun KK hKK => ?_)
  have hKH : Hid _ := hKK
  clear hKK
  go_wp2_with (go_at_call 7; refine htx.mono ?_; clear htx; rintro e w1 ⟨a2, c2, p2, rfl, t1, k1⟩; have HT1 : Hid (TXM w1 a2 ts p2) := t1; clear t1)
  refine hKH.out _ _ ?_
  clear hKH KK
  have hrb := HRB.out w1 k1
  clear HRB
  refine wp_seq_k (fun KK hKK => ?_)
  have hKH : Hid _ := hKK
  clear hKK
  go_wp2_with (go_at_call 8; refine hrb.mono ?_; clear hrb; rintro e w2 ⟨va, vc, l, ec, rfl, ho, hb, k2⟩; have HO : Hid (w2.ownsRow w1.heap.size 34 4 (.slice va l.length vc) l.length (ecl l)) := ho; have HB : Hid (BuA ts l ec) := hb; clear ho hb)
  refine hKH.out _ _ ?_
  clear hKH KK
  have hpb := HPB.out w2 a2 c2 p2 (HT1.out.keep k2)
  clear HPB
  refine wp_seq_k (fun KK hKK => ?_)
  have hKH : Hid _ := hKK
  clear hKK
  go_wp2_with (go_at_call 5; refine hpb.mono ?_; clear hpb; rintro e w3 ⟨xa, xc, m, fc, rfl, ho3, hb3, k3⟩; obtain ⟨rfl, rfl⟩ := hb3.one HB.out; have HO3 : Hid (w3.ownsRow w2.heap.size 34 4 (.slice xa m.length xc) m.length (ecl m)) := ho3; clear ho3 hb3)
  refine hKH.out _ _ ?_
  clear hKH KK
  have K3 : Keeps (fun _ => False) w w3 := (k1.trans k2).trans k3
  have hsm := HSM.out w3 a2 c2 p2 K3 ((HT1.out.keep k2).keep k3)
  have HE1 : Hid (∃ a' c', Value.slice va m.length vc = .slice a' m.length c' ∧ EL w3 a' m) := by
    obtain ⟨a', c', e, h, -⟩ := el_of (k3.owns HO.out (fun _ _ e => e))
    exact ⟨a', c', e, h⟩
  have HE2 : Hid (∃ a' c', Value.slice xa m.length xc = .slice a' m.length c' ∧ EL w3 a' m) := by
    obtain ⟨a', c', e, h, -⟩ := el_of HO3.out
    exact ⟨a', c', e, h⟩
  have hML := HBL.out _ _ HB.out
  clear HSM HT1 HO HO3 k1 k2 k3 HB HBL
  have HEA : Hid (EL w3 va m) := by
    obtain ⟨a', c', e, h⟩ := HE1.out
    rw [(Value.slice.inj e).1]
    exact h
  have HEB : Hid (EL w3 xa m) := by
    obtain ⟨a', c', e, h⟩ := HE2.out
    rw [(Value.slice.inj e).1]
    exact h
  clear HE1 HE2
  generalize hM : m.length = M at *
  have HM : Hid (m.length = M) := hM
  clear hM
  have n1 : (fc != fc) = false := by simp
  have n2 : ((M : Int) != (M : Int)) = false := by simp
  refine wp_seq_k (fun KK hKK => ?_)
  have hKH : Hid _ := hKK
  clear hKK
  go_wp2_with (go_at_call 9; refine hsm.mono ?_; clear hsm; rintro e w4 ⟨rfl, k4⟩)
  refine hKH.out _ _ ?_
  clear hKH KK n1 n2
  go_wp2_with fail
  go_loopw [8] (fun iv Wr => ∃ k : Nat, iv = .int .i64 (k : Int) ∧ k ≤ M ∧ Keeps (fun _ => False) w4 Wr) (fun iv _ => M - (intOf iv).toNat)
  case atStart => exact ⟨0, rfl, Nat.zero_le _, Keeps.refl _ _⟩
  case round =>
    obtain ⟨k, rfl, hk, kr⟩ := hrel
    by_cases hlt : k < M
    · have hltI : decide ((k : Int) < (M : Int)) = true := decide_eq_true (by omega)
      have hltN : decide (k < M) = true := decide_eq_true hlt
      have hltJ : (k : Int) < (M : Int) := by omega
      have hk0 : (0 : Int) ≤ (k : Int) := by omega
      have hw1 : IntKind.i64.wrap ((k : Int) + 1) = (k : Int) + 1 := by rw [IntKind.wrap_i64]; omega
      obtain ⟨ba, o1, rfl, c1⟩ := HEA.out k (by rw [HM.out]; exact hlt)
      obtain ⟨bb, o2, rfl, c2⟩ := HEB.out k (by rw [HM.out]; exact hlt)
      generalize m.getD k ed0 = x at *
      have HR1 : Hid (∀ w', (∃ u : KS wr, w' = u.1) → (loadVar 34 ⟨ba, o1 + k * 4, none⟩).run Try.prog w' = .ok (.agg x.cells.toArray) w') := by
        rintro _ ⟨u, rfl⟩
        exact run_ed (fun j v e => ((k4.trans kr).trans u.property).cell (c1 j v e) (fun e => e))
      have HR2 : Hid (∀ w', (∃ u : KS wr, w' = u.1) → (loadVar 34 ⟨bb, o2 + k * 4, none⟩).run Try.prog w' = .ok (.agg x.cells.toArray) w') := by
        rintro _ ⟨u, rfl⟩
        exact run_ed (fun j v e => ((k4.trans kr).trans u.property).cell (c2 j v e) (fun e => e))
      have HE : Hid (∀ w, (Op.equalIn 10000 34 (.agg x.cells.toArray) (.agg x.cells.toArray)).run Try.prog w = .ok true w) := fun w => eql_ed x w
      have hNE : Nonempty (KS wr) := ⟨⟨wr, Keeps.refl _ wr⟩⟩
      clear c1 c2
      go_wp2_with fail
      refine wp_region_ks (by kernel_rfl) (by kernel_rfl) ?_
      (repeat (first | go_big_quiet_skip | (refine wpQuiet_load (by kernel_rfl) 34 _ rfl ⟨ba, o1 + k * 4, none⟩ rfl _ HR1.out ?_; clear HR1; (try simp only [Act.put, List.setIfInBounds_toArray, List.set_cons_zero, List.set_cons_succ])) | (refine wpQuiet_load (by kernel_rfl) 34 _ rfl ⟨bb, o2 + k * 4, none⟩ rfl _ HR2.out ?_; clear HR2; (try simp only [Act.put, List.setIfInBounds_toArray, List.set_cons_zero, List.set_cons_succ])) | (refine wpQuiet_neq (by kernel_rfl) 34 _ _ _ rfl _ _ rfl rfl true (by kernel_rfl) HE.out ?_; (try simp only [Act.put, List.setIfInBounds_toArray, List.set_cons_zero, List.set_cons_succ])) | go_big_quiet_step (fail)))
      refine wpQuiet_nil ?_
      rintro _ ⟨u, rfl⟩
      have ku := kr.trans u.property
      generalize u.val = wu at *
      clear hNE
      go_wp2_with fail
      go_roundw
      case rel => exact ⟨k + 1, by go_num, by omega, ku⟩
      case measure => simp [intOf]; omega
    · have hltI : decide ((k : Int) < (M : Int)) = false := decide_eq_false (by omega)
      have hltN : decide (k < M) = false := decide_eq_false hlt
      have hsk := skew_any wr
      have K9 : Keeps (fun _ => False) w wr := (K3.trans k4).trans kr
      clear K3 k4 kr
      go_wp2_with (first | (go_at_call 6; refine hsk.mono ?_; clear hsk; rintro e w7 ⟨a7, c7, p7, rfl, t7, k7⟩; have hbs := Build_sk (c := c7) t7; clear t7) | (go_at_call 5; refine hbs.mono ?_; clear hbs; rintro e w8 ⟨g8, c8, rfl, hcl, k8⟩; have c0 := hcl.c 0 _ rfl; have c1 := hcl.c 1 _ rfl; have c2 := hcl.c 2 _ rfl; have c3 := hcl.c 3 _ rfl; have c4 := hcl.c 4 _ rfl; have c5 := hcl.c 5 _ rfl; have c6 := hcl.c 6 _ rfl; have c7 := hcl.c 7 _ rfl; clear hcl))
      go_ret
      exact ⟨rfl, HEND.out _ ((K9.trans k7).trans k8)⟩
end Go.Proofs.Ythmlppepgcjfgaa
