import Derived.Test.YtdmfkepnopppaaaGreatDoorPtX
import Derived.Test.YtdmfkepnopppaaaGreatDoorPrX
namespace Go.Proofs.YtdmfkepnopppaaaGreatDoor
open Go.RowKit Go.Deep Go.ChangeShapes Go.WideShapes Go.ChangeAt
attribute [local go_sem] Oper.semAt_some run_store_nf run_store_f
theorem chk_can {l : List Ins} (h64 : l.length ≤ 64) (h : ∀ q ∈ l, q.can (l.length : Int) = true) : chk l = (0, 0) := by
  have key : ∀ k, k ≤ l.length → firstBad l l.length k = none := by
    intro k
    induction k with
    | zero => intro _; rfl
    | succ k ih =>
      intro hk
      have hi : l.length - (k + 1) < l.length := by omega
      have hm : l.getD (l.length - (k + 1)) ins0 ∈ l := by rw [List.getD_eq_getElem?_getD, List.getElem?_eq_getElem hi]; exact List.getElem_mem hi
      unfold firstBad
      rw [h _ hm, if_neg (by decide)]
      exact ih (by omega)
  unfold chk
  rw [if_neg (by omega), key l.length (Nat.le_refl _)]
  rfl
set_option maxHeartbeats 2000000 in
set_option maxRecDepth 1000000 in
theorem taken_any {w : World} (hE : PT w ∧ NT w ∧ PW w) (s : ByteArray) (hs : s.size ≤ 9223372036854775807) :
    Calls Tryz.prog 3 #[.string s] w fun e w' => e = .returned (.bool true) ∧ Below w.heap.size w w' := by
  obtain ⟨hT, hNT, hP⟩ := hE
  have hFx := fixed_ok hT hNT
  have HPa : Hid (∀ W, Keeps (fun _ => False) w W → Calls Tryz.prog 6 #[.string s] W fun e w' => ∃ v, e = .returned (.tuple #[v, .agg #[.int .i64 (prF (prsR s)).1, .int .i64 (prF (prsR s)).2.1, .int .i64 (prF (prsR s)).2.2]]) ∧ w'.ownsRow W.heap.size 45 11 v (prL (prsR s)).length (icl (prL (prsR s))) ∧ Keeps (fun _ => False) W w') := fun W k => (parse_all (w := W) s hs (hT.keep k) (hNT.keep k)).mono (fun e w' ⟨v, h1, h2, h3, _⟩ => ⟨v, h1, h2, h3⟩)
  cases hr : prsR s with
  | error fl =>
    have hfl := prs_err hr
    obtain ⟨f1, f2, f3⟩ := fl
    have hq : f1 ≠ 0 ∧ 0 ≤ f2 ∧ 0 ≤ f3 ∧ (decide (0 < f2) == (f1 != 100)) = true := by
      rcases hfl with e | ⟨h1, h2, h3, h4⟩
      · injection e with e1 e2
        injection e2 with e2 e3
        subst e1 e2 e3
        decide
      · have h1 : f1 ≠ 0 := h1
        have h2 : f1 ≠ 100 := h2
        have h3 : 0 < f2 := h3
        have h4 : 0 ≤ f3 := h4
        refine ⟨h1, by omega, h4, ?_⟩
        have b1 : decide (0 < f2) = true := decide_eq_true h3
        have b2 : (f1 != 100) = true := by simpa using h2
        rw [b1, b2]; rfl
    obtain ⟨q1, q2, q3, q4⟩ := hq
    have b1 : (f1 != 0) = true := by simpa using q1
    have b2 : decide (0 ≤ f2) = true := decide_eq_true q2
    have b3 : decide (0 ≤ f3) = true := decide_eq_true q3
    rw [hr] at HPa
    replace HPa : Hid (∀ W, Keeps (fun _ => False) w W → Calls Tryz.prog 6 #[.string s] W fun e w' => ∃ v, e = .returned (.tuple #[v, .agg #[.int .i64 f1, .int .i64 f2, .int .i64 f3]]) ∧ w'.ownsRow W.heap.size 45 11 v 0 [] ∧ Keeps (fun _ => False) W w') := HPa
    clear hfl hr q1 hT hNT hP hs
    cases c1 : decide (0 < f2) <;> cases c2 : (f1 != 100) <;> rw [c1, c2] at q4 <;> first | exact absurd q4 (by decide) | skip
    all_goals
      go_enter Tryz.func3, Tryz.ntmps3
      go_wp2_with (first | (go_at_call 5; refine hFx.mono ?_; clear hFx; rintro e w1 ⟨rfl, k1⟩) | (go_at_call 6; refine (HPa.out _ k1).mono ?_; clear HPa; rintro e w2 ⟨v2, rfl, ho2, k2⟩; obtain ⟨ap, cp, rfl⟩ := slice_of_owns ho2))
      go_ret
      exact ⟨rfl, ((k1.trans k2).alloc _).below (Nat.le_refl _) (fun _ _ e => e)⟩
  | ok l =>
    obtain ⟨h64, hG⟩ := prs_can hr
    obtain ⟨hr2, hz⟩ := prn_prs h64 hG
    have hck := chk_can h64 (fun q hq => (hG q hq).1)
    have hb : l.length * 88 ≤ 140737488355328 := by omega
    have hn : ∀ q ∈ l, n64 q := fun q hq => (hG q hq).2
    have e1 : prR l = prn l := by unfold prR; rw [hck]; rfl
    obtain ⟨t, ht⟩ : ∃ t : ByteArray, t = ⟨(prn l).toArray⟩ := ⟨_, rfl⟩
    have htz : t.size ≤ 4096 := by rw [ht]; show (prn l).toArray.size ≤ 4096; rw [List.size_toArray]; exact hz
    rw [← ht] at hr2
    rw [hr] at HPa
    replace HPa : Hid (∀ W, Keeps (fun _ => False) w W → Calls Tryz.prog 6 #[.string s] W fun e w' => ∃ v, e = .returned (.tuple #[v, .agg #[.int .i64 0, .int .i64 0, .int .i64 0]]) ∧ w'.ownsRow W.heap.size 45 11 v l.length (icl l) ∧ Keeps (fun _ => False) W w') := HPa
    have HPb : Hid (∀ W, Keeps (fun _ => False) w W → Calls Tryz.prog 6 #[.string t] W fun e w' => ∃ v, e = .returned (.tuple #[v, .agg #[.int .i64 0, .int .i64 0, .int .i64 0]]) ∧ w'.ownsRow W.heap.size 45 11 v l.length (icl l) ∧ Keeps (fun _ => False) W w') := fun W k => by
      have := parse_all (w := W) t (by omega) (hT.keep k) (hNT.keep k)
      rw [hr2] at this
      exact this.mono (fun e w' ⟨v, h1, h2, h3, _⟩ => ⟨v, h1, h2, h3⟩)
    have HCk : Hid (∀ W base v, Keeps (fun _ => False) w W → W.ownsRow base 45 11 v l.length (icl l) → Calls Tryz.prog 7 #[v] W fun e w' => e = .returned (.tuple #[.int .i64 0, .int .i64 0]) ∧ Keeps (fun _ => False) W w') := fun W base v k h => by
      have := check_own hT k h hb
      rw [hck] at this
      exact this
    have HPr : Hid (∀ W base v, Keeps (fun _ => False) w W → W.ownsRow base 45 11 v l.length (icl l) → Calls Tryz.prog 8 #[v] W fun e w' => e = .returned (.tuple #[.string t, .int .i64 0]) ∧ Keeps (fun _ => False) W w') := fun W base v k h => by
      have := print_own hT hNT hP k h hn hb
      rw [hck, e1, ← ht] at this
      exact this
    have HBk : Hid (∀ W base v, W.ownsRow base 45 11 v l.length (icl l) → Calls Tryz.prog 10 #[v] W fun e w' => ∃ a cap, e = .returned (.slice a l.length cap) ∧ ISL w' a l ∧ Keeps (fun _ => False) W w') := fun W base v h => back_own h hb
    have HSm : Hid (∀ W a1 c1 a2 c2, ISL W a1 l → ISL W a2 l → Calls Tryz.prog 9 #[.slice a1 l.length c1, .slice a2 l.length c2] W fun e w' => e = .returned (.bool true) ∧ Keeps (fun _ => False) W w') := fun W a1 c1 a2 c2 h1 h2 => same_any h1 h2 (by omega)
    have hst : (t.toList == t.toList) = true := by simp
    have HPr2 := HPr
    have HBk2 := HBk
    clear hr hr2 hG hck e1 ht hz hn hb hT hNT hP hs htz h64
    generalize l.length = N at *
    go_enter Tryz.func3, Tryz.ntmps3
    go_wp2_with (first | (go_at_call 5; refine hFx.mono ?_; clear hFx; rintro e w1 ⟨rfl, k1⟩) | (go_at_call 6; refine (HPa.out _ k1).mono ?_; clear HPa; rintro e w2 ⟨v2, rfl, ho2, k2⟩; have ho3 := ((Keeps.refl (fun _ => False) w2).alloc (.cells #[.int .i64 0, .int .i64 0, .int .i64 0] 26)).owns ho2 (fun _ _ e => e); have K3 : Keeps (fun _ => False) w (w2.alloc (.cells #[.int .i64 0, .int .i64 0, .int .i64 0] 26)) := (k1.trans k2).alloc _) | (go_at_call 7; refine (HCk.out _ _ _ K3 ho3).mono ?_; clear HCk; rintro e w4 ⟨rfl, k4⟩; have ho4 := k4.owns ho3 (fun _ _ e => e)) | (go_at_call 8; refine (HPr.out w4 _ _ (K3.trans k4) ho4).mono ?_; clear HPr; rintro e w5 ⟨rfl, k5⟩; have K5 := (K3.trans k4).trans k5; have ho5 := k5.owns ho4 (fun _ _ e => e)) | (go_at_call 6; refine (HPb.out _ K5).mono ?_; clear HPb; rintro e w6 ⟨v6, rfl, ho6, k6⟩; have ho7 := ((Keeps.refl (fun _ => False) w6).alloc (.cells #[.int .i64 0, .int .i64 0, .int .i64 0] 26)).owns ho6 (fun _ _ e => e); have K7 : Keeps (fun _ => False) w5 (w6.alloc (.cells #[.int .i64 0, .int .i64 0, .int .i64 0] 26)) := k6.alloc _) | (go_at_call 8; refine (HPr2.out _ _ _ (K5.trans K7) ho7).mono ?_; clear HPr2; rintro e w8 ⟨rfl, k8⟩; have K8 := (K5.trans K7).trans k8; have ho8 := k8.owns ho7 (fun _ _ e => e); have ho8' := (K7.trans k8).owns ho5 (fun _ _ e => e); have g8 := ((CL.made w6 [.int .i64 0, .int .i64 0, .int .i64 0] 26).keep (by show 0 < 3; decide) k8 (fun e => e)).c 0 _ rfl) | (go_at_call 10; refine (HBk.out w8 _ _ ho8').mono ?_; clear HBk; rintro e w9 ⟨a9, c9, rfl, hI9, k9⟩; have ho9 := k9.owns ho8 (fun _ _ e => e)) | (go_at_call 10; refine (HBk2.out w9 _ _ ho9).mono ?_; clear HBk2; rintro e w10 ⟨a10, c10, rfl, hI10, k10⟩; have hI9' := hI9.keep k10) | (go_at_call 9; refine (HSm.out _ _ _ _ _ hI9' hI10).mono ?_; clear HSm; rintro e w11 ⟨rfl, k11⟩))
    go_ret
    exact ⟨rfl, (((K8.trans k9).trans k10).trans k11).below (Nat.le_refl _) (fun _ _ e => e)⟩
end Go.Proofs.YtdmfkepnopppaaaGreatDoor
