import Derived.Test.YtdpnknleobobkaaGreatDoorXfD
import Derived.Test.YtdpnknleobobkaaGreatDoorXcF
namespace Go.Proofs.YtdpnknleobobkaaGreatDoor
open Go.RowKit Go.ChangeShapes Go.WideShapes Go.ChangeAt Go.Deep
attribute [local go_sem] Oper.semAt_some run_store_nf run_store_f
theorem bgE_sz {e : Tr} (h : WfE e) : (szE e).2 ≤ 512 → bgE e ≤ (szE e).2 := by
  induction h with
  | @num n h0 h =>
    have e : szE (.mk 1 n [] []) = (1, 1) := by
      rw [szE, if_pos (by unfold okE; simp [h0]), szL]; rfl
    intro _
    rw [e, bgE, bgL]
    exact Nat.le_refl _
  | @name w h =>
    have e : szE (.mk 2 0 w []) = (1, 1) := by
      rw [szE, if_pos (by unfold okE; simp [h]), szL]; rfl
    intro _
    rw [e, bgE, bgL]
    exact Nat.le_refl _
  | @obj a _ ih =>
    rw [szE_one (.inl rfl), bg_one]
    simp only
    intro h
    have := ih (by omega)
    omega
  | @tak a _ ih =>
    rw [szE_one (.inr (.inl rfl)), bg_one]
    simp only
    intro h
    have := ih (by omega)
    omega
  | @neg a _ ih =>
    rw [szE_one (.inr (.inr (.inl rfl))), bg_one]
    simp only
    intro h
    have := ih (by omega)
    omega
  | @not a _ ih =>
    rw [szE_one (.inr (.inr (.inr rfl))), bg_one]
    simp only
    intro h
    have := ih (by omega)
    omega
  | @bin w a b hb _ _ iha ihb =>
    rw [szE_two hb, bg_two]
    simp only
    intro h
    have := iha (by omega)
    have := ihb (by omega)
    omega
theorem bg_tr0 : bgE tr0 = 1 := rfl
def BgS (s : St) : Prop := 1 ≤ (szS s).2 ∧ ((szS s).2 ≤ 512 → bgS s ≤ 3 * (szS s).2)
def BgL (l : List St) : Prop := (szSL l).2 ≤ 512 → bgSL l ≤ 3 * (szSL l).2
theorem bgl_nil : BgL [] := by
  intro _
  rw [bgSL]; omega
theorem bgl_cons {s : St} {r : List St} (h1 : BgS s) (h2 : BgL r) : BgL (s :: r) := by
  unfold BgL
  rw [szSL, bgSL]
  unfold wth
  simp only
  intro h
  have := h1.2 (by omega)
  have := h2 (by omega)
  omega
theorem bgS_of {k : Int} {w : Bs} {a b : Tr} {th el : List St} (hw : WfS (.mk k w a b th el)) (ht : BgL th) (he : BgL el) : BgS (.mk k w a b th el) := by
  unfold BgS
  rw [bgS_eq]
  unfold WfS at hw
  rcases hw with ⟨rfl, h1, h2, rfl, rfl, rfl⟩ | ⟨rfl, rfl, h1, h2, rfl, rfl⟩ | ⟨rfl, rfl, h1, rfl, rfl, rfl⟩ | ⟨rfl, rfl, h1, rfl, h2, h3⟩ | ⟨rfl, rfl, h1, rfl, h2, rfl⟩ | ⟨rfl, rfl, rfl, rfl, rfl, rfl⟩ | ⟨rfl, rfl, h1, rfl, rfl, rfl⟩
  · have e : szS (.mk 1 w a tr0 [] []) = ((szE a).1 + 1, min ((szE a).2 + 1) 513) := by
      rw [szS, if_pos (by unfold okS; simp [usW, usA, usB, usT, usE, h1, isZr, tr0]), szSL, if_pos (by decide), if_neg (by decide), wth_zero', wth_zero', wth_zero', und]
    rw [e, bg_tr0, bgSL]
    simp only
    have := (pE_sz h2).2.1
    refine ⟨by omega, fun h => ?_⟩
    have := bgE_sz h2 (by omega)
    omega
  · have e : szS (.mk 2 [] a b [] []) = (max (szE a).1 (szE b).1 + 1, min ((szE a).2 + (szE b).2 + 1) 513) := by
      rw [szS, if_pos (by unfold okS; simp [usW, usA, usB, usT, usE]), szSL, if_pos (by decide), if_pos (by decide), wth_zero', wth_zero', und]; rfl
    rw [e, bgSL]
    simp only
    have := (pE_sz h1).2.1
    refine ⟨by omega, fun h => ?_⟩
    have := bgE_sz h1 (by omega)
    have := bgE_sz h2 (by omega)
    omega
  · have e : szS (.mk 3 [] a tr0 [] []) = ((szE a).1 + 1, min ((szE a).2 + 1) 513) := by
      rw [szS, if_pos (by unfold okS; simp [usW, usA, usB, usT, usE, isZr, tr0]), szSL, if_pos (by decide), if_neg (by decide), wth_zero', wth_zero', wth_zero', und]
    rw [e, bg_tr0, bgSL]
    simp only
    have := (pE_sz h1).2.1
    refine ⟨by omega, fun h => ?_⟩
    have := bgE_sz h1 (by omega)
    omega
  · have e : szS (.mk 4 [] a tr0 th el) = (max (max (szE a).1 (szSL th).1) (szSL el).1 + 1, min ((szE a).2 + (szSL th).2 + (szSL el).2 + 1) 513) := by
      rw [szS, if_pos (by unfold okS; simp [usW, usA, usB, usT, usE, isZr, tr0]), if_pos (by decide), if_neg (by decide), wth_zero', und]; rfl
    rw [e, bg_tr0]
    simp only
    have := (pE_sz h1).2.1
    refine ⟨by omega, fun h => ?_⟩
    have := bgE_sz h1 (by omega)
    have := ht (by omega)
    have := he (by omega)
    omega
  · have e : szS (.mk 5 [] a tr0 th []) = (max (szE a).1 (szSL th).1 + 1, min ((szE a).2 + (szSL th).2 + 1) 513) := by
      rw [szS, if_pos (by unfold okS; simp [usW, usA, usB, usT, usE, isZr, tr0]), szSL, if_pos (by decide), if_neg (by decide), wth_zero', wth_zero', und]; rfl
    rw [e, bg_tr0]
    simp only
    have := (pE_sz h1).2.1
    refine ⟨by omega, fun h => ?_⟩
    have := bgE_sz h1 (by omega)
    have := ht (by omega)
    have : bgSL [] = 0 := by rw [bgSL]
    omega
  · have e : szS (.mk 6 [] tr0 tr0 [] []) = (1, 1) := by
      rw [szS, if_pos (by unfold okS; simp [usW, usA, usB, usT, usE, isZr, tr0]), szSL, if_neg (by decide), if_neg (by decide), wth_zero', wth_zero', und]; rfl
    rw [e, bg_tr0, bgSL]
    simp only
    exact ⟨by omega, fun _ => by omega⟩
  · have e : szS (.mk 7 [] a tr0 [] []) = ((szE a).1 + 1, min ((szE a).2 + 1) 513) := by
      rw [szS, if_pos (by unfold okS; simp [usW, usA, usB, usT, usE, isZr, tr0]), szSL, if_pos (by decide), if_neg (by decide), wth_zero', wth_zero', wth_zero', und]
    rw [e, bg_tr0, bgSL]
    simp only
    have := (pE_sz h1).2.1
    refine ⟨by omega, fun h => ?_⟩
    have := bgE_sz h1 (by omega)
    omega
theorem bg_all : ∀ n : Nat, (∀ s, bgS s ≤ n → WfS s → BgS s) ∧ (∀ l, bgSL l ≤ n → WfL l → BgL l)
  | 0 => by
    refine ⟨fun s h => absurd h (by have := bgS_pos s; omega), fun l h _ => ?_⟩
    cases l with
    | nil => exact bgl_nil
    | cons s r => exact absurd h (by have := bgS_pos s; rw [bgSL]; omega)
  | n + 1 => by
    obtain ⟨i1, i2⟩ := bg_all n
    have j1 : ∀ s, bgS s ≤ n + 1 → WfS s → BgS s := by
      intro s hb hw
      obtain ⟨k, w, a, b, th, el⟩ := s
      rw [bgS_eq] at hb
      have hwt : WfL th ∧ WfL el := by
        unfold WfS at hw
        rcases hw with ⟨-, -, -, -, rfl, rfl⟩ | ⟨-, -, -, -, rfl, rfl⟩ | ⟨-, -, -, -, rfl, rfl⟩ | ⟨-, -, -, -, h2, h3⟩ | ⟨-, -, -, -, h2, rfl⟩ | ⟨-, -, -, -, rfl, rfl⟩ | ⟨-, -, -, -, rfl, rfl⟩
        · exact ⟨by unfold WfL; trivial, by unfold WfL; trivial⟩
        · exact ⟨by unfold WfL; trivial, by unfold WfL; trivial⟩
        · exact ⟨by unfold WfL; trivial, by unfold WfL; trivial⟩
        · exact ⟨h2, h3⟩
        · exact ⟨h2, by unfold WfL; trivial⟩
        · exact ⟨by unfold WfL; trivial, by unfold WfL; trivial⟩
        · exact ⟨by unfold WfL; trivial, by unfold WfL; trivial⟩
      exact bgS_of hw (i2 th (by omega) hwt.1) (i2 el (by omega) hwt.2)
    refine ⟨j1, fun l h hw => ?_⟩
    cases l with
    | nil => exact bgl_nil
    | cons s r =>
      unfold WfL at hw
      have e : bgSL (s :: r) = bgS s + bgSL r := by rw [bgSL]
      rw [e] at h
      have := bgS_pos s
      exact bgl_cons (j1 s (by omega) hw.1) (i2 r (by omega) hw.2)
theorem chk_bg {l : List St} (hw : WfL l) (h : chk l = 0) : bgSL l ≤ 1536 := by
  obtain ⟨-, -, h2⟩ := chk_zero h
  have := (bg_all (bgSL l)).2 l (Nat.le_refl _) hw h2
  omega
theorem wfL_mem : ∀ {l : List St}, WfL l → ∀ s ∈ l, WfS s ∧ bgS s ≤ bgSL l
  | [], _, s, h => by cases h
  | a :: r, hw, s, h => by
    unfold WfL at hw
    rw [bgSL]
    rcases List.mem_cons.1 h with h | h
    · rw [h]; exact ⟨hw.1, by omega⟩
    · have := wfL_mem hw.2 s h
      exact ⟨this.1, by omega⟩
theorem st_all : ∀ n : Nat, n ≤ 1048576 → (∀ s, bgS s ≤ n → WfS s → TS s) ∧ (∀ l, bgSL l ≤ n → WfL l → TN l)
  | 0, _ => by
    refine ⟨fun s h => absurd h (by have := bgS_pos s; omega), fun l h hw => ?_⟩
    cases l with
    | nil => exact lines_any (fun s h => by cases h) (fun s h => by cases h) ((lnS 0).2 [] h hw)
    | cons s r => exact absurd h (by have := bgS_pos s; rw [bgSL]; omega)
  | n + 1, hn => by
    obtain ⟨i1, i2⟩ := st_all n (by omega)
    have L2 := fun l (hw : WfL l) => (lnS (bgSL l)).2 l (Nat.le_refl _) hw
    have L1 := fun s (hw : WfS s) => (lnS (bgS s)).1 s (Nat.le_refl _) hw
    have j1 : ∀ s, bgS s ≤ n + 1 → WfS s → TS s := by
      intro s hb hw
      obtain ⟨k, w, a, b, th, el⟩ := s
      rw [bgS_eq] at hb
      have ha := bgE_pos a
      have hb0 := bgE_pos b
      unfold WfS at hw
      rcases hw with ⟨rfl, h1, h2, rfl, rfl, rfl⟩ | ⟨rfl, rfl, h1, h2, rfl, rfl⟩ | ⟨rfl, rfl, h1, rfl, rfl, rfl⟩ | ⟨rfl, rfl, h1, rfl, h2, h3⟩ | ⟨rfl, rfl, h1, rfl, h2, rfl⟩ | ⟨rfl, rfl, rfl, rfl, rfl, rfl⟩ | ⟨rfl, rfl, h1, rfl, rfl, rfl⟩
      · exact sx_asg h1 h2 (by omega)
      · exact sx_sto h1 (by omega) h2 (by omega)
      · exact sx_rel h1 (by omega)
      · refine sx_if h1 (by omega) (i2 th (by omega) h2) (L2 th h2) (i2 el (by omega) h3) (L2 el h3) (fun s hs => ?_) (fun s hs => ?_)
        · subst hs
          have e : bgSL [s] = bgS s := by rw [bgSL, bgSL]; rfl
          rw [e] at hb
          unfold WfL at h3
          exact i1 s (by omega) h3.1
        · subst hs
          unfold WfL at h3
          exact L1 s h3.1
      · exact sx_whl h1 (by omega) (i2 th (by omega) h2) (L2 th h2)
      · exact sx_abo
      · exact sx_ret h1 (by omega)
    refine ⟨j1, fun l h hw => ?_⟩
    have hm := wfL_mem hw
    exact lines_any (fun s hs => j1 s (Nat.le_trans (hm s hs).2 h) (hm s hs).1) (fun s hs => L1 s (hm s hs).1) (L2 l hw)
theorem sl_lt {w w' : World} {l : List St} {p : Option Addr} {c : Nat} {xs : List Value} (ho : OwnP w' (fun g => w.heap.size ≤ g) 56 12 (.slice p l.length c) l.length xs) (hx : SL w' (fun g => w.heap.size ≤ g) 54 56 l xs) : PtL w' w'.heap.size p c l :=
  ⟨xs, ho.lt.mono (fun _ hg => hg.2), hx.lt.mono (fun _ hg => hg.2)⟩
set_option maxHeartbeats 1000000 in
set_option maxRecDepth 100000 in
theorem print_any {w : World} {l : List St} {p : Option Addr} {c : Nat} (hG : PG w) (h : PtL w w.heap.size p c l) (hc : chk l = 0) (hw : WfL l) : Calls Tryz.prog 8 #[.slice p l.length c] w fun e w' => e = .returned (.tuple #[.string (bs (pL [] l)), .int .i64 0]) ∧ Keeps (fun _ => False) w w' := by
  have hbg := chk_bg hw hc
  obtain ⟨-, hz1, hz2⟩ := chk_zero hc
  obtain ⟨xs, h1, h2⟩ := h
  have hC := check_any hG.g hG.h h1 h2 (by omega)
  rw [hc] at hC
  have hN := fun W (k : Keeps (fun _ => False) w W) => (st_all 1048576 (Nat.le_refl _)).2 l (by omega) hw W w.heap.size p c [] (hG.keep k) (PtL.keep ⟨xs, h1, h2⟩ k) hz2 (by simpa using hz1)
  obtain ⟨n, hn⟩ : ∃ n, n = l.length := ⟨_, rfl⟩
  rw [← hn] at hC ⊢
  simp only [← hn] at hN
  obtain ⟨S, hS⟩ : ∃ S, S = bs (pL [] l) := ⟨_, rfl⟩
  rw [← hS]
  simp only [← hS] at hN
  clear hS hn h1 h2 hz1 hz2 hG hc hw hbg
  go_enter Tryz.func8, Tryz.ntmps8
  go_wp2_with (first | (go_at_call 7; refine hC.mono ?_; clear hC; rintro e w1 ⟨rfl, k1⟩; have hN1 := hN w1 k1; clear hN) | (go_at_call 17; refine hN1.mono ?_; clear hN1; rintro e w2 ⟨rfl, k2⟩))
  go_ret2
  exact ⟨rfl, k1.trans k2⟩
/-- A reading's program and its fault. -/
def lsX' (x : Except (Int × Int × Int) (List St)) : List St := match x with
  | .ok l => l
  | .error _ => []
def ftX' (x : Except (Int × Int × Int) (List St)) : Int × Int × Int := match x with
  | .ok _ => (0, 0, 0)
  | .error f => f
def PrsV (f : Int × Int × Int) (l : List St) (w : World) (e : Ending) (w' : World) : Prop := ∃ (p : Option Addr) (c : Nat) (xs : List Value), e = .returned (.tuple #[.slice p l.length c, .agg #[.int .i64 f.1, .int .i64 f.2.1, .int .i64 f.2.2]]) ∧ OwnP w' (fun g => w.heap.size ≤ g) 56 12 (.slice p l.length c) l.length xs ∧ SL w' (fun g => w.heap.size ≤ g) 54 56 l xs ∧ Keeps (fun _ => False) w w'
theorem parse_v {w : World} (T : Bs) (hG : SG w) (h12 : 12 ≤ w.heap.size) : Calls Tryz.prog 6 #[.string (bs T)] w (PrsV (ftX' (prX T)) (lsX' (prX T)) w) := by
  refine (parse_all hG h12).mono fun e w' h => ?_
  cases hx : prX T with
  | ok l =>
    rw [hx] at h
    exact h
  | error f =>
    rw [hx] at h
    obtain ⟨h1, h2⟩ := h
    exact ⟨none, 0, [], h1, ownP_nil _ _ _ _, SL.nil _ _ _ _, h2⟩
theorem taken_cases (T : Bs) : (∃ F1 F2 F3, ftX' (prX T) = (F1, F2, F3) ∧ lsX' (prX T) = [] ∧ F1 ≠ 0 ∧ ((F1 = 231 ∧ 0 < F2 ∧ 0 < F3) ∨ (F1 ≠ 231 ∧ F2 = 0 ∧ F3 = 0)) ∧ 0 ≤ F2 ∧ 0 ≤ F3) ∨ ∃ l, prX T = .ok l ∧ chk l = 0 := by
  unfold prX
  by_cases hT : 32768 < T.length
  · left
    rw [if_pos hT]
    exact ⟨230, 0, 0, rfl, rfl, by decide, .inr ⟨by decide, rfl, rfl⟩, by decide, by decide⟩
  rw [if_neg hT]
  cases hp : prs0 T with
  | error E =>
    left
    refine ⟨231, (lnO (T.take (T.length - E.length)) : Int), (colO (T.take (T.length - E.length)) : Int), rfl, rfl, by decide, .inl ⟨rfl, ?_, ?_⟩, by omega, by omega⟩
    · unfold lnO; omega
    · unfold colO; omega
  | ok z =>
    obtain ⟨l, R⟩ := z
    by_cases hc : chk l = 0
    · right
      refine ⟨l, ?_, hc⟩
      show (if chk l = 0 then Except.ok l else Except.error (chk l, 0, 0)) = _
      rw [if_pos hc]
    · left
      refine ⟨chk l, 0, 0, ?_, ?_, hc, .inr ⟨?_, rfl, rfl⟩, by decide, by decide⟩
      · show ftX' (if chk l = 0 then Except.ok l else Except.error (chk l, 0, 0)) = _
        rw [if_neg hc]; rfl
      · show lsX' (if chk l = 0 then Except.ok l else Except.error (chk l, 0, 0)) = _
        rw [if_neg hc]; rfl
      · rcases chk_vals l with e | e | e | e | e <;> omega
set_option maxHeartbeats 1500000 in
set_option maxRecDepth 100000 in
theorem taken_law {w : World} (hG : PG w) (s : ByteArray) (_ : s.size ≤ 9223372036854775807) : Calls Tryz.prog 3 #[.string s] w fun e w' => e = .returned (.bool true) ∧ Below w.heap.size w w' := by
  have hFx := fixed_ok hG.g hG.h
  have hPa := fun W (g : PG W) (T : Bs) => parse_v (w := W) T g.g g.h

  go_enter Tryz.func3, Tryz.ntmps3
  refine wp_seq_k (fun KK hKK => ?_)
  have hKH : Hid _ := hKK
  clear hKK
  go_wp2_with fail
  refine hKH.out _ _ ?_
  clear hKH KK
  refine wp_seq_k (fun KK hKK => ?_)
  have hKH : Hid _ := hKK
  clear hKK
  go_wp2_with (go_at_call 5; refine hFx.mono ?_; clear hFx; rintro e w1 ⟨rfl, k1⟩)
  refine hKH.out _ _ ?_
  clear hKH KK
  have hp1 := hPa w1 (hG.keep k1) s.data.toList
  rw [bs_of] at hp1
  rcases taken_cases s.data.toList with ⟨F1, F2, F3, hf, hl, hne, h1, h2, h3⟩ | ⟨l, hx, hc⟩
  · rw [hf, hl] at hp1
    unfold PrsV at hp1
    simp only [List.length_nil] at hp1
    refine wp_seq_k (fun KK hKK => ?_)
    have hKH : Hid _ := hKK
    clear hKK
    go_wp2_with (go_at_call 6; refine hp1.mono ?_; clear hp1; rintro e v3 ⟨p3, c3, x3, rfl, Ov3, Xv3, k3⟩)
    refine hKH.out _ _ ?_
    clear hKH KK
    obtain ⟨w3, hw3⟩ : ∃ w3, w3 = v3.alloc (.cells #[.int .i64 F1, .int .i64 F2, .int .i64 F3] 26) := ⟨_, rfl⟩
    have kw3 : Keeps (fun _ => False) v3 w3 := by rw [hw3]; exact (Keeps.refl _ v3).alloc _
    have cw3 : CL w3 v3.heap.size [.int .i64 F1, .int .i64 F2, .int .i64 F3] := by rw [hw3]; exact CL.made v3 _ _
    rw [show v3.alloc (.cells #[.int .i64 F1, .int .i64 F2, .int .i64 F3] 26) = w3 from hw3.symm]
    clear hw3
    have f0 := cw3.c 0 _ rfl
    have f1 := cw3.c 1 _ rfl
    have f2 := cw3.c 2 _ rfl
    have K3 := (k1.trans k3).trans kw3
    have e0 : (F1 != 0) = true := bne_iff_ne.2 hne
    have HC : Hid (_ ∨ _) := h1
    clear hf hl hne h1 hPa hG Ov3 Xv3 cw3 k1 k3 kw3
    have e5 : decide (0 ≤ F2) = true := decide_eq_true h2
    have e6 : decide (0 ≤ F3) = true := decide_eq_true h3
    rcases HC.out with ⟨g1, g2, g3⟩ | ⟨g1, g2, g3⟩
    · have e1 : (F1 == 231) = true := by rw [g1]; rfl
      have e2 : decide (0 < F2) = true := decide_eq_true g2
      have e3 : decide (0 < F3) = true := decide_eq_true g3
      clear HC
      go_wp2_with fail
      go_ret
      exact ⟨rfl, K3.below (Nat.le_refl _) (fun _ _ e => e)⟩
    · have e1 : (F1 == 231) = false := beq_eq_false_iff_ne.2 g1
      clear HC
      subst g2 g3
      go_wp2_with fail
      go_ret
      exact ⟨rfl, K3.below (Nat.le_refl _) (fun _ _ e => e)⟩
  · have hx' : ftX' (prX s.data.toList) = (0, 0, 0) ∧ lsX' (prX s.data.toList) = l := by rw [hx]; exact ⟨rfl, rfl⟩
    rw [hx'.1, hx'.2] at hp1
    unfold PrsV at hp1
    obtain ⟨n, hn⟩ : ∃ n, l.length = n := ⟨_, rfl⟩
    simp only [hn] at hp1
    refine wp_seq_k (fun KK hKK => ?_)
    have hKH : Hid _ := hKK
    clear hKK
    go_wp2_with (go_at_call 6; refine hp1.mono ?_; clear hp1; rintro e v3 ⟨p3, c3, x3, rfl, Ov3, Xv3, k3⟩)
    refine hKH.out _ _ ?_
    clear hKH KK
    obtain ⟨w3, hw3⟩ : ∃ w3, w3 = v3.alloc (.cells #[.int .i64 0, .int .i64 0, .int .i64 0] 26) := ⟨_, rfl⟩
    have kw3 : Keeps (fun _ => False) v3 w3 := by rw [hw3]; exact (Keeps.refl _ v3).alloc _
    have cw3 : CL w3 v3.heap.size [.int .i64 0, .int .i64 0, .int .i64 0] := by rw [hw3]; exact CL.made v3 _ _
    rw [show v3.alloc (.cells #[.int .i64 0, .int .i64 0, .int .i64 0] 26) = w3 from hw3.symm]
    clear hw3
    have Ow3 := Ov3.stay (kw3.stay (fun _ _ _ e => e))
    rw [← hn] at Ow3
    have Xw3 := Xv3.stay (kw3.stay (fun _ _ _ e => e))
    have K3 := (k1.trans k3).trans kw3
    clear k3 kw3 Ov3 Xv3 hx' hx
    have hw := Xw3.wf (chk_zero hc).1
    have hbg := chk_bg hw hc
    have hlen := pL_len hw hc
    have hpr : prX (pL [] l) = .ok l := by
      unfold prX
      rw [if_neg (by omega), prs0_pL hw (by omega)]
      show (if chk l = 0 then Except.ok l else Except.error (chk l, 0, 0)) = _
      rw [if_pos hc]
    have L3 : PtL w3 w3.heap.size p3 c3 l := ⟨x3, Ow3.lt.mono (fun _ hg => hg.2), Xw3.lt.mono (fun _ hg => hg.2)⟩
    have G3 := hG.keep K3
    have hCk := check_any G3.g G3.h (Ow3.lt.mono (fun _ hg => hg.2)) (Xw3.lt.mono (fun _ hg => hg.2)) (by omega : bgSL l ≤ 1099511627776)
    rw [hc] at hCk
    have hP1 := fun W (k : Keeps (fun _ => False) w3 W) => print_any (w := W) (G3.keep k) (l := l) (p := p3) (c := c3) ⟨x3, (Ow3.lt.stay (k.stay (fun _ _ _ e => e))).mono (fun _ hg => Nat.lt_of_lt_of_le hg.2 k.size), (Xw3.lt.stay (k.stay (fun _ _ _ e => e))).mono (fun _ hg => Nat.lt_of_lt_of_le hg.2 k.size)⟩ hc hw
    have hP8 := fun W (k : Keeps (fun _ => False) w3 W) => hPa W (G3.keep k) (pL [] l)
    have hx8 : ftX' (prX (pL [] l)) = (0, 0, 0) ∧ lsX' (prX (pL [] l)) = l := by rw [hpr]; exact ⟨rfl, rfl⟩
    have hP9 := fun W (k : Keeps (fun _ => False) w3 W) (p : Option Addr) (c : Nat) (xs : List Value) (ho : OwnP W (fun g => g < W.heap.size) 56 12 (.slice p l.length c) l.length xs) (hx : SL W (fun g => g < W.heap.size) 54 56 l xs) => print_any (w := W) (G3.keep k) (l := l) (p := p) (c := c) ⟨xs, ho, hx⟩ hc hw
    simp only [hx8.1, hx8.2] at hP8
    unfold PrsV at hP8
    have hB1 := fun W (k : Keeps (fun _ => False) w3 W) => bk_all 1048576 l (by omega) (Nat.le_refl _) W _ p3 c3 _ (Ow3.lt.stay (k.stay (fun _ _ _ e => e))) (Xw3.lt.stay (k.stay (fun _ _ _ e => e)))
    have hB2 := fun (W : World) (P : Nat → Prop) (p : Option Addr) (c : Nat) (xs : List Value) => bk_all 1048576 l (by omega) (Nat.le_refl _) W P p c xs
    have hSm := fun (W : World) (P Q : Nat → Prop) (p : Option Addr) (c : Nat) (xs : List Value) (p' : Option Addr) (c' : Nat) (xs' : List Value) => sm_all 1048576 l (by omega) (Nat.le_refl _) W P Q p c xs p' c' xs'
    obtain ⟨S, hS⟩ : ∃ S, S = bs (pL [] l) := ⟨_, rfl⟩
    simp only [← hS] at hP1 hP8 hP9
    rw [hn] at hCk
    simp only [hn] at hP1 hP8 hP9 hB1 hB2 hSm
    have HP1 : Hid _ := hP1
    have HP8 : Hid _ := hP8
    have HP9 : Hid _ := hP9
    have HB1 : Hid _ := hB1
    have HB2 : Hid _ := hB2
    have HSm : Hid _ := hSm
    clear hS hn hx8 hpr hlen hbg hw L3 G3 hPa hG Ow3 Xw3 k1 hc hP1 hP8 hP9 hB1 hB2 hSm
    have f0 := cw3.c 0 _ rfl
    refine wp_seq_k (fun KK hKK => ?_)
    have hKH : Hid _ := hKK
    clear hKK
    go_wp2_with fail
    refine hKH.out _ _ ?_
    clear hKH KK
    refine wp_seq_k (fun KK hKK => ?_)
    have hKH : Hid _ := hKK
    clear hKK
    go_wp2_with (go_at_call 7; refine hCk.mono ?_; clear hCk; rintro e w4 ⟨rfl, k4⟩)
    refine hKH.out _ _ ?_
    clear hKH KK
    have hP1b := HP1.out w4 k4
    clear HP1
    refine wp_seq_k (fun KK hKK => ?_)
    have hKH : Hid _ := hKK
    clear hKK
    go_wp2_with (go_at_call 8; refine hP1b.mono ?_; clear hP1b; rintro e w5 ⟨rfl, k5⟩)
    refine hKH.out _ _ ?_
    clear hKH KK
    have k35 := k4.trans k5
    have hP8b := HP8.out w5 k35
    clear HP8
    refine wp_seq_k (fun KK hKK => ?_)
    have hKH : Hid _ := hKK
    clear hKK
    go_wp2_with (go_at_call 6; refine hP8b.mono ?_; clear hP8b; rintro e v6 ⟨p6, c6, x6, rfl, Ov6, Xv6, k6⟩)
    refine hKH.out _ _ ?_
    clear hKH KK
    obtain ⟨w6, hw6⟩ : ∃ w6, w6 = v6.alloc (.cells #[.int .i64 0, .int .i64 0, .int .i64 0] 26) := ⟨_, rfl⟩
    have kw6 : Keeps (fun _ => False) v6 w6 := by rw [hw6]; exact (Keeps.refl _ v6).alloc _
    have cw6 : CL w6 v6.heap.size [.int .i64 0, .int .i64 0, .int .i64 0] := by rw [hw6]; exact CL.made v6 _ _
    rw [show v6.alloc (.cells #[.int .i64 0, .int .i64 0, .int .i64 0] 26) = w6 from hw6.symm]
    clear hw6
    have Ow6 := Ov6.stay (kw6.stay (fun _ _ _ e => e))
    have Xw6 := Xv6.stay (kw6.stay (fun _ _ _ e => e))
    have k36 := (k35.trans k6).trans kw6
    have hP9b := HP9.out w6 k36 p6 c6 x6 (Ow6.lt.mono (fun _ hg => hg.2)) (Xw6.lt.mono (fun _ hg => hg.2))
    clear HP9 k4 k5 k35 k6 kw6 Ov6 Xv6
    refine wp_seq_k (fun KK hKK => ?_)
    have hKH : Hid _ := hKK
    clear hKK
    go_wp2_with (go_at_call 8; refine hP9b.mono ?_; clear hP9b; rintro e w7 ⟨rfl, k7⟩)
    refine hKH.out _ _ ?_
    clear hKH KK
    have k37 := k36.trans k7
    have c37 := cw3.keep (by show 0 < 3; decide) k37 (fun e => e)
    have c67 := cw6.keep (by show 0 < 3; decide) k7 (fun e => e)
    have O7 := Ow6.stay (k7.stay (fun _ _ _ e => e))
    have X7 := Xw6.stay (k7.stay (fun _ _ _ e => e))
    clear cw3 cw6 Ow6 Xw6 k36 k7 f0
    have f1 := c37.c 1 _ rfl
    have f2 := c37.c 2 _ rfl
    have g0 := c67.c 0 _ rfl
    have eS : (S.toList == S.toList) = true := by simp
    have hB1b := HB1.out w7 k37
    have hB2b := fun W (k : Keeps (fun _ => False) w7 W) => HB2.out W _ p6 c6 x6 (O7.lt.stay (k.stay (fun _ _ _ e => e))) (X7.lt.stay (k.stay (fun _ _ _ e => e)))
    clear HB1 HB2 O7 X7 c37 c67
    go_wp2_with (first | (go_at_call 10; refine hB1b.mono ?_; clear hB1b; rintro e w8 ⟨p8, c8, x8, rfl, O8, X8, k8⟩; have hB3 := hB2b w8 k8; clear hB2b) | (go_at_call 10; refine hB3.mono ?_; clear hB3; rintro e w9 ⟨p9, c9, x9, rfl, O9, X9, k9⟩; have hS2 := HSm.out w9 _ _ _ _ _ _ _ _ (O8.stay (k9.stay (fun _ _ _ e => e))) (X8.stay (k9.stay (fun _ _ _ e => e))) O9 X9; clear HSm O8 X8 O9 X9) | (go_at_call 9; refine hS2.mono ?_; clear hS2; rintro e w10 ⟨rfl, k10⟩))
    go_ret
    exact ⟨rfl, ((((K3.trans k37).trans k8).trans k9).trans k10).below (Nat.le_refl _) (fun _ _ e => e)⟩
end Go.Proofs.YtdpnknleobobkaaGreatDoor
