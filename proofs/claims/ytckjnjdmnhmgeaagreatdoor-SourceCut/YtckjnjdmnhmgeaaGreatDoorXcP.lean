import Derived.Test.YtckjnjdmnhmgeaaGreatDoorXcN
import Derived.Test.YtckjnjdmnhmgeaaGreatDoorXcI
namespace Go.Proofs.YtckjnjdmnhmgeaaGreatDoor
open Go.RowKit Go.ChangeShapes Go.WideShapes Go.ChangeAt Go.Deep
attribute [local go_sem] Oper.semAt_some run_store_nf run_store_f
theorem lnO_snoc (A : Bs) (b : UInt8) : lnO (A ++ [b]) = if b = 10 then lnO A + 1 else lnO A := by
  unfold lnO
  rw [List.count_append]
  by_cases h : b = 10
  · rw [if_pos h, h]; rfl
  · rw [if_neg h, List.count_cons_of_ne (fun e => h e)]; rfl
theorem colO_snoc (A : Bs) (b : UInt8) : colO (A ++ [b]) = if b = 10 then 1 else colO A + 1 := by
  unfold colO
  rw [List.reverse_append, List.reverse_cons, List.reverse_nil, List.nil_append, List.singleton_append, List.takeWhile_cons]
  by_cases h : b = 10
  · rw [if_pos h, h]; rfl
  · rw [if_neg h, if_pos (by simpa using h)]; rfl
theorem lnO_app (P Q : Bs) : lnO (P ++ Q) = lnO P + Q.count 10 := by
  unfold lnO
  rw [List.count_append]; omega
theorem colO_app_no : ∀ (Q P : Bs), (10 : UInt8) ∉ Q → colO (P ++ Q) = colO P + Q.length
  | [], P, _ => by rw [List.append_nil]; rfl
  | b :: Q, P, h => by
    have hb : b ≠ 10 := fun e => h (by rw [e]; exact List.mem_cons_self)
    rw [show P ++ b :: Q = (P ++ [b]) ++ Q by simp, colO_app_no Q _ (fun e => h (List.mem_cons_of_mem _ e)), colO_snoc, if_neg hb, List.length_cons]
    omega
/-- No two places have one line and one column. -/
theorem place_ne {P Q : Bs} (hQ : Q ≠ []) (h1 : lnO P = lnO (P ++ Q)) (h2 : colO P = colO (P ++ Q)) : False := by
  rw [lnO_app] at h1
  have h0 : Q.count 10 = 0 := by omega
  have hn : (10 : UInt8) ∉ Q := List.count_eq_zero.1 h0
  rw [colO_app_no Q P hn] at h2
  have := List.length_pos_iff.2 hQ
  omega
theorem lnO_le (A : Bs) : lnO A ≤ A.length + 1 := by
  unfold lnO
  have := List.count_le_length (a := (10 : UInt8)) (l := A)
  omega
set_option maxHeartbeats 1000000 in
set_option maxRecDepth 100000 in
theorem offset_any {w : World} (s : ByteArray) (A : Bs) (hA : A <+: s.data.toList) (hs : s.size ≤ 32768) : Calls Tryz.prog 12 #[.string s, .int .i64 (lnO A : Int), .int .i64 (colO A : Int)] w fun e w' => e = .returned (.int .i64 (A.length : Int)) ∧ w' = w := by
  obtain ⟨N, hN⟩ : ∃ N, s.size = N := ⟨_, rfl⟩
  obtain ⟨T, hT⟩ : ∃ T, s.data.toList = T := ⟨_, rfl⟩
  have hbN : T.length = N := by rw [← hT, ← hN]; simp
  rw [hT] at hA
  have hAN : A.length ≤ N := by rw [← hbN]; exact hA.length_le
  have hlb := lnO_le A
  have hcb := colO_le A
  obtain ⟨L, hL⟩ : ∃ L, lnO A = L := ⟨_, rfl⟩
  obtain ⟨C, hC⟩ : ∃ C, colO A = C := ⟨_, rfl⟩
  obtain ⟨n, hn⟩ : ∃ n, A.length = n := ⟨_, rfl⟩
  have hAT : T.take n = A := by rw [← hn]; exact (List.prefix_iff_eq_take.1 hA).symm
  rw [hL, hC, hn]
  have HP : Hid (∀ i, i < n → lnO (T.take i) = L → colO (T.take i) = C → False) := fun i hi h1 h2 => by
    have e : T.take i ++ (T.take n).drop i = T.take n := by
      have := List.take_append_drop i (T.take n)
      rwa [List.take_take, Nat.min_eq_left (by omega)] at this
    refine place_ne (P := T.take i) (Q := (T.take n).drop i) ?_ ?_ ?_
    · intro e0
      have := congrArg List.length e0
      rw [List.length_drop, List.length_take] at this
      simp at this
      omega
    · rw [e, hAT, h1, hL]
    · rw [e, hAT, h2, hC]
  have HE : Hid (lnO (T.take n) = L ∧ colO (T.take n) = C) := by rw [hAT]; exact ⟨hL, hC⟩
  rw [hL, hn] at hlb
  rw [hC, hn] at hcb
  rw [hn] at hAN
  clear hL hC hn hA hAT
  go_enter Tryz.func12, Tryz.ntmps12
  go_wp2_with fail
  go_loopw [7, 8, 9] (fun av lv cv Wr => ∃ (i l c : Nat), av = .int .i64 (i : Int) ∧ lv = .int .i64 (l : Int) ∧ cv = .int .i64 (c : Int) ∧ i ≤ n ∧ l ≤ i + 1 ∧ c ≤ i + 1 ∧ Hid (lnO (T.take i) = l ∧ colO (T.take i) = c) ∧ Wr = w) (fun av _ _ _ => N - (intOf av).toNat)
  case atStart => exact ⟨0, 1, 1, rfl, rfl, rfl, Nat.zero_le _, by omega, by omega, ⟨rfl, rfl⟩, rfl⟩
  case round =>
    obtain ⟨i, l, c, rfl, rfl, rfl, hi, hl, hc, HX, ew⟩ := hrel
    subst wr
    by_cases hlt : i < n
    · have hiN : i < N := by omega
      have a1 : decide ((i : Int) < (N : Int)) = true := decide_eq_true (by omega)
      have a2 : decide (i < N) = true := decide_eq_true hiN
      have hltJ : (i : Int) < (N : Int) := by omega
      have hi0 : (0 : Int) ≤ (i : Int) := by omega
      have his : i < s.size := by omega
      have hbi : T[i]? = some s[i] := by rw [← hT, List.getElem?_eq_getElem (by simpa using his)]; rfl
      have htk : T.take (i + 1) = T.take i ++ [s[i]] := by rw [List.take_add_one, hbi]; rfl
      have hX2 := HX.out
      have hnl : lnO (T.take (i + 1)) = if s[i] = 10 then l + 1 else l := by rw [htk, lnO_snoc, hX2.1]
      have hnc : colO (T.take (i + 1)) = if s[i] = 10 then 1 else c + 1 := by rw [htk, colO_snoc, hX2.2]
      have hwl : IntKind.i64.wrap ((l : Int) + 1) = (l : Int) + 1 := by rw [IntKind.wrap_i64]; omega
      have hwc : IntKind.i64.wrap ((c : Int) + 1) = (c : Int) + 1 := by rw [IntKind.wrap_i64]; omega
      have hwi : IntKind.i64.wrap ((i : Int) + 1) = (i : Int) + 1 := by rw [IntKind.wrap_i64]; omega
      have hne : l = L → c = C → False := fun e1 e2 => HP.out i hlt (hX2.1.trans e1) (hX2.2.trans e2)
      clear hX2 htk hbi
      have hbr : ∀ K : Prop, (((l : Int) != (L : Int)) = true → K) → (((l : Int) != (L : Int)) = false → ((c : Int) != (C : Int)) = true → K) → K := fun K k1 k2 => by
        by_cases e1 : l = L
        · refine k2 (by rw [e1]; simp) ?_
          rw [bne_iff_ne]
          intro e2
          exact hne e1 (by omega)
        · refine k1 ?_
          rw [bne_iff_ne]
          intro e2
          exact e1 (by omega)
      clear hne
      by_cases h10 : s[i] = 10
      · have b0 : (((s[i].toNat : Nat) : Int) == 10) = true := by rw [h10]; rfl
        rw [if_pos h10] at hnl hnc
        have HY : Hid (lnO (T.take (i + 1)) = l + 1 ∧ colO (T.take (i + 1)) = 1) := ⟨hnl, hnc⟩
        clear hnl hnc h10
        refine hbr _ (fun c1 => ?_) (fun c1 c2 => ?_)
        · clear hbr
          go_wp2_with fail
          go_roundw
          case rel => exact ⟨i + 1, l + 1, 1, by go_num, by go_num, by rfl, by omega, by omega, by omega, HY, trivial⟩
          case measure => simp [intOf]; omega
        · clear hbr
          go_wp2_with fail
          go_roundw
          case rel => exact ⟨i + 1, l + 1, 1, by go_num, by go_num, by rfl, by omega, by omega, by omega, HY, trivial⟩
          case measure => simp [intOf]; omega
      · have b0 : (((s[i].toNat : Nat) : Int) == 10) = false := by
          rw [beq_eq_false_iff_ne]
          intro e
          apply h10
          have : s[i].toNat = 10 := by omega
          exact UInt8.toNat_inj.1 (by rw [this]; rfl)
        rw [if_neg h10] at hnl hnc
        have HY : Hid (lnO (T.take (i + 1)) = l ∧ colO (T.take (i + 1)) = c + 1) := ⟨hnl, hnc⟩
        clear hnl hnc h10
        refine hbr _ (fun c1 => ?_) (fun c1 c2 => ?_)
        · clear hbr
          go_wp2_with fail
          go_roundw
          case rel => exact ⟨i + 1, l, c + 1, by go_num, by rfl, by go_num, by omega, by omega, by omega, HY, trivial⟩
          case measure => simp [intOf]; omega
        · clear hbr
          go_wp2_with fail
          go_roundw
          case rel => exact ⟨i + 1, l, c + 1, by go_num, by rfl, by go_num, by omega, by omega, by omega, HY, trivial⟩
          case measure => simp [intOf]; omega
    · obtain rfl : i = n := by omega
      have hX := HX.out
      have hE := HE.out
      obtain rfl : l = L := hX.1.symm.trans hE.1
      obtain rfl : c = C := hX.2.symm.trans hE.2
      clear HX HE HP hX hE
      have c1 : ((l : Int) != (l : Int)) = false := by simp
      have c2 : ((c : Int) != (c : Int)) = false := by simp
      rcases Nat.lt_or_ge i N with h | h
      · have a1 : decide ((i : Int) < (N : Int)) = true := decide_eq_true (by omega)
        have a2 : decide (i < N) = true := decide_eq_true h
        go_wp2_with fail
        go_ret
        exact ⟨rfl, rfl⟩
      · have a1 : decide ((i : Int) < (N : Int)) = false := decide_eq_false (by omega)
        have a2 : decide (i < N) = false := decide_eq_false (by omega)
        go_wp2_with fail
        go_ret
        exact ⟨rfl, rfl⟩
theorem wp_call3' (f : Nat) {o : Oper} {a : Act} {w : World} {K : Act → World → Prop} {Q : Exit → Act → World → Prop} (x y z : Tmp) {t1 t2 t3 : TypeId} (ho : o.op = .call { callee := .value (.func f), args := #[.tmp x, .tmp y, .tmp z], argTypes := #[t1, t2, t3] }) (v1 v2 v3 : Value) (hx : a.tmps[x]?.getD undef = v1) (hy : a.tmps[y]?.getD undef = v2) (hz : a.tmps[z]?.getD undef = v3) (hcf : ∀ args w, (callFunc f args).run Tryz.prog w = .ok (.enter f args) w) (h : Calls Tryz.prog f #[v1, v2, v3] w (fun e w' => ∃ v, e = .returned v ∧ K (a.put o.dst v) w')) : o.wp Tryz.prog a w K Q := by
  subst hx hy hz
  unfold Oper.wp execOp
  simp only [ho]
  go_simp
  refine h.mono ?_
  rintro e w' ⟨v, rfl, h⟩
  exact h
theorem wpAnyH_oneG {P : Program} {ops : Array Oper} {Q : Exit → Act → World → Prop} {md : Region.Mode} {S : World → Prop} {fuel : Nat} {listed : Array Bool} {a : Act} {w : World} {o : Oper} (i : Nat) (hr : Region.ready md ops listed = [i]) (hoi : ops[i]? = some o) (hw : Region.wanted o (yielded ops a.tmps) = true)
    (h : Oper.wp P o a w (fun a' w' => S w' ∧ (S w' → wpAnyH P md ops Q S fuel (listed.setIfInBounds i true) a' w')) Q) : wpAnyH P md ops Q S (fuel + 1) listed a w := by
  refine wpAnyH_ready hr (by simp) (AllReadyH.cons hoi (fun K hK => ?_) AllReadyH.nil)
  rw [if_pos hw]
  exact Oper.wp_mono (fun a' w' e => hK.out _ _ e.1 e.2) h
theorem cut_fault (T : Bs) : (ftX (prX T)).1 ≠ 231 ∨ ∃ A E, T = A ++ E ∧ T.length ≤ 32768 ∧ prs0 T = .error E ∧ ftX (prX T) = (231, (lnO A : Int), (colO A : Int)) ∧ lsX (prX T) = [] := by
  unfold prX
  by_cases hT : 32768 < T.length
  · left
    rw [if_pos hT]
    show (230 : Int) ≠ 231
    decide
  rw [if_neg hT]
  cases hp : prs0 T with
  | error E =>
    right
    obtain ⟨A, hA⟩ := prs0_suf hp
    refine ⟨A, E, hA.symm, by omega, rfl, ?_, rfl⟩
    show ((231 : Int), (lnO (T.take (T.length - E.length)) : Int), (colO (T.take (T.length - E.length)) : Int)) = _
    rw [← hA, take_suf]
  | ok z =>
    obtain ⟨l, R⟩ := z
    left
    show (ftX (if chk l = 0 then .ok l else .error (chk l, 0, 0))).1 ≠ 231
    split
    · show (0 : Int) ≠ 231
      decide
    · show chk l ≠ 231
      rcases chk_vals l with e | e | e | e | e <;> omega
theorem cut_head {T A E : Bs} (h : T = A ++ E) (hp : prs0 T = .error E) : (ftX (prX A)).1 ≠ 231 ∨ ftX (prX A) = (231, (lnO A : Int), (colO A : Int)) := by
  rcases cut_fault A with h1 | ⟨A', E', h1, -, h3, h4, -⟩
  · exact .inl h1
  · right
    rw [h] at hp
    have hE := prs0_cut hp h3
    rw [hE, List.append_nil] at h1
    rw [h4, h1]
theorem cut_long {T A E : Bs} (h : T = A ++ E) (hp : prs0 T = .error E) (u : Bs) (hE : E ≠ []) (hz : (T ++ 10 :: u).length ≤ 32768) : ftX (prX (T ++ 10 :: u)) = (231, (lnO A : Int), (colO A : Int)) ∧ lsX (prX (T ++ 10 :: u)) = [] := by
  have h1 := prs0_ext hp hE u
  have h2 : T ++ 10 :: u = A ++ (E ++ 10 :: u) := by rw [h, List.append_assoc]
  unfold prX
  rw [if_neg (by omega), h1]
  refine ⟨?_, rfl⟩
  show ((231 : Int), (lnO ((T ++ 10 :: u).take ((T ++ 10 :: u).length - (E ++ 10 :: u).length)) : Int), (colO ((T ++ 10 :: u).take ((T ++ 10 :: u).length - (E ++ 10 :: u).length)) : Int)) = _
  rw [h2, take_suf]
set_option maxHeartbeats 1500000 in
set_option maxRecDepth 100000 in
theorem cut_law {w : World} (hG : SG w) (h12 : 12 ≤ w.heap.size) (s : ByteArray) (hs : s.size ≤ 281474976710656) (u : ByteArray) (hu : u.size ≤ 281474976710656) : Calls Tryz.prog 5 #[.string s, .string u] w fun e w' => e = .returned (.bool true) ∧ Below w.heap.size w w' := by
  have hFx := fixed_ok hG h12
  have hPa := fun W (k : Keeps (fun _ => False) w W) (T : Bs) => parse_u (w := W) T (hG.keep k (fun _ _ e => e)) (Nat.le_trans h12 k.size)
  clear hG h12
  go_enter Tryz.func5, Tryz.ntmps5
  refine wp_seq_k (fun KK hKK => ?_)
  have hKH : Hid _ := hKK
  clear hKK
  go_wp2_with fail
  refine hKH.out _ _ ?_
  clear hKH KK
  refine wp_seq_k (fun KK hKK => ?_)
  have hKH : Hid _ := hKK
  clear hKK
  go_wp2_with (go_at_call 8; refine hFx.mono ?_; clear hFx; rintro e w1 ⟨rfl, k1⟩)
  refine hKH.out _ _ ?_
  clear hKH KK
  have hp1 := hPa w1 k1 s.data.toList
  rw [bs_of] at hp1
  rcases cut_fault s.data.toList with hne | ⟨A, E, hTA, hT, hE, hf, hl⟩
  · obtain ⟨⟨F1, F2, F3⟩, hF⟩ : ∃ F, ftX (prX s.data.toList) = F := ⟨_, rfl⟩
    rw [hF] at hp1 hne
    have hne : F1 ≠ 231 := hne
    obtain ⟨n3, hn3⟩ : ∃ n, (lsX (prX s.data.toList)).length = n := ⟨_, rfl⟩
    unfold PrsU at hp1
    rw [hn3] at hp1
    clear hPa hF hn3
    refine wp_seq_k (fun KK hKK => ?_)
    have hKH : Hid _ := hKK
    clear hKK
    go_wp2_with (go_at_call 6; refine hp1.mono ?_; clear hp1; rintro e v3 ⟨p3, c3, x3, rfl, -, -, k3⟩)
    refine hKH.out _ _ ?_
    clear hKH KK
    obtain ⟨w3, hw3⟩ : ∃ w3, w3 = v3.alloc (.cells #[.int .i64 F1, .int .i64 F2, .int .i64 F3] 25) := ⟨_, rfl⟩
    have kw3 : Keeps (fun _ => False) v3 w3 := by rw [hw3]; exact (Keeps.refl _ v3).alloc _
    have cw3 : CL w3 v3.heap.size [.int .i64 F1, .int .i64 F2, .int .i64 F3] := by rw [hw3]; exact CL.made v3 _ _
    rw [show v3.alloc (.cells #[.int .i64 F1, .int .i64 F2, .int .i64 F3] 25) = w3 from hw3.symm]
    clear hw3
    have f0 := cw3.c 0 _ rfl
    have e3 : (F1 != 231) = true := bne_iff_ne.2 hne
    go_wp2_with fail
    go_ret
    exact ⟨rfl, ((k1.trans k3).trans kw3).below (Nat.le_refl _) (fun _ _ e => e)⟩
  · rw [hf, hl] at hp1
    have hO : ∀ W : World, _ := fun W => offset_any (w := W) s A ⟨E, hTA.symm⟩ (by simpa using hT)
    have hO2 : ∀ W : World, _ := fun W => offset_any (w := W) (bs A) A (List.prefix_refl _) (by rw [bs_size]; have := congrArg List.length hTA; rw [List.length_append] at this; omega)
    have hlb := lnO_le A
    have hcb := colO_le A
    have hAL : A.length ≤ s.size := by have := congrArg List.length hTA; rw [List.length_append] at this; simp at this; omega
    have hsz : s.size ≤ 32768 := by simpa using hT
    have hx : s.extract 0 A.length = bs A := by
      have e : s = bs (A ++ E) := by rw [← hTA, bs_of]
      rw [e, ext_bs, List.drop_zero, List.take_left]
    have hhd := cut_head hTA hE
    have hlg := cut_long hTA hE
    have hem : E = [] → A = s.data.toList := fun e => by rw [hTA, e, List.append_nil]
    have hnl : E ≠ [] → A.length < s.size := fun e => by
      have := congrArg List.length hTA
      rw [List.length_append] at this
      have h2 := List.length_pos_iff.2 e
      simp at this; omega
    obtain ⟨L, hL⟩ : ∃ L, lnO A = L := ⟨_, rfl⟩
    obtain ⟨C, hC⟩ : ∃ C, colO A = C := ⟨_, rfl⟩
    obtain ⟨n, hn⟩ : ∃ n, A.length = n := ⟨_, rfl⟩
    rw [hL, hC] at hp1
    simp only [hL, hC, hn] at hO hO2 hhd hlg hnl
    rw [hn] at hx hAL
    rw [hL, hn] at hlb
    rw [hC, hn] at hcb
    have HEM : Hid (E = [] → A = s.data.toList) := hem
    have HNL : Hid (E ≠ [] → n < s.size) := hnl
    have HLG : Hid (∀ u, E ≠ [] → (s.data.toList ++ 10 :: u).length ≤ 32768 → ftX (prX (s.data.toList ++ 10 :: u)) = (231, (L : Int), (C : Int)) ∧ lsX (prX (s.data.toList ++ 10 :: u)) = []) := hlg
    have HX : Hid (s.extract 0 n = bs A) := hx
    have HFL : Hid (ftX (prX s.data.toList) = (231, (L : Int), (C : Int))) := by rw [← hL, ← hC]; exact hf
    clear hem hnl hlg hx hf hl hE hL hC hTA
    refine wp_seq_k (fun KK hKK => ?_)
    have hKH : Hid _ := hKK
    clear hKK
    go_wp2_with (go_at_call 6; refine hp1.mono ?_; clear hp1; rintro e v3 ⟨p3, c3, x3, rfl, -, -, k3⟩)
    refine hKH.out _ _ ?_
    clear hKH KK
    obtain ⟨w3, hw3⟩ : ∃ w3, w3 = v3.alloc (.cells #[.int .i64 231, .int .i64 (L : Int), .int .i64 (C : Int)] 25) := ⟨_, rfl⟩
    have kw3 : Keeps (fun _ => False) v3 w3 := by rw [hw3]; exact (Keeps.refl _ v3).alloc _
    have cw3 : CL w3 v3.heap.size [.int .i64 231, .int .i64 (L : Int), .int .i64 (C : Int)] := by rw [hw3]; exact CL.made v3 _ _
    rw [show v3.alloc (.cells #[.int .i64 231, .int .i64 (L : Int), .int .i64 (C : Int)] 25) = w3 from hw3.symm]
    clear hw3
    have K3 := (k1.trans k3).trans kw3
    clear k1 k3 kw3
    have f0 := cw3.c 0 _ rfl
    have f1 := cw3.c 1 _ rfl
    have f2 := cw3.c 2 _ rfl
    refine wp_seq_k (fun KK hKK => ?_)
    have hKH : Hid _ := hKK
    clear hKK
    go_wp2_with fail
    refine hKH.out _ _ ?_
    clear hKH KK
    have hO3 := hO w3
    refine wp_seq_k (fun KK hKK => ?_)
    have hKH : Hid _ := hKK
    clear hKK
    go_wp2_with (go_at_call 12; refine hO3.mono ?_; clear hO3; rintro e w4 ⟨rfl, rfl⟩)
    refine hKH.out _ _ ?_
    clear hKH KK
    have d1 : decide ((n : Int) < 0) = false := decide_eq_false (by omega)
    refine wp_seq_k (fun KK hKK => ?_)
    have hKH : Hid _ := hKK
    clear hKK
    go_wp2_with fail
    refine hKH.out _ _ ?_
    clear hKH KK
    clear d1 f0 f1 f2 hO
    have hp2 := hPa w4 K3 A
    rw [← HX.out] at hp2
    obtain ⟨⟨G1, G2, G3⟩, hG⟩ : ∃ F, ftX (prX A) = F := ⟨_, rfl⟩
    obtain ⟨n5, hn5⟩ : ∃ n, (lsX (prX A)).length = n := ⟨_, rfl⟩
    rw [hG] at hp2 hhd
    unfold PrsU at hp2
    rw [hn5] at hp2
    clear hn5
    have i0 : (0 : Int) ≤ (n : Int) := by omega
    have i1 : (n : Int) ≤ (s.size : Int) := by omega
    have i2 : ((n : Int)).toNat = n := by omega
    refine wp_seq_k (fun KK hKK => ?_)
    have hKH : Hid _ := hKK
    clear hKK
    go_wp2_with (go_at_call 6; refine hp2.mono ?_; clear hp2; rintro e v5 ⟨p5, c5, x5, rfl, -, -, k5⟩)
    refine hKH.out _ _ ?_
    clear hKH KK
    obtain ⟨w5, hw5⟩ : ∃ w5, w5 = v5.alloc (.cells #[.int .i64 G1, .int .i64 G2, .int .i64 G3] 25) := ⟨_, rfl⟩
    have kw5 : Keeps (fun _ => False) v5 w5 := by rw [hw5]; exact (Keeps.refl _ v5).alloc _
    have cw5 : CL w5 v5.heap.size [.int .i64 G1, .int .i64 G2, .int .i64 G3] := by rw [hw5]; exact CL.made v5 _ _
    rw [show v5.alloc (.cells #[.int .i64 G1, .int .i64 G2, .int .i64 G3] 25) = w5 from hw5.symm]
    clear hw5
    have k35 := k5.trans kw5
    have c35 := cw3.keep (by show 0 < 3; decide) k35 (fun e => e)
    have K5 := K3.trans k35
    have HGG : Hid (ftX (prX A) = (G1, G2, G3)) := hG
    clear hG cw3 k5 kw5 k35 K3
    rcases hhd with hne | hhd
    · have hne : G1 ≠ 231 := hne
      have e3 : (G1 == 231) = false := beq_eq_false_iff_ne.2 hne
      refine wp_seq_k (fun KK hKK => ?_)
      have hKH : Hid _ := hKK
      clear hKK
      refine wp_seq_k (fun K2 hK2 => ?_)
      have hKI : Hid _ := hK2
      clear hK2
      go_wp2_with fail
      have g0 := cw5.c 0 _ rfl
      have g1 := cw5.c 1 _ rfl
      have g2 := cw5.c 2 _ rfl
      refine wp_region_held_drew (S := fun w' => Keeps (fun _ => False) w5 w') (by kernel_rfl) (Keeps.refl _ w5).drew (fun hHeld => ?_)
      refine wpAnyH_take (i := 0) (v := ?_) rfl (by kernel_rfl) (by kernel_rfl) (by kernel_rfl) (fun _ _ _ h => h) (Or.inl ⟨by rfl, ?_⟩) (by assumption) ?_
      rotate_left
      · intro wx hSw; have p0 := hSw.cell g0 (fun e => e); have p1 := hSw.cell g1 (fun e => e); have p2 := hSw.cell g2 (fun e => e); clear hSw; go_simp <;> with_reducible rfl
      (try simp only [List.getElem_toArray]); (try simp only [List.getElem_cons_succ]); (try simp only [List.getElem_cons_zero]); (try simp only [Act.put]); (try simp only [List.setIfInBounds_toArray]); (repeat first | simp only [List.set_cons_succ] | simp only [List.set_cons_zero])
      refine wpAnyH_take (i := 1) (v := ?_) rfl (by kernel_rfl) (by kernel_rfl) (by kernel_rfl) (fun _ _ _ h => h) (Or.inl ⟨by rfl, ?_⟩) (by assumption) ?_
      rotate_left
      · intro wx hSw; have p0 := hSw.cell g0 (fun e => e); have p1 := hSw.cell g1 (fun e => e); have p2 := hSw.cell g2 (fun e => e); clear hSw; go_simp <;> with_reducible rfl
      (try simp only [List.getElem_toArray]); (try simp only [List.getElem_cons_succ]); (try simp only [List.getElem_cons_zero]); (try simp only [Act.put]); (try simp only [List.setIfInBounds_toArray]); (repeat first | simp only [List.set_cons_succ] | simp only [List.set_cons_zero])
      refine wpAnyH_take (i := 2) (v := ?_) rfl (by kernel_rfl) (by kernel_rfl) (by kernel_rfl) (fun _ _ _ h => h) (Or.inl ⟨by rfl, ?_⟩) (by assumption) ?_
      rotate_left
      · intro wx hSw; have p0 := hSw.cell g0 (fun e => e); have p1 := hSw.cell g1 (fun e => e); have p2 := hSw.cell g2 (fun e => e); clear hSw; go_simp <;> with_reducible rfl
      (try simp only [List.getElem_toArray]); (try simp only [List.getElem_cons_succ]); (try simp only [List.getElem_cons_zero]); (try simp only [Act.put]); (try simp only [List.setIfInBounds_toArray]); (repeat first | simp only [List.set_cons_succ] | simp only [List.set_cons_zero])
      refine wpAnyH_take (i := 3) (v := ?_) rfl (by kernel_rfl) (by kernel_rfl) (by kernel_rfl) (fun _ _ _ h => h) (Or.inl ⟨by rfl, ?_⟩) (by assumption) ?_
      rotate_left
      · intro wx hSw; have p0 := hSw.cell g0 (fun e => e); have p1 := hSw.cell g1 (fun e => e); have p2 := hSw.cell g2 (fun e => e); clear hSw; go_simp <;> with_reducible rfl
      (try simp only [List.getElem_toArray]); (try simp only [List.getElem_cons_succ]); (try simp only [List.getElem_cons_zero]); (try simp only [Act.put]); (try simp only [List.setIfInBounds_toArray]); (repeat first | simp only [List.set_cons_succ] | simp only [List.set_cons_zero])
      refine wpAnyH_take (i := 4) (v := undef) rfl (by kernel_rfl) (by kernel_rfl) (by kernel_rfl) (fun _ _ _ h => h) (Or.inr ⟨by rfl, rfl⟩) (by assumption) ?_
      (try simp only [List.getElem_toArray]); (try simp only [List.getElem_cons_succ]); (try simp only [List.getElem_cons_zero]); (try simp only [Act.put]); (try simp only [List.setIfInBounds_toArray]); (repeat first | simp only [List.set_cons_succ] | simp only [List.set_cons_zero])
      refine wpAnyH_take (i := 5) (v := undef) rfl (by kernel_rfl) (by kernel_rfl) (by kernel_rfl) (fun _ _ _ h => h) (Or.inr ⟨by rfl, rfl⟩) (by assumption) ?_
      (try simp only [List.getElem_toArray]); (try simp only [List.getElem_cons_succ]); (try simp only [List.getElem_cons_zero]); (try simp only [Act.put]); (try simp only [List.setIfInBounds_toArray]); (repeat first | simp only [List.set_cons_succ] | simp only [List.set_cons_zero])
      refine wpAnyH_take (i := 6) (v := undef) rfl (by kernel_rfl) (by kernel_rfl) (by kernel_rfl) (fun _ _ _ h => h) (Or.inr ⟨by rfl, rfl⟩) (by assumption) ?_
      (try simp only [List.getElem_toArray]); (try simp only [List.getElem_cons_succ]); (try simp only [List.getElem_cons_zero]); (try simp only [Act.put]); (try simp only [List.setIfInBounds_toArray]); (repeat first | simp only [List.set_cons_succ] | simp only [List.set_cons_zero])
      refine wpAnyH_take (i := 7) (v := undef) rfl (by kernel_rfl) (by kernel_rfl) (by kernel_rfl) (fun _ _ _ h => h) (Or.inr ⟨by rfl, rfl⟩) (by assumption) ?_
      (try simp only [List.getElem_toArray]); (try simp only [List.getElem_cons_succ]); (try simp only [List.getElem_cons_zero]); (try simp only [Act.put]); (try simp only [List.setIfInBounds_toArray]); (repeat first | simp only [List.set_cons_succ] | simp only [List.set_cons_zero])
      refine wpAnyH_take (i := 8) (v := undef) rfl (by kernel_rfl) (by kernel_rfl) (by kernel_rfl) (fun _ _ _ h => h) (Or.inr ⟨by rfl, rfl⟩) (by assumption) ?_
      (try simp only [List.getElem_toArray]); (try simp only [List.getElem_cons_succ]); (try simp only [List.getElem_cons_zero]); (try simp only [Act.put]); (try simp only [List.setIfInBounds_toArray]); (repeat first | simp only [List.set_cons_succ] | simp only [List.set_cons_zero])
      refine wpAnyH_take (i := 9) (v := undef) rfl (by kernel_rfl) (by kernel_rfl) (by kernel_rfl) (fun _ _ _ h => h) (Or.inr ⟨by rfl, rfl⟩) (by assumption) ?_
      (try simp only [List.getElem_toArray]); (try simp only [List.getElem_cons_succ]); (try simp only [List.getElem_cons_zero]); (try simp only [Act.put]); (try simp only [List.setIfInBounds_toArray]); (repeat first | simp only [List.set_cons_succ] | simp only [List.set_cons_zero])
      refine wpAnyH_take (i := 10) (v := undef) rfl (by kernel_rfl) (by kernel_rfl) (by kernel_rfl) (fun _ _ _ h => h) (Or.inr ⟨by rfl, rfl⟩) (by assumption) ?_
      (try simp only [List.getElem_toArray]); (try simp only [List.getElem_cons_succ]); (try simp only [List.getElem_cons_zero]); (try simp only [Act.put]); (try simp only [List.setIfInBounds_toArray]); (repeat first | simp only [List.set_cons_succ] | simp only [List.set_cons_zero])
      refine wpAnyH_take (i := 11) (v := undef) rfl (by kernel_rfl) (by kernel_rfl) (by kernel_rfl) (fun _ _ _ h => h) (Or.inr ⟨by rfl, rfl⟩) (by assumption) ?_
      (try simp only [List.getElem_toArray]); (try simp only [List.getElem_cons_succ]); (try simp only [List.getElem_cons_zero]); (try simp only [Act.put]); (try simp only [List.setIfInBounds_toArray]); (repeat first | simp only [List.set_cons_succ] | simp only [List.set_cons_zero])
      refine wpAnyH_take (i := 12) (v := undef) rfl (by kernel_rfl) (by kernel_rfl) (by kernel_rfl) (fun _ _ _ h => h) (Or.inr ⟨by rfl, rfl⟩) (by assumption) ?_
      (try simp only [List.getElem_toArray]); (try simp only [List.getElem_cons_succ]); (try simp only [List.getElem_cons_zero]); (try simp only [Act.put]); (try simp only [List.setIfInBounds_toArray]); (repeat first | simp only [List.set_cons_succ] | simp only [List.set_cons_zero])
      refine wpAnyH_take (i := 13) (v := undef) rfl (by kernel_rfl) (by kernel_rfl) (by kernel_rfl) (fun _ _ _ h => h) (Or.inr ⟨by rfl, rfl⟩) (by assumption) ?_
      (try simp only [List.getElem_toArray]); (try simp only [List.getElem_cons_succ]); (try simp only [List.getElem_cons_zero]); (try simp only [Act.put]); (try simp only [List.setIfInBounds_toArray]); (repeat first | simp only [List.set_cons_succ] | simp only [List.set_cons_zero])
      refine wpAnyH_take (i := 14) (v := ?_) rfl (by kernel_rfl) (by kernel_rfl) (by kernel_rfl) (fun _ _ _ h => h) (Or.inl ⟨by rfl, ?_⟩) (by assumption) ?_
      rotate_left
      · intro wx hSw; have p0 := hSw.cell g0 (fun e => e); have p1 := hSw.cell g1 (fun e => e); have p2 := hSw.cell g2 (fun e => e); clear hSw; go_simp <;> with_reducible rfl
      (try simp only [List.getElem_toArray]); (try simp only [List.getElem_cons_succ]); (try simp only [List.getElem_cons_zero]); (try simp only [Act.put]); (try simp only [List.setIfInBounds_toArray]); (repeat first | simp only [List.set_cons_succ] | simp only [List.set_cons_zero])
      refine wpAnyH_done (by kernel_rfl) ?_ _
      refine hKI.out _ _ ?_
      clear hKI
      go_wp2_with fail
      refine hKH.out _ _ ?_
      clear hKH
      have K7 : Keeps (fun _ => False) w w5.drew := K5.trans hHeld
      have c37 := c35.keep (by show 0 < 3; decide) hHeld (fun e => e)
      have w7e : w5.drew = w5.drew := rfl
      generalize w5.drew = w7 at *
      clear g0 g1 g2 c35 cw5 K5 hHeld hO2
      obtain ⟨d, hd⟩ : ∃ d : ByteArray, d = s ++ ⟨#[10]⟩ ++ u := ⟨_, rfl⟩
      have hdl : d.data.toList = s.data.toList ++ 10 :: u.data.toList := by rw [hd, app_listR, app_listR]; simp
      have hds : d.size = s.size + 1 + u.size := by rw [hd, ByteArray.size_append, ByteArray.size_append]; rfl
      have hs1 : (s ++ (⟨#[10]⟩ : ByteArray)).size = s.size + 1 := by rw [ByteArray.size_append]; rfl
      have h1 : ¬ (9223372036854775807 < s.size + 1) := by omega
      have h2 : ¬ (s.size + 1 > 9223372036854775807) := by omega
      have h3 : ¬ (9223372036854775807 < s.size + 1 + u.size) := by omega
      have h4 : ¬ (s.size + 1 + u.size > 9223372036854775807) := by omega
      have h5 : ¬ ((s ++ (⟨#[10]⟩ : ByteArray)).size + u.size > 9223372036854775807) := by omega
      have h6 : ¬ (s.size + (⟨#[10]⟩ : ByteArray).size > 9223372036854775807) := h2
      have HD : Hid (_ = _) := hdl
      clear hdl
      refine wp_seq_k (fun KK hKK => ?_)
      have hKH : Hid _ := hKK
      clear hKK
      go_wp2_with fail
      rw [← hd]
      refine hKH.out _ _ ?_
      clear hKH KK
      clear hd h1 h2 h3 h4 h5 h6 hs1
      by_cases hEE : E = []
      · exfalso
        have hAs := HEM.out hEE
        have h9 := HGG.out
        rw [hAs, HFL.out] at h9
        injection h9 with h9 _
        exact hne h9.symm
      · have hns := HNL.out hEE
        have q1 : ((n : Int) == (s.size : Int)) = false := by rw [beq_eq_false_iff_ne]; omega
        have q2 : (n == s.size) = false := by rw [beq_eq_false_iff_ne]; omega
        refine wp_seq_k (fun KK hKK => ?_)
        have hKH : Hid _ := hKK
        clear hKK
        go_wp2_with fail
        refine hKH.out _ _ ?_
        clear hKH KK
        clear q1 q2
        rcases Nat.lt_or_ge 32768 d.size with hz | hz
        · have q1 : decide (32768 < (d.size : Int)) = true := decide_eq_true (by omega)
          have q2 : decide (32768 < d.size) = true := decide_eq_true hz
          go_wp2_with fail
          go_ret
          exact ⟨rfl, K7.below (Nat.le_refl _) (fun _ _ e => e)⟩
        · have q1 : decide (32768 < (d.size : Int)) = false := decide_eq_false (by omega)
          have q2 : decide (32768 < d.size) = false := decide_eq_false (by omega)
          refine wp_seq_k (fun KK hKK => ?_)
          have hKH : Hid _ := hKK
          clear hKK
          go_wp2_with fail
          refine hKH.out _ _ ?_
          clear hKH KK
          clear q1 q2
          have hLG := HLG.out u.data.toList hEE (by rw [← HD.out]; simpa using hz)
          have hp8 := hPa w7 K7 d.data.toList
          rw [HD.out, hLG.1, hLG.2, ← HD.out, bs_of] at hp8
          clear hPa hLG
          refine wp_seq_k (fun KK hKK => ?_)
          have hKH : Hid _ := hKK
          clear hKK
          go_wp2_with (go_at_call 6; refine hp8.mono ?_; clear hp8; rintro e v8 ⟨p8, c8, x8, rfl, -, -, k8⟩)
          refine hKH.out _ _ ?_
          clear hKH KK
          obtain ⟨w8, hw8⟩ : ∃ w8, w8 = v8.alloc (.cells #[.int .i64 231, .int .i64 (L : Int), .int .i64 (C : Int)] 25) := ⟨_, rfl⟩
          have kw8 : Keeps (fun _ => False) v8 w8 := by rw [hw8]; exact (Keeps.refl _ v8).alloc _
          have cw8 : CL w8 v8.heap.size [.int .i64 231, .int .i64 (L : Int), .int .i64 (C : Int)] := by rw [hw8]; exact CL.made v8 _ _
          rw [show v8.alloc (.cells #[.int .i64 231, .int .i64 (L : Int), .int .i64 (C : Int)] 25) = w8 from hw8.symm]
          clear hw8
          have k78 := k8.trans kw8
          have c38 := c37.keep (by show 0 < 3; decide) k78 (fun e => e)
          have f0 := c38.c 0 _ rfl
          have f1 := c38.c 1 _ rfl
          have f2 := c38.c 2 _ rfl
          have g0 := cw8.c 0 _ rfl
          have g1 := cw8.c 1 _ rfl
          have g2 := cw8.c 2 _ rfl
          have e1 : ((L : Int) == (L : Int)) = true := by simp
          have e2 : ((C : Int) == (C : Int)) = true := by simp
          have e3 : (L == L) = true := by simp
          have e4 : (C == C) = true := by simp
          go_wp2_with fail
          go_ret
          exact ⟨rfl, (K7.trans k78).below (Nat.le_refl _) (fun _ _ e => e)⟩
    · injection hhd with e1 hhd
      injection hhd with e2 e3
      subst e1 e2 e3
      refine wp_seq_k (fun KK hKK => ?_)
      have hKH : Hid _ := hKK
      clear hKK
      refine wp_seq_k (fun K2 hK2 => ?_)
      have hKI : Hid _ := hK2
      clear hK2
      go_wp2_with fail
      have g0 := cw5.c 0 _ rfl
      have g1 := cw5.c 1 _ rfl
      have g2 := cw5.c 2 _ rfl
      refine wp_region_held_drew (S := fun w' => Keeps (fun _ => False) w5 w') (by kernel_rfl) (Keeps.refl _ w5).drew (fun hHeld => ?_)
      refine wpAnyH_take (i := 0) (v := ?_) rfl (by kernel_rfl) (by kernel_rfl) (by kernel_rfl) (fun _ _ _ h => h) (Or.inl ⟨by rfl, ?_⟩) (by assumption) ?_
      rotate_left
      · intro wx hSw; have p0 := hSw.cell g0 (fun e => e); have p1 := hSw.cell g1 (fun e => e); have p2 := hSw.cell g2 (fun e => e); clear hSw; go_simp <;> with_reducible rfl
      (try simp only [List.getElem_toArray]); (try simp only [List.getElem_cons_succ]); (try simp only [List.getElem_cons_zero]); (try simp only [Act.put]); (try simp only [List.setIfInBounds_toArray]); (repeat first | simp only [List.set_cons_succ] | simp only [List.set_cons_zero])
      refine wpAnyH_take (i := 1) (v := ?_) rfl (by kernel_rfl) (by kernel_rfl) (by kernel_rfl) (fun _ _ _ h => h) (Or.inl ⟨by rfl, ?_⟩) (by assumption) ?_
      rotate_left
      · intro wx hSw; have p0 := hSw.cell g0 (fun e => e); have p1 := hSw.cell g1 (fun e => e); have p2 := hSw.cell g2 (fun e => e); clear hSw; go_simp <;> with_reducible rfl
      (try simp only [List.getElem_toArray]); (try simp only [List.getElem_cons_succ]); (try simp only [List.getElem_cons_zero]); (try simp only [Act.put]); (try simp only [List.setIfInBounds_toArray]); (repeat first | simp only [List.set_cons_succ] | simp only [List.set_cons_zero])
      refine wpAnyH_take (i := 2) (v := ?_) rfl (by kernel_rfl) (by kernel_rfl) (by kernel_rfl) (fun _ _ _ h => h) (Or.inl ⟨by rfl, ?_⟩) (by assumption) ?_
      rotate_left
      · intro wx hSw; have p0 := hSw.cell g0 (fun e => e); have p1 := hSw.cell g1 (fun e => e); have p2 := hSw.cell g2 (fun e => e); clear hSw; go_simp <;> with_reducible rfl
      (try simp only [List.getElem_toArray]); (try simp only [List.getElem_cons_succ]); (try simp only [List.getElem_cons_zero]); (try simp only [Act.put]); (try simp only [List.setIfInBounds_toArray]); (repeat first | simp only [List.set_cons_succ] | simp only [List.set_cons_zero])
      refine wpAnyH_take (i := 3) (v := ?_) rfl (by kernel_rfl) (by kernel_rfl) (by kernel_rfl) (fun _ _ _ h => h) (Or.inl ⟨by rfl, ?_⟩) (by assumption) ?_
      rotate_left
      · intro wx hSw; have p0 := hSw.cell g0 (fun e => e); have p1 := hSw.cell g1 (fun e => e); have p2 := hSw.cell g2 (fun e => e); clear hSw; go_simp <;> with_reducible rfl
      (try simp only [List.getElem_toArray]); (try simp only [List.getElem_cons_succ]); (try simp only [List.getElem_cons_zero]); (try simp only [Act.put]); (try simp only [List.setIfInBounds_toArray]); (repeat first | simp only [List.set_cons_succ] | simp only [List.set_cons_zero])
      refine wpAnyH_take (i := 4) (v := ?_) rfl (by kernel_rfl) (by kernel_rfl) (by kernel_rfl) (fun _ _ _ h => h) (Or.inl ⟨by rfl, ?_⟩) (by assumption) ?_
      rotate_left
      · intro wx hSw; have p0 := hSw.cell g0 (fun e => e); have p1 := hSw.cell g1 (fun e => e); have p2 := hSw.cell g2 (fun e => e); clear hSw; go_simp <;> with_reducible rfl
      (try simp only [List.getElem_toArray]); (try simp only [List.getElem_cons_succ]); (try simp only [List.getElem_cons_zero]); (try simp only [Act.put]); (try simp only [List.setIfInBounds_toArray]); (repeat first | simp only [List.set_cons_succ] | simp only [List.set_cons_zero])
      refine wpAnyH_take (i := 5) (v := ?_) rfl (by kernel_rfl) (by kernel_rfl) (by kernel_rfl) (fun _ _ _ h => h) (Or.inl ⟨by rfl, ?_⟩) (by assumption) ?_
      rotate_left
      · intro wx hSw; have p0 := hSw.cell g0 (fun e => e); have p1 := hSw.cell g1 (fun e => e); have p2 := hSw.cell g2 (fun e => e); clear hSw; go_simp <;> with_reducible rfl
      (try simp only [List.getElem_toArray]); (try simp only [List.getElem_cons_succ]); (try simp only [List.getElem_cons_zero]); (try simp only [Act.put]); (try simp only [List.setIfInBounds_toArray]); (repeat first | simp only [List.set_cons_succ] | simp only [List.set_cons_zero])
      refine wpAnyH_take (i := 6) (v := ?_) rfl (by kernel_rfl) (by kernel_rfl) (by kernel_rfl) (fun _ _ _ h => h) (Or.inl ⟨by rfl, ?_⟩) (by assumption) ?_
      rotate_left
      · intro wx hSw; have p0 := hSw.cell g0 (fun e => e); have p1 := hSw.cell g1 (fun e => e); have p2 := hSw.cell g2 (fun e => e); clear hSw; go_simp <;> with_reducible rfl
      (try simp only [List.getElem_toArray]); (try simp only [List.getElem_cons_succ]); (try simp only [List.getElem_cons_zero]); (try simp only [Act.put]); (try simp only [List.setIfInBounds_toArray]); (repeat first | simp only [List.set_cons_succ] | simp only [List.set_cons_zero])
      refine wpAnyH_take (i := 7) (v := ?_) rfl (by kernel_rfl) (by kernel_rfl) (by kernel_rfl) (fun _ _ _ h => h) (Or.inl ⟨by rfl, ?_⟩) (by assumption) ?_
      rotate_left
      · intro wx hSw; have p0 := hSw.cell g0 (fun e => e); have p1 := hSw.cell g1 (fun e => e); have p2 := hSw.cell g2 (fun e => e); clear hSw; go_simp <;> with_reducible rfl
      (try simp only [List.getElem_toArray]); (try simp only [List.getElem_cons_succ]); (try simp only [List.getElem_cons_zero]); (try simp only [Act.put]); (try simp only [List.setIfInBounds_toArray]); (repeat first | simp only [List.set_cons_succ] | simp only [List.set_cons_zero])
      refine wpAnyH_take (i := 8) (v := ?_) rfl (by kernel_rfl) (by kernel_rfl) (by kernel_rfl) (fun _ _ _ h => h) (Or.inl ⟨by rfl, ?_⟩) (by assumption) ?_
      rotate_left
      · intro wx hSw; have p0 := hSw.cell g0 (fun e => e); have p1 := hSw.cell g1 (fun e => e); have p2 := hSw.cell g2 (fun e => e); clear hSw; go_simp <;> with_reducible rfl
      (try simp only [List.getElem_toArray]); (try simp only [List.getElem_cons_succ]); (try simp only [List.getElem_cons_zero]); (try simp only [Act.put]); (try simp only [List.setIfInBounds_toArray]); (repeat first | simp only [List.set_cons_succ] | simp only [List.set_cons_zero])
      refine wpAnyH_take (i := 9) (v := ?_) rfl (by kernel_rfl) (by kernel_rfl) (by kernel_rfl) (fun _ _ _ h => h) (Or.inl ⟨by rfl, ?_⟩) (by assumption) ?_
      rotate_left
      · intro wx hSw; have p0 := hSw.cell g0 (fun e => e); have p1 := hSw.cell g1 (fun e => e); have p2 := hSw.cell g2 (fun e => e); clear hSw; go_simp <;> with_reducible rfl
      (try simp only [List.getElem_toArray]); (try simp only [List.getElem_cons_succ]); (try simp only [List.getElem_cons_zero]); (try simp only [Act.put]); (try simp only [List.setIfInBounds_toArray]); (repeat first | simp only [List.set_cons_succ] | simp only [List.set_cons_zero])
      refine wpAnyH_take (i := 10) (v := ?_) rfl (by kernel_rfl) (by kernel_rfl) (by kernel_rfl) (fun _ _ _ h => h) (Or.inl ⟨by rfl, ?_⟩) (by assumption) ?_
      rotate_left
      · intro wx hSw; have p0 := hSw.cell g0 (fun e => e); have p1 := hSw.cell g1 (fun e => e); have p2 := hSw.cell g2 (fun e => e); clear hSw; go_simp <;> with_reducible rfl
      (try simp only [List.getElem_toArray]); (try simp only [List.getElem_cons_succ]); (try simp only [List.getElem_cons_zero]); (try simp only [Act.put]); (try simp only [List.setIfInBounds_toArray]); (repeat first | simp only [List.set_cons_succ] | simp only [List.set_cons_zero])
      refine wpAnyH_take (i := 12) (v := ?_) rfl (by kernel_rfl) (by kernel_rfl) (by kernel_rfl) (fun _ _ _ h => h) (Or.inl ⟨by rfl, ?_⟩) (by assumption) ?_
      rotate_left
      · intro wx hSw; have p0 := hSw.cell g0 (fun e => e); have p1 := hSw.cell g1 (fun e => e); have p2 := hSw.cell g2 (fun e => e); clear hSw; go_simp <;> with_reducible rfl
      (try simp only [List.getElem_toArray]); (try simp only [List.getElem_cons_succ]); (try simp only [List.getElem_cons_zero]); (try simp only [Act.put]); (try simp only [List.setIfInBounds_toArray]); (repeat first | simp only [List.set_cons_succ] | simp only [List.set_cons_zero])
      have hO5 := hO2 w5.drew
      rw [← HX.out] at hO5
      refine wpAnyH_oneG 11 (by kernel_rfl) rfl (by rfl) ?_
      refine wp_call3' 12 _ _ _ rfl _ _ _ rfl rfl rfl (fun _ _ => rfl) (hO5.mono ?_)
      rintro e w6 ⟨rfl, rfl⟩
      refine ⟨_, rfl, hHeld, fun hS6 => ?_⟩
      (try simp only [List.getElem_toArray]); (try simp only [List.getElem_cons_succ]); (try simp only [List.getElem_cons_zero]); (try simp only [Act.put]); (try simp only [List.setIfInBounds_toArray]); (repeat first | simp only [List.set_cons_succ] | simp only [List.set_cons_zero])
      have e5 : ((n : Int) != (n : Int)) = false := by simp
      refine wpAnyH_take (i := 13) (v := ?_) rfl (by kernel_rfl) (by kernel_rfl) (by kernel_rfl) (fun _ _ _ h => h) (Or.inl ⟨by rfl, ?_⟩) (by assumption) ?_
      rotate_left
      · intro wx hSw; have p0 := hSw.cell g0 (fun e => e); have p1 := hSw.cell g1 (fun e => e); have p2 := hSw.cell g2 (fun e => e); clear hSw; go_simp <;> with_reducible rfl
      (try simp only [List.getElem_toArray]); (try simp only [List.getElem_cons_succ]); (try simp only [List.getElem_cons_zero]); (try simp only [Act.put]); (try simp only [List.setIfInBounds_toArray]); (repeat first | simp only [List.set_cons_succ] | simp only [List.set_cons_zero])
      refine wpAnyH_take (i := 14) (v := ?_) rfl (by kernel_rfl) (by kernel_rfl) (by kernel_rfl) (fun _ _ _ h => h) (Or.inl ⟨by rfl, ?_⟩) (by assumption) ?_
      rotate_left
      · intro wx hSw; have p0 := hSw.cell g0 (fun e => e); have p1 := hSw.cell g1 (fun e => e); have p2 := hSw.cell g2 (fun e => e); clear hSw; go_simp <;> with_reducible rfl
      (try simp only [List.getElem_toArray]); (try simp only [List.getElem_cons_succ]); (try simp only [List.getElem_cons_zero]); (try simp only [Act.put]); (try simp only [List.setIfInBounds_toArray]); (repeat first | simp only [List.set_cons_succ] | simp only [List.set_cons_zero])
      refine wpAnyH_done (by kernel_rfl) ?_ _
      refine hKI.out _ _ ?_
      clear hKI
      go_wp2_with fail
      refine hKH.out _ _ ?_
      clear hKH
      have K7 : Keeps (fun _ => False) w w5.drew := K5.trans hHeld
      have c37 := c35.keep (by show 0 < 3; decide) hHeld (fun e => e)
      have cw5 := cw5.keep (by show 0 < 3; decide) hHeld (fun e => e)
      generalize w5.drew = w7 at *
      clear g0 g1 g2 c35 K5 hHeld hO2
      obtain ⟨d, hd⟩ : ∃ d : ByteArray, d = s ++ ⟨#[10]⟩ ++ u := ⟨_, rfl⟩
      have hdl : d.data.toList = s.data.toList ++ 10 :: u.data.toList := by rw [hd, app_listR, app_listR]; simp
      have hds : d.size = s.size + 1 + u.size := by rw [hd, ByteArray.size_append, ByteArray.size_append]; rfl
      have hs1 : (s ++ (⟨#[10]⟩ : ByteArray)).size = s.size + 1 := by rw [ByteArray.size_append]; rfl
      have h1 : ¬ (9223372036854775807 < s.size + 1) := by omega
      have h2 : ¬ (s.size + 1 > 9223372036854775807) := by omega
      have h3 : ¬ (9223372036854775807 < s.size + 1 + u.size) := by omega
      have h4 : ¬ (s.size + 1 + u.size > 9223372036854775807) := by omega
      have h5 : ¬ ((s ++ (⟨#[10]⟩ : ByteArray)).size + u.size > 9223372036854775807) := by omega
      have h6 : ¬ (s.size + (⟨#[10]⟩ : ByteArray).size > 9223372036854775807) := h2
      have HD : Hid (_ = _) := hdl
      clear hdl
      refine wp_seq_k (fun KK hKK => ?_)
      have hKH : Hid _ := hKK
      clear hKK
      go_wp2_with fail
      rw [← hd]
      refine hKH.out _ _ ?_
      clear hKH KK
      clear hd h1 h2 h3 h4 h5 h6 hs1
      by_cases hEE : E = []
      · have hAs := HEM.out hEE
        have hns : n = s.size := by rw [← hn, hAs]; simp
        have q1 : ((n : Int) == (s.size : Int)) = true := by rw [hns]; simp
        have q2 : (n == s.size) = true := by rw [hns]; simp
        have g0 := cw5.c 0 _ rfl
        go_wp2_with fail
        go_ret
        exact ⟨rfl, K7.below (Nat.le_refl _) (fun _ _ e => e)⟩
      · have hns := HNL.out hEE
        have q1 : ((n : Int) == (s.size : Int)) = false := by rw [beq_eq_false_iff_ne]; omega
        have q2 : (n == s.size) = false := by rw [beq_eq_false_iff_ne]; omega
        refine wp_seq_k (fun KK hKK => ?_)
        have hKH : Hid _ := hKK
        clear hKK
        go_wp2_with fail
        refine hKH.out _ _ ?_
        clear hKH KK
        clear q1 q2
        rcases Nat.lt_or_ge 32768 d.size with hz | hz
        · have q1 : decide (32768 < (d.size : Int)) = true := decide_eq_true (by omega)
          have q2 : decide (32768 < d.size) = true := decide_eq_true hz
          go_wp2_with fail
          go_ret
          exact ⟨rfl, K7.below (Nat.le_refl _) (fun _ _ e => e)⟩
        · have q1 : decide (32768 < (d.size : Int)) = false := decide_eq_false (by omega)
          have q2 : decide (32768 < d.size) = false := decide_eq_false (by omega)
          refine wp_seq_k (fun KK hKK => ?_)
          have hKH : Hid _ := hKK
          clear hKK
          go_wp2_with fail
          refine hKH.out _ _ ?_
          clear hKH KK
          clear q1 q2
          have hLG := HLG.out u.data.toList hEE (by rw [← HD.out]; simpa using hz)
          have hp8 := hPa w7 K7 d.data.toList
          rw [HD.out, hLG.1, hLG.2, ← HD.out, bs_of] at hp8
          clear hPa hLG
          refine wp_seq_k (fun KK hKK => ?_)
          have hKH : Hid _ := hKK
          clear hKK
          go_wp2_with (go_at_call 6; refine hp8.mono ?_; clear hp8; rintro e v8 ⟨p8, c8, x8, rfl, -, -, k8⟩)
          refine hKH.out _ _ ?_
          clear hKH KK
          obtain ⟨w8, hw8⟩ : ∃ w8, w8 = v8.alloc (.cells #[.int .i64 231, .int .i64 (L : Int), .int .i64 (C : Int)] 25) := ⟨_, rfl⟩
          have kw8 : Keeps (fun _ => False) v8 w8 := by rw [hw8]; exact (Keeps.refl _ v8).alloc _
          have cw8 : CL w8 v8.heap.size [.int .i64 231, .int .i64 (L : Int), .int .i64 (C : Int)] := by rw [hw8]; exact CL.made v8 _ _
          rw [show v8.alloc (.cells #[.int .i64 231, .int .i64 (L : Int), .int .i64 (C : Int)] 25) = w8 from hw8.symm]
          clear hw8
          have k78 := k8.trans kw8
          have c38 := c37.keep (by show 0 < 3; decide) k78 (fun e => e)
          have f0 := c38.c 0 _ rfl
          have f1 := c38.c 1 _ rfl
          have f2 := c38.c 2 _ rfl
          have g0 := cw8.c 0 _ rfl
          have g1 := cw8.c 1 _ rfl
          have g2 := cw8.c 2 _ rfl
          have e1 : ((L : Int) == (L : Int)) = true := by simp
          have e2 : ((C : Int) == (C : Int)) = true := by simp
          have e3 : (L == L) = true := by simp
          have e4 : (C == C) = true := by simp
          go_wp2_with fail
          go_ret
          exact ⟨rfl, (K7.trans k78).below (Nat.le_refl _) (fun _ _ e => e)⟩
end Go.Proofs.YtckjnjdmnhmgeaaGreatDoor
