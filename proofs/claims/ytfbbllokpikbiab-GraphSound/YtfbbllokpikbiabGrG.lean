import Derived.Test.YtfbbllokpikbiabGrF
namespace Go.Proofs.Ytfbbllokpikbiab
open Go.RowKit Go.Deep
attribute [local go_sem] Oper.semAt_some run_store_nf run_store_f
def nms (d : Nat → Nat) : Nat → Value := fun i => .int .i64 (d i : Int)
/-- What away answers. -/
def AwP (g : List Eg) (n a : Nat) (w : World) (e : Ending) (w' : World) : Prop := ∃ d : Nat → Nat, e = .returned (.slice (some ⟨w.heap.size, 0, none⟩) n n) ∧ FB w' w.heap.size n (nms d) ∧ Aw g n a d ∧ AwF g a d ∧ Keeps (fun _ => False) w w'
/-- A place of a pass. -/
structure AwI (g : List Eg) (n a : Nat) (d d' : Nat → Nat) (ag : Bool) (i : Nat) : Prop where
  aw : Aw g n a d'
  f : ag = false → d' = d ∧ ∀ e ∈ g.take i, d e.f ≤ awK a d e
  t : ag = true → sm d' n < sm d n
theorem AwI.le {g : List Eg} {n a : Nat} {d d' : Nat → Nat} {ag : Bool} {i : Nat} (h : AwI g n a d d' ag i) : sm d' n ≤ sm d n := by
  cases ag with
  | true => exact Nat.le_of_lt (h.t rfl)
  | false => rw [(h.f rfl).1]; exact Nat.le_refl _
theorem AwI.stay {g : List Eg} {n a : Nat} {d d' : Nat → Nat} {ag : Bool} {i : Nat} (h : AwI g n a d d' ag i) (hi : i < g.length) (hl : ¬ awK a d' (g.getD i eg0) < d' (g.getD i eg0).f) : AwI g n a d d' ag (i + 1) :=
  ⟨h.aw, fun q => by
    obtain ⟨e, h2⟩ := h.f q
    refine ⟨e, fun c hc => ?_⟩
    rw [take_eg hi] at hc
    rcases List.mem_append.1 hc with hc | hc
    · exact h2 c hc
    · simp only [List.mem_singleton] at hc
      subst hc
      rw [← e]
      omega, h.t⟩
theorem AwI.go {g : List Eg} {n a : Nat} {d d' : Nat → Nat} {ag : Bool} {i : Nat} (h : AwI g n a d d' ag i) (hn : Bln g n) (hi : i < g.length) (hl : awK a d' (g.getD i eg0) < d' (g.getD i eg0).f) : AwI g n a d (upD d' (g.getD i eg0).f (awK a d' (g.getD i eg0))) true (i + 1) :=
  ⟨h.aw.next hn (eg_at hi).2 hl, (fun q => by cases q), fun _ => by
    have h1 := (sm_up hl n).1 (hn _ (eg_at hi).2).1
    have h2 := h.le
    omega⟩
theorem fb_upD {w : World} {b n : Nat} {d : Nat → Nat} {x k : Nat} (h : FB w b n (upV (nms d) x (.int .i64 (k : Int)))) : FB w b n (nms (upD d x k)) := h.congr (fun i _ => by unfold upV nms upD; split <;> rfl)
set_option maxHeartbeats 1000000 in
set_option maxRecDepth 100000 in
theorem away_any {w : World} {ea : Option Addr} {cap n a : Nat} {g : List Eg} (hl : EL w ea (g.map Eg.ed)) (hb : Bln g n) (hn : n ≤ 4096) (hlen : g.length ≤ 4398046511104) : Calls Try.prog 26 #[.int .i64 (n : Int), .slice ea g.length cap, .int .i64 (a : Int)] w (AwP g n a w) := by
  have HL : Hid (EL w ea (g.map Eg.ed)) := hl
  have HB : Hid (Bln g n) := hb
  have HP : Hid (∀ d w', FB w' w.heap.size n (nms d) → Aw g n a d → AwF g a d → Keeps (fun _ => False) w w' → AwP g n a w (.returned (.slice (some ⟨w.heap.size, 0, none⟩) n n)) w') := fun d w' h1 h2 h3 h4 => ⟨d, rfl, h1, h2, h3, h4⟩
  clear hl hb
  obtain ⟨W1, hW1⟩ : ∃ W1, W1 = w.alloc (.cells (madeCells #[.int .i64 0] n) 3) := ⟨_, rfl⟩
  have hmk : (Instr.makeSlice 23 (.int .i64 (n : Int)) (.int .i64 (n : Int))).run Try.prog w = .ok (.slice (some ⟨w.heap.size, 0, none⟩) n n) W1 := by
    rw [hW1]
    exact run_make_row' (P := Try.prog) 23 3 (.int .i64 0) 8 Try.underlying23 iI rfl .i64 .i64 n (by omega) (by omega) w
  have k1 : Keeps (fun _ => False) w W1 := by rw [hW1]; exact (Keeps.refl _ w).alloc _
  have HF1 : Hid (FB W1 w.heap.size n (fun _ => .int .i64 0)) := by rw [hW1]; exact FB.made w n (.int .i64 0) 3
  have z1 : w.heap.size < W1.heap.size := by rw [hW1]; simp
  clear hW1
  generalize hN : g.length = N at *
  have HN : Hid (g.length = N) := hN
  clear hN
  go_enter Try.func26, Try.ntmps26
  go_wp2_with fail
  go_loopw [8] (fun iv Wr => ∃ (i : Nat) (F : Nat → Value), iv = .int .i64 (i : Int) ∧ i ≤ n ∧ FB Wr w.heap.size n F ∧ (∀ p, p < i → F p = .int .i64 1073741824) ∧ Keeps (fun _ => False) w Wr) (fun iv _ => n - (intOf iv).toNat)
  case atStart => exact ⟨0, _, rfl, Nat.zero_le _, HF1.out, fun p hp => absurd hp (by omega), k1⟩
  case round =>
    obtain ⟨i, F, rfl, hi, hF, hp, kr⟩ := hrel
    have HPP : Hid (∀ p, p < i → F p = .int .i64 1073741824) := hp
    clear hp HF1 k1
    by_cases hlt : i < n
    · have j1 : decide ((i : Int) < (n : Int)) = true := decide_eq_true (by omega)
      have j2 : decide (i < n) = true := decide_eq_true hlt
      have j3 : (i : Int) < (n : Int) := by omega
      have j4 : (0 : Int) ≤ (i : Int) := by omega
      have hwi : IntKind.i64.wrap ((i : Int) + 1) = (i : Int) + 1 := by rw [IntKind.wrap_i64]; omega
      go_wp2_with (refine wpList_store_fi rfl rfl _ _ rfl w.heap.size i rfl 1073741824 rfl hF hlt ?_; intro w2 hf2 k2 hz2; clear hz2 hF)
      go_roundw
      case rel => exact ⟨i + 1, _, by go_num, by omega, hf2, fun p hp => by
          unfold upV
          split
          · rfl
          · exact HPP.out p (by omega), kr.trans' k2 (fun _ _ e => e) (fun j hj e => by have e : j = w.heap.size := e; omega)⟩
      case measure => simp [intOf]; omega
    · have j1 : decide ((i : Int) < (n : Int)) = false := decide_eq_false (by omega)
      have j2 : decide (i < n) = false := decide_eq_false hlt
      have HF2 : Hid (FB wr w.heap.size n (nms (fun _ => 1073741824))) := hF.congr (fun p hp => HPP.out p (by omega))
      have HA0 : Hid (Aw g n a (fun _ => 1073741824)) := ⟨fun _ _ => Nat.le_refl _, fun _ _ h => absurd h (by decide)⟩
      clear hF HPP hlt
      go_wp2_with fail
      go_loopg [9] (sm (fun _ => 1073741824) n + 1) (fun gh av Wr => ∃ (ag : Bool) (d : Nat → Nat), av = .bool ag ∧ FB Wr w.heap.size n (nms d) ∧ Aw g n a d ∧ (ag = false → AwF g a d) ∧ (ag = true → gh = sm d n + 1) ∧ Keeps (fun _ => False) w Wr)
      case atStart => exact ⟨true, _, rfl, HF2.out, HA0.out, (fun q => by cases q), fun _ => rfl, kr⟩
      case round =>
        obtain ⟨ag, d, rfl, hF, hA, hAF, hgh, kq⟩ := hrel
        clear HF2 HA0 kr
        cases ag with
        | false =>
          have HPX : Hid (AwP g n a w (.returned (.slice (some ⟨w.heap.size, 0, none⟩) n n)) wr) := HP.out d _ hF hA (hAF rfl) kq
          clear hAF hF hA hgh
          go_wp2_with fail
          go_ret
          exact HPX.out
        | true =>
          have hgk := hgh rfl
          have HGK : Hid (gk = sm d n + 1) := hgk
          have HI0 : Hid (AwI g n a d d false 0) := ⟨hA, fun _ => ⟨rfl, fun e he => by simp at he⟩, fun q => by cases q⟩
          have HF3 : Hid (FB wr w.heap.size n (nms d)) := hF
          clear hAF hF hA hgh hgk
          go_wp2_with fail
          go_loopw [9, 10] (fun av iv Wx => ∃ (i : Nat) (ag : Bool) (d' : Nat → Nat), av = .bool ag ∧ iv = .int .i64 (i : Int) ∧ i ≤ N ∧ FB Wx w.heap.size n (nms d') ∧ AwI g n a d d' ag i ∧ Keeps (fun _ => False) w Wx) (fun _ iv _ => N - (intOf iv).toNat)
          case atStart => exact ⟨0, false, d, rfl, rfl, Nat.zero_le _, HF3.out, HI0.out, kq⟩
          case round =>
            obtain ⟨i, ag, d', rfl, rfl, hi2, hF, hI, kr⟩ := hrel
            have HI : Hid (AwI g n a d d' ag i) := hI
            clear hI HF3 HI0 kq
            by_cases hlt : i < N
            · have j1 : decide ((i : Int) < (N : Int)) = true := decide_eq_true (by omega)
              have j2 : decide (i < N) = true := decide_eq_true hlt
              have j3 : (i : Int) < (N : Int) := by omega
              have j4 : (0 : Int) ≤ (i : Int) := by omega
              have hwi : IntKind.i64.wrap ((i : Int) + 1) = (i : Int) + 1 := by rw [IntKind.wrap_i64]; omega
              have hil : i < g.length := by rw [HN.out]; exact hlt
              obtain ⟨b, off, rfl, hc⟩ := HL.out i (by rw [List.length_map]; exact hil)
              rw [(eg_at hil).1] at hc
              have p0 : ∀ u : KS wr, u.1.cell? ⟨b, off + i * 4, none⟩ = some (.int .i64 ((g.getD i eg0).f : Int)) := ks_cell (kr.cell (hc 0 _ rfl) (fun e => e))
              have p1 : ∀ u : KS wr, u.1.cell? ⟨b, off + i * 4 + 1, none⟩ = some (.int .i64 ((g.getD i eg0).t : Int)) := ks_cell (kr.cell (hc 1 _ rfl) (fun e => e))
              have hin := HB.out _ (eg_at hil).2
              have HST : Hid (¬ awK a d' (g.getD i eg0) < d' (g.getD i eg0).f → AwI g n a d d' ag (i + 1)) := fun q => HI.out.stay hil q
              have HGO : Hid (awK a d' (g.getD i eg0) < d' (g.getD i eg0).f → AwI g n a d (upD d' (g.getD i eg0).f (awK a d' (g.getD i eg0))) true (i + 1)) := fun q => HI.out.go HB.out hil q
              have hdu := HI.out.aw.u _ hin.1
              have hdv := HI.out.aw.u _ hin.2
              have hAK : awK a d' (g.getD i eg0) = if (g.getD i eg0).t = a then 1 else d' (g.getD i eg0).t + 1 := rfl
              clear hc hil
              generalize g.getD i eg0 = c at *
              obtain ⟨cu, cv, ck, co⟩ := c
              dsimp only at p0 p1 hin HST HGO hdu hdv hAK
              obtain ⟨hcu, hcv⟩ := hin
              generalize hk : awK a d' ⟨cu, cv, ck, co⟩ = K at *
              have n1 : (0 : Int) ≤ (cu : Int) := by omega
              have n2 : (cu : Int) < (n : Int) := by omega
              have n3 : (0 : Int) ≤ (cv : Int) := by omega
              have n4 : (cv : Int) < (n : Int) := by omega
              have hFu : ∀ Wz, Keeps (fun _ => False) wr Wz → FB Wz w.heap.size n (nms d') := fun Wz k => hF.keep k (fun e => e)
              have HFU : Hid _ := hFu
              have HKR : Hid (Keeps (fun _ => False) w wr) := kr
              clear hFu hF kr hk
              have hne : Nonempty (KS wr) := ⟨⟨wr, Keeps.refl _ wr⟩⟩
              go_wp2_with fail
              refine wp_region_ks (by kernel_rfl) (by kernel_rfl) ?_
              (repeat (first | go_big_quiet_skip | go_big_quiet_step (fail)))
              refine wpQuiet_nil ?_
              rintro _ ⟨u, rfl⟩
              have ku := HKR.out.trans u.property
              have hFx := HFU.out _ u.property
              clear p0 p1 HFU hne
              generalize u.val = wu at *
              have y0 : wu.cell? ⟨w.heap.size, cu, none⟩ = some (.int .i64 (d' cu : Int)) := hFx.c cu hcu
              have y1 : wu.cell? ⟨w.heap.size, cv, none⟩ = some (.int .i64 (d' cv : Int)) := hFx.c cv hcv
              have HFD : Hid (∀ w2 (k : Nat), FB w2 w.heap.size n (upV (nms d') cu (.int .i64 (k : Int))) → FB w2 w.heap.size n (nms (upD d' cu k))) := fun w2 k h => fb_upD h
              have HST2 : Hid (¬ K < d' cu → AwI g n a d d' ag (i + 1) ∧ FB wu w.heap.size n (nms d')) := fun q => ⟨HST.out q, hFx⟩
              have HGO2 : Hid (∀ w2, K < d' cu → FB w2 w.heap.size n (upV (nms d') cu (.int .i64 (K : Int))) → ∃ d2, AwI g n a d d2 true (i + 1) ∧ FB w2 w.heap.size n (nms d2)) := fun w2 q h => ⟨_, HGO.out q, fb_upD h⟩
              clear HST HGO HFD
              generalize d' cu = x at *
              generalize d' cv = y at *
              have hw : IntKind.i64.wrap ((y : Int) + 1) = (y : Int) + 1 := by rw [IntKind.wrap_i64]; omega
              by_cases hva : cv = a
              · have s1 : ((cv : Int) == (a : Int)) = true := by simp [hva]
                have s2 : (cv == a) = true := by simp [hva]
                rw [if_pos hva] at hAK
                clear hva
                subst hAK
                by_cases hlx : 1 < x
                · have d1 : decide ((1 : Int) < (x : Int)) = true := decide_eq_true (by omega)
                  have d2 : decide (1 < x) = true := decide_eq_true hlx
                  go_wp2_with (refine wpList_store_fi rfl rfl _ _ rfl w.heap.size cu rfl 1 rfl hFx hcu ?_; intro w2 hf2 k2 hz2; clear hz2 hFx y0 y1)
                  go_roundw
                  case rel =>
                    obtain ⟨d2, q1, q2⟩ := HGO2.out w2 hlx hf2
                    exact ⟨i + 1, true, d2, rfl, by go_num, by omega, q2, q1, ku.trans' k2 (fun _ _ e => e) (fun j hj e => by have e : j = w.heap.size := e; omega)⟩
                  case measure => simp [intOf]; omega
                · have d1 : decide ((1 : Int) < (x : Int)) = false := decide_eq_false (by omega)
                  have d2 : decide (1 < x) = false := decide_eq_false hlx
                  go_wp2_with fail
                  go_roundw
                  case rel => exact ⟨i + 1, ag, d', rfl, by go_num, by omega, (HST2.out hlx).2, (HST2.out hlx).1, ku⟩
                  case measure => simp [intOf]; omega
              · have s1 : ((cv : Int) == (a : Int)) = false := by rw [beq_eq_false_iff_ne]; omega
                have s2 : (cv == a) = false := by rw [beq_eq_false_iff_ne]; exact hva
                rw [if_neg hva] at hAK
                clear hva
                subst hAK
                by_cases hlx : y + 1 < x
                · have d1 : decide ((y : Int) + 1 < (x : Int)) = true := decide_eq_true (by omega)
                  have d2 : decide (y + 1 < x) = true := decide_eq_true hlx
                  go_wp2_with (refine wpList_store_fi rfl rfl _ _ rfl w.heap.size cu rfl ((y : Int) + 1) rfl hFx hcu ?_; intro w2 hf2 k2 hz2; clear hz2 hFx y0 y1)
                  go_roundw
                  case rel =>
                    obtain ⟨d2, q1, q2⟩ := HGO2.out w2 hlx hf2
                    exact ⟨i + 1, true, d2, rfl, by go_num, by omega, q2, q1, ku.trans' k2 (fun _ _ e => e) (fun j hj e => by have e : j = w.heap.size := e; omega)⟩
                  case measure => simp [intOf]; omega
                · have d1 : decide ((y : Int) + 1 < (x : Int)) = false := decide_eq_false (by omega)
                  have d2 : decide (y + 1 < x) = false := decide_eq_false hlx
                  go_wp2_with fail
                  go_roundw
                  case rel => exact ⟨i + 1, ag, d', rfl, by go_num, by omega, (HST2.out hlx).2, (HST2.out hlx).1, ku⟩
                  case measure => simp [intOf]; omega
            · have j1 : decide ((i : Int) < (N : Int)) = false := decide_eq_false (by omega)
              have j2 : decide (i < N) = false := decide_eq_false hlt
              have hII := HI.out
              have HEND : Hid (∃ gn : Nat, gn < gk ∧ (ag = false → AwF g a d') ∧ (ag = true → gn = sm d' n + 1)) := by
                show ∃ gn, _
                have hgk := HGK.out
                cases ag with
                | false =>
                  obtain ⟨q1, q2⟩ := hII.f rfl
                  refine ⟨0, by omega, fun _ => ?_, (fun q => by cases q)⟩
                  rw [List.take_of_length_le (by rw [HN.out]; omega)] at q2
                  rw [q1]
                  exact q2
                | true =>
                  have := hII.t rfl
                  exact ⟨sm d' n + 1, by omega, (fun q => by cases q), fun _ => rfl⟩
              have HA2 : Hid (Aw g n a d' ∧ FB wr w.heap.size n (nms d')) := ⟨hII.aw, hF⟩
              clear hII hF
              obtain ⟨gn, hgn, HG2⟩ := HEND.out
              have HG3 : Hid ((ag = false → AwF g a d') ∧ (ag = true → gn = sm d' n + 1)) := HG2
              clear HG2 HEND
              go_wp2_with fail
              go_roundg gn
              case measure => exact hgn
              case rel => exact ⟨ag, d', rfl, HA2.out.2, HA2.out.1, HG3.out.1, HG3.out.2, kr⟩
end Go.Proofs.Ytfbbllokpikbiab
