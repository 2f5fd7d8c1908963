import Derived.Test.YtgcfckbmmdajhaaLiR
namespace Go.Proofs.Ytgcfckbmmdajhaa
open Go.RowKit
attribute [local go_sem] Oper.semAt_some run_store_nf run_store_f
theorem OB.trans {w w' : World} {lv lv' lv'' : Value} (h : OB w lv lv') (h' : OB w' lv' lv'') (hs : w.heap.size ≤ w'.heap.size) : OB w lv lv'' := fun g e => (h' g e).elim (h g) (fun e => .inr (by omega))
theorem lt_trans {bc : Nat} {lv lv' : Value} {w w' w'' : World} (k : Keeps (LT bc lv) w w') (o : OB w lv lv') (k' : Keeps (LT bc lv') w' w'') : Keeps (LT bc lv) w w'' := k.trans' k' (fun _ _ e => e) (fun i hi e => e.elim .inl (fun e => (o i e).elim .inr (fun e => by omega)))
theorem okN_in {l : List Cl} {L : List Nat} {S : List Int} {k : Nat} (h : k ∈ L) : okN l L S k = false := by unfold okN; simp [h]
theorem okN_ahead {l : List Cl} {L : List Nat} {S : List Int} {k j : Nat} (h1 : j < l.length) (h2 : ansD (l.getD j cl0) = true) (h3 : (l.getD j cl0).to_ < (l.getD k cl0).from_) (h4 : j ∉ L) : okN l L S k = false := by
  unfold okN
  rw [decide_eq_false (p := ∀ a, a < l.length → ansD (l.getD a cl0) = true → (l.getD a cl0).to_ < (l.getD k cl0).from_ → a ∈ L) (fun h => h4 (h j h1 h2 h3))]
  simp
theorem okN_go {l : List Cl} {L : List Nat} {S : List Int} {k : Nat} (h : goesP (l.getD k cl0) (doesL S (l.getD k cl0)).1 (doesL S (l.getD k cl0)).2.1 = false) : okN l L S k = false := by unfold okN; rw [h]; simp
theorem okN_yes {l : List Cl} {L : List Nat} {S : List Int} {k : Nat} (h1 : k ∉ L) (h2 : ∀ a, a < l.length → ansD (l.getD a cl0) = true → (l.getD a cl0).to_ < (l.getD k cl0).from_ → a ∈ L) (h : goesP (l.getD k cl0) (doesL S (l.getD k cl0)).1 (doesL S (l.getD k cl0)).2.1 = true) : okN l L S k = true := by
  unfold okN
  rw [h, decide_eq_true h1, decide_eq_true h2]
  rfl
set_option maxHeartbeats 600000 in
set_option maxRecDepth 100000 in
theorem fl_any {l : List Cl} {a : Option Addr} {cap bc d : Nat} (hc64 : ∀ c ∈ l, C64 c) (hn : l.length ≤ 8) (ih : ∀ d', d = d' + 1 → FLd l a cap bc d') : FLd l a cap bc d := by
  intro w L S lv mb n f hE hLS hnd hbd hd hS hF hnL hmb hob
  obtain ⟨la, lc, rfl, hPM⟩ := ls_form hLS
  have hlen := nodup_le _ _ hnd hbd
  have e1 := hE.c
  have e2 := hLS.c.c 0 _ rfl
  have hco := complete_any (cap := cap) (lc := lc) hE.cs (by omega) hPM (by omega)
  have HE : Hid (FE l a cap bc w) := hE
  have HLS : Hid (LS bc w (.slice la L.length lc) L) := hLS
  have HLT : Hid (∀ i, LT bc (.slice la L.length lc) i → i = bc + 1 ∨ bc + 3 ≤ i) := hLS.lt
  have HSV : Hid (SV w mb n f ∧ FS S n f) := ⟨hS, hF⟩
  have HND : Hid (L.Nodup ∧ ∀ x ∈ L, x < l.length) := ⟨hnd, hbd⟩
  have HC : Hid (∀ c ∈ l, C64 c) := hc64
  have HIH : Hid (∀ d', d = d' + 1 → FLd l a cap bc d') := ih
  clear hE hLS hS hF hPM hc64 ih hnd hbd
  generalize hN : l.length = N at *
  have HN : Hid (l.length = N) := hN
  clear hN
  generalize hM : L.length = M at *
  have HM : Hid (L.length = M) := hM
  clear hM
  obtain ⟨R, hR⟩ : ∃ R, R = srch l d L S := ⟨_, rfl⟩
  have HR : Hid (R = srch l d L S) := hR
  rw [← hR]
  clear hR
  obtain ⟨lv, hlv⟩ : ∃ lv, lv = Value.slice la M lc := ⟨_, rfl⟩
  rw [← hlv] at HLS HLT hob
  have HOB : Hid (lv.ownBlock ≠ some mb) := hob
  have HLV : Hid (lv = Value.slice la M lc) := hlv
  rw [← hlv]
  clear hlv hob
  go_enter Try.func27, Try.ntmps27
  go_wp2_with fail
  go_step3
  cases hcm : compL l L with
  | true =>
    have HRY : Hid (R = some L) := by show _ = _; rw [HR.out]; exact srch_yes d hcm
    rw [hcm] at hco
    go_wp2_with (go_at_call 28; refine hco.mono ?_; clear hco; rintro e w1 ⟨rfl, k1⟩)
    (try rw [Exit.noGoto_ret])
    go_ret
    exact ⟨lv, by rw [HRY.out]; rfl, by rw [HRY.out]; exact HLS.out.keep k1, k1.mono (fun _ _ e => e.elim), fun g e => .inl e⟩
  | false =>
    rw [hcm] at hco
    have HRH : Hid (∀ k r, k < N → (∀ p, p < k → gN l d L S p = none) → gN l d L S k = some r → R = some r) := fun k r hk h1 h2 => by rw [HR.out]; exact srch_hit hcm (by rw [HN.out]; exact hk) h1 h2
    have HRN : Hid ((∀ p, p < N → gN l d L S p = none) → R = none) := fun h => by rw [HR.out]; exact srch_no hcm (fun p hp => h p (by rw [HN.out] at hp; exact hp))
    clear HR hcm
    refine wp_seq_k (fun KK hKK => ?_)
    have hKH : Hid _ := hKK
    clear hKK
    go_wp2_with (go_at_call 28; refine hco.mono ?_; clear hco; rintro e w1 ⟨rfl, k1⟩; have e1 := k1.cell e1 (fun e => e))
    refine hKH.out _ _ ?_
    clear hKH KK
    go_wp2_with fail
    go_step3
    go_wp2_with fail
    go_loopg [6, 17] N (fun g fv iv Wr => ∃ (k : Nat) (la2 : Option Addr) (lc2 : Nat), k + g = N ∧ fv = .bool false ∧ iv = .int .i64 (k : Int) ∧ OI l d L S bc w lv Wr k (.slice la2 M lc2))
    case atStart => exact ⟨0, la, lc, by omega, rfl, rfl, HLV.out ▸ HLS.out.keep k1, fun p hp => absurd hp (by omega), k1.mono (fun _ _ e => e.elim), fun g e => .inl (by rw [HLV.out]; exact e)⟩
    case round =>
      obtain ⟨k, la2, lc2, hkg, rfl, rfl, hOI⟩ := hrel
      obtain ⟨wo, hwo⟩ : ∃ wo, wo = wr := ⟨_, rfl⟩
      subst hwo
      have HOI : Hid (OI l d L S bc w lv wo k (.slice la2 M lc2)) := hOI
      clear hOI e1 e2 k1
      have e1 := (HE.out.keep HOI.out.k HLT.out).c
      rw [HN.out] at e1
      have e2 := HOI.out.s.c.c 0 _ rfl
      cases gk with
      | succ g =>
        have hlt : k < N := by omega
        have j1 : decide ((k : Int) < (N : Int)) = true := decide_eq_true (by omega)
        have j2 : decide (k < N) = true := decide_eq_true hlt
        have j3 : (k : Int) < (N : Int) := by omega
        have j4 : (0 : Int) ≤ (k : Int) := by omega
        have hwi : IntKind.i64.wrap ((k : Int) + 1) = (k : Int) + 1 := by rw [IntKind.wrap_i64]; omega
        have HFE : Hid (FE l a cap bc wo) := HE.out.keep HOI.out.k HLT.out
        have HCN : Hid (∀ W (x : Nat), Keeps (fun _ => False) wo W → Calls Try.prog 29 #[.slice la2 M lc2, .int .i64 (x : Int)] W fun e w' => e = .returned (.bool (decide (x ∈ L))) ∧ Keeps (fun _ => False) W w') := fun W x kW => by
          have h := contains_any (cap := lc2) ((PM.of (HM.out ▸ HOI.out.s.o)).keep kW) (by rw [HM.out]; omega) x
          rw [HM.out] at h
          exact h
        obtain ⟨b, off, ea, hcc⟩ := HFE.out.cs k (by rw [HN.out]; exact hlt)
        subst ea
        have hR := run_cl (W := wo) hcc
        clear hcc
        have HGN : Hid (okN l L S k = false → gN l d L S k = none) := gN_no
        obtain ⟨c, hcd⟩ : ∃ c, c = l.getD k cl0 := ⟨_, rfl⟩
        have HCD : Hid (c = l.getD k cl0) := hcd
        rw [← hcd] at hR
        clear hcd
        have hOC := all_oneCell_cl c
        obtain ⟨W4, hW4⟩ : ∃ W4, W4 = wo.alloc (.cells #[.int .i64 0, .int .i64 0, .int .i64 0, .bool false, .int .i64 0, .int .i64 0, .int .i64 0, .int .i64 0] 33) := ⟨_, rfl⟩
        have k4 : Keeps (fun _ => False) wo W4 := by rw [hW4]; exact (Keeps.refl _ wo).alloc _
        have hU4 : CL W4 wo.heap.size cl0.cells := by rw [hW4]; exact CL.made wo cl0.cells _
        have HW4 : Hid (W4 = wo.alloc (.cells #[.int .i64 0, .int .i64 0, .int .i64 0, .bool false, .int .i64 0, .int .i64 0, .int .i64 0, .int .i64 0] 33)) := hW4
        clear hW4
        have HZ3 : Hid (bc + 2 < wo.heap.size) := World.block_lt_of_cell? _ _ HFE.out.s
        have HB4 : Hid (bc + 1 < wo.heap.size) := HOI.out.s.c.lt (by show 0 < 1; decide)
        cases hin : decide (k ∈ L) with
        | true =>
          have HG : Hid (gN l d L S k = none) := HGN.out (by unfold okN; simp [of_decide_eq_true hin])
          go_wp2_with (first | (refine wpList_load_runL rfl 33 _ rfl ⟨b, off + k * 8, none⟩ rfl _ hR ?_; clear hR) | (rw [← HW4.out]; clear HW4; refine wpList_store_cl rfl 33 _ _ rfl wo.heap.size 0 8 _ rfl rfl rfl hU4 (by show 8 ≤ 8; decide) iCl hOC ?_; intro w5 hc5 k5 hsz5; clear hsz5; have hI5 : CL w5 wo.heap.size c.cells := hc5; clear hc5; have K45 : Keeps (fun _ => False) wo w5 := k4.trans' k5 (fun _ _ e => e) (fun i hi e => (by have e : i = wo.heap.size := e; omega)); clear k4 k5 hU4; have hcn := HCN.out w5 k K45; rw [hin] at hcn; have e2 := K45.cell e2 (fun e => e)) | (go_at_call 29; refine hcn.mono ?_; clear hcn; rintro e w6 ⟨rfl, k6⟩; skip))
          go_roundg g
          case measure => omega
          case rel => exact ⟨k + 1, la2, lc2, by omega, rfl, by go_num, HOI.out.next (K45.trans k6) HG.out⟩
        | false =>
          go_wp2_with (first | (refine wpList_load_runL rfl 33 _ rfl ⟨b, off + k * 8, none⟩ rfl _ hR ?_; clear hR) | (rw [← HW4.out]; clear HW4; refine wpList_store_cl rfl 33 _ _ rfl wo.heap.size 0 8 _ rfl rfl rfl hU4 (by show 8 ≤ 8; decide) iCl hOC ?_; intro w5 hc5 k5 hsz5; clear hsz5; have hI5 : CL w5 wo.heap.size c.cells := hc5; clear hc5; have K45 : Keeps (fun _ => False) wo w5 := k4.trans' k5 (fun _ _ e => e) (fun i hi e => (by have e : i = wo.heap.size := e; omega)); clear k4 k5 hU4; have hcn := HCN.out w5 k K45; rw [hin] at hcn; have e2 := K45.cell e2 (fun e => e); have e1 := K45.cell e1 (fun e => e)) | (go_at_call 29; refine hcn.mono ?_; clear hcn; rintro e w6 ⟨rfl, k6⟩; have K6 := K45.trans k6; clear K45; replace hI5 := hI5.keep (by show 0 < 8; decide) k6 (fun e => e); have e1 := k6.cell e1 (fun e => e)))
          clear e1 e2
          have HI6 : Hid (CL w6 wo.heap.size c.cells) := hI5
          have HWK : Hid (wo.heap.size < w6.heap.size) := hI5.lt (by show 0 < 8; decide)
          clear hI5
          go_loopg [27] N (fun g2 iv Wx => ∃ (j : Nat), j + g2 = N ∧ iv = .int .i64 (j : Int) ∧ (∀ x, x < j → ansD (l.getD x cl0) = true → (l.getD x cl0).to_ < c.from_ → x ∈ L) ∧ Keeps (fun _ => False) w6 Wx)
          case atStart => exact ⟨0, by omega, rfl, fun x hx => absurd hx (by omega), Keeps.refl _ _⟩
          case round =>
            obtain ⟨j, hjg, rfl, hah, kx⟩ := hrel
            have HAH : Hid (∀ x, x < j → ansD (l.getD x cl0) = true → (l.getD x cl0).to_ < c.from_ → x ∈ L) := hah
            clear hah
            cases gk with
            | succ g2 =>
              have hlj : j < N := by omega
              have m1 : decide ((j : Int) < (N : Int)) = true := decide_eq_true (by omega)
              have m2 : decide (j < N) = true := decide_eq_true hlj
              have m3 : (j : Int) < (N : Int) := by omega
              have m4 : (0 : Int) ≤ (j : Int) := by omega
              have hwj : IntKind.i64.wrap ((j : Int) + 1) = (j : Int) + 1 := by rw [IntKind.wrap_i64]; omega
              obtain ⟨b', off', eb, hcj⟩ := HFE.out.cs j (by rw [HN.out]; exact hlj)
              injection eb with eb
              injection eb with eb1 eb2 _
              subst eb1 eb2
              have hRj := run_cl (W := wr) (fun i v e => (K6.trans kx).cell (hcj i v e) (fun e => e))
              clear hcj
              have e2 := (HOI.out.s.keep (K6.trans kx)).c.c 0 _ rfl
              have cf : wr.cell? ⟨wo.heap.size, 5, none⟩ = some (.int .i64 c.from_) := kx.cell (HI6.out.c 5 _ rfl) (fun e => e)
              have HAHN : Hid ((ansD (l.getD j cl0) = true → (l.getD j cl0).to_ < c.from_ → j ∈ L) → ∀ x, x < j + 1 → ansD (l.getD x cl0) = true → (l.getD x cl0).to_ < c.from_ → x ∈ L) := fun h x hx => by
                by_cases e : x = j
                · rw [e]; exact h
                · exact HAH.out x (by omega)
              have HBAD : Hid (ansD (l.getD j cl0) = true → (l.getD j cl0).to_ < c.from_ → j ∉ L → gN l d L S k = none) := fun h1 h2 h3 => HGN.out (okN_ahead (by rw [HN.out]; exact hlj) h1 (by rw [← HCD.out]; exact h2) h3)
              have HCX : Hid (∀ W, Keeps (fun _ => False) wr W → Calls Try.prog 29 #[.slice la2 M lc2, .int .i64 (j : Int)] W fun e w' => e = .returned (.bool (decide (j ∈ L))) ∧ Keeps (fun _ => False) W w') := fun W kW => HCN.out W j ((K6.trans kx).trans kW)
              have hne2 : ¬ wo.heap.size = wr.heap.size := by have := kx.size; have := HWK.out; omega
              clear HAH
              generalize l.getD j cl0 = x at *
              have hOC := all_oneCell_cl x
              obtain ⟨W4, hW4⟩ : ∃ W4, W4 = wr.alloc (.cells #[.int .i64 0, .int .i64 0, .int .i64 0, .bool false, .int .i64 0, .int .i64 0, .int .i64 0, .int .i64 0] 33) := ⟨_, rfl⟩
              have k4 : Keeps (fun _ => False) wr W4 := by rw [hW4]; exact (Keeps.refl _ wr).alloc _
              have hU4 : CL W4 wr.heap.size cl0.cells := by rw [hW4]; exact CL.made wr cl0.cells _
              have HW4 : Hid (W4 = wr.alloc (.cells #[.int .i64 0, .int .i64 0, .int .i64 0, .bool false, .int .i64 0, .int .i64 0, .int .i64 0, .int .i64 0] 33)) := hW4
              clear hW4
              cases han : ansD x with
              | false =>
                have HX := HAHN.out (fun e => by rw [han] at e; cases e)
                have HXX : Hid _ := HX
                clear HX HAHN HBAD
                go_wp2_with (first | (refine wpList_load_runL rfl 33 _ rfl ⟨b, off + j * 8, none⟩ rfl _ hRj ?_; clear hRj) | (rw [← HW4.out]; clear HW4; refine wpList_store_cl rfl 33 _ _ rfl wr.heap.size 0 8 _ rfl rfl rfl hU4 (by show 8 ≤ 8; decide) iCl hOC ?_; intro w5 hc5 k5 hsz5; clear hsz5; have hI5 : CL w5 wr.heap.size x.cells := hc5; clear hc5; have K45 : Keeps (fun _ => False) wr w5 := k4.trans' k5 (fun _ _ e => e) (fun i hi e => (by have e : i = wr.heap.size := e; omega)); clear k4 k5 hU4; have HR5 := run_clB hI5; have hmb := answered_any w5 x; rw [han] at hmb; have e2 := K45.cell e2 (fun e => e); have cf := K45.cell cf (fun e => e)) | (refine wpList_load_runL rfl 33 _ rfl ⟨wr.heap.size, 0, none⟩ rfl _ HR5 ?_; clear HR5) | (go_at_call 24; refine hmb.mono ?_; clear hmb; rintro e w7 ⟨rfl, k7⟩; have ct : w7.cell? ⟨wr.heap.size, 7, none⟩ = some (.int .i64 x.to_) := (hI5.keep (by show 0 < 8; decide) k7 (fun e => e)).c 7 _ rfl; have cf := k7.cell cf (fun e => e); have e2 := k7.cell e2 (fun e => e); have K7 := K45.trans k7; have hcn := HCX.out w7 K7))
                go_roundg g2
                case measure => omega
                case rel => exact ⟨j + 1, by omega, by go_num, HXX.out, kx.trans K7⟩
              | true =>
                by_cases htf : x.to_ < c.from_
                · have d1 : decide (x.to_ < c.from_) = true := decide_eq_true htf
                  cases hij : decide (j ∈ L) with
                  | true =>
                    have HX := HAHN.out (fun _ _ => of_decide_eq_true hij)
                    have HXX : Hid _ := HX
                    rw [hij] at HCX
                    clear HX HAHN HBAD htf
                    go_wp2_with (first | (refine wpList_load_runL rfl 33 _ rfl ⟨b, off + j * 8, none⟩ rfl _ hRj ?_; clear hRj) | (rw [← HW4.out]; clear HW4; refine wpList_store_cl rfl 33 _ _ rfl wr.heap.size 0 8 _ rfl rfl rfl hU4 (by show 8 ≤ 8; decide) iCl hOC ?_; intro w5 hc5 k5 hsz5; clear hsz5; have hI5 : CL w5 wr.heap.size x.cells := hc5; clear hc5; have K45 : Keeps (fun _ => False) wr w5 := k4.trans' k5 (fun _ _ e => e) (fun i hi e => (by have e : i = wr.heap.size := e; omega)); clear k4 k5 hU4; have HR5 := run_clB hI5; have hmb := answered_any w5 x; rw [han] at hmb; have e2 := K45.cell e2 (fun e => e); have cf := K45.cell cf (fun e => e)) | (refine wpList_load_runL rfl 33 _ rfl ⟨wr.heap.size, 0, none⟩ rfl _ HR5 ?_; clear HR5) | (go_at_call 24; refine hmb.mono ?_; clear hmb; rintro e w7 ⟨rfl, k7⟩; have ct : w7.cell? ⟨wr.heap.size, 7, none⟩ = some (.int .i64 x.to_) := (hI5.keep (by show 0 < 8; decide) k7 (fun e => e)).c 7 _ rfl; have cf := k7.cell cf (fun e => e); have e2 := k7.cell e2 (fun e => e); have K7 := K45.trans k7; have hcn := HCX.out w7 K7) | (go_at_call 29; refine hcn.mono ?_; clear hcn; rintro e w8 ⟨rfl, k8⟩; skip))
                    go_roundg g2
                    case measure => omega
                    case rel => exact ⟨j + 1, by omega, by go_num, HXX.out, (kx.trans K7).trans k8⟩
                  | false =>
                    have HG : Hid (gN l d L S k = none) := HBAD.out han htf (of_decide_eq_false hij)
                    rw [hij] at HCX
                    clear HAHN HBAD htf
                    go_wp2_with (first | (refine wpList_load_runL rfl 33 _ rfl ⟨b, off + j * 8, none⟩ rfl _ hRj ?_; clear hRj) | (rw [← HW4.out]; clear HW4; refine wpList_store_cl rfl 33 _ _ rfl wr.heap.size 0 8 _ rfl rfl rfl hU4 (by show 8 ≤ 8; decide) iCl hOC ?_; intro w5 hc5 k5 hsz5; clear hsz5; have hI5 : CL w5 wr.heap.size x.cells := hc5; clear hc5; have K45 : Keeps (fun _ => False) wr w5 := k4.trans' k5 (fun _ _ e => e) (fun i hi e => (by have e : i = wr.heap.size := e; omega)); clear k4 k5 hU4; have HR5 := run_clB hI5; have hmb := answered_any w5 x; rw [han] at hmb; have e2 := K45.cell e2 (fun e => e); have cf := K45.cell cf (fun e => e)) | (refine wpList_load_runL rfl 33 _ rfl ⟨wr.heap.size, 0, none⟩ rfl _ HR5 ?_; clear HR5) | (go_at_call 24; refine hmb.mono ?_; clear hmb; rintro e w7 ⟨rfl, k7⟩; have ct : w7.cell? ⟨wr.heap.size, 7, none⟩ = some (.int .i64 x.to_) := (hI5.keep (by show 0 < 8; decide) k7 (fun e => e)).c 7 _ rfl; have cf := k7.cell cf (fun e => e); have e2 := k7.cell e2 (fun e => e); have K7 := K45.trans k7; have hcn := HCX.out w7 K7) | (go_at_call 29; refine hcn.mono ?_; clear hcn; rintro e w8 ⟨rfl, k8⟩; skip))
                    go_roundg g
                    case measure => omega
                    case rel => exact ⟨k + 1, la2, lc2, by omega, rfl, by go_num, HOI.out.next (((K6.trans kx).trans K7).trans k8) HG.out⟩
                · have d1 : decide (x.to_ < c.from_) = false := decide_eq_false htf
                  have HX := HAHN.out (fun _ h => absurd h htf)
                  have HXX : Hid _ := HX
                  clear HX HAHN HBAD htf
                  go_wp2_with (first | (refine wpList_load_runL rfl 33 _ rfl ⟨b, off + j * 8, none⟩ rfl _ hRj ?_; clear hRj) | (rw [← HW4.out]; clear HW4; refine wpList_store_cl rfl 33 _ _ rfl wr.heap.size 0 8 _ rfl rfl rfl hU4 (by show 8 ≤ 8; decide) iCl hOC ?_; intro w5 hc5 k5 hsz5; clear hsz5; have hI5 : CL w5 wr.heap.size x.cells := hc5; clear hc5; have K45 : Keeps (fun _ => False) wr w5 := k4.trans' k5 (fun _ _ e => e) (fun i hi e => (by have e : i = wr.heap.size := e; omega)); clear k4 k5 hU4; have HR5 := run_clB hI5; have hmb := answered_any w5 x; rw [han] at hmb; have e2 := K45.cell e2 (fun e => e); have cf := K45.cell cf (fun e => e)) | (refine wpList_load_runL rfl 33 _ rfl ⟨wr.heap.size, 0, none⟩ rfl _ HR5 ?_; clear HR5) | (go_at_call 24; refine hmb.mono ?_; clear hmb; rintro e w7 ⟨rfl, k7⟩; have ct : w7.cell? ⟨wr.heap.size, 7, none⟩ = some (.int .i64 x.to_) := (hI5.keep (by show 0 < 8; decide) k7 (fun e => e)).c 7 _ rfl; have cf := k7.cell cf (fun e => e); have e2 := k7.cell e2 (fun e => e); have K7 := K45.trans k7; have hcn := HCX.out w7 K7))
                  go_roundg g2
                  case measure => omega
                  case rel => exact ⟨j + 1, by omega, by go_num, HXX.out, kx.trans K7⟩
            | zero =>
              have hj : j = N := by omega
              have m1 : decide ((j : Int) < (N : Int)) = false := decide_eq_false (by omega)
              have m2 : decide (j < N) = false := decide_eq_false (by omega)
              have Kor := K6.trans kx
              have hzr := Kor.size
              have HNL : Hid (¬ LT bc lv mb) := fun e => e.elim (fun e => by omega) (fun e => HOB.out e)
              have hSr : SV wr mb n f := (HSV.out.1.keep HOI.out.k HNL.out).keep Kor (fun e => e)
              have hcl := cloneS_any hSr
              have HRC : Hid (∀ W, Keeps (fun _ => False) wr W → (loadVar 33 ⟨wo.heap.size, 0, none⟩).run Try.prog W = .ok (.agg c.cells.toArray) W) := fun W kW => run_clB ((HI6.out.keep (by show 0 < 8; decide) kx (fun e => e)).keep (by show 0 < 8; decide) kW (fun e => e))
              have HCc : Hid (C64 c) := by show C64 c; rw [HCD.out]; exact c64_at HC.out k
              have HGO : Hid (∀ W mb2, SV W mb2 n f → Calls Try.prog 16 #[.map (some mb2), .agg c.cells.toArray] W fun e w' => ∃ n' f', e = .returned (.bool (goesP c (doesL S c).1 (doesL S c).2.1)) ∧ FS (doesL S c).2.2 n' f' ∧ SV w' mb2 n' f' ∧ Keeps (fun i => i = mb2) W w') := fun W mb2 hW => (goesOn_any hW c HCc.out.k HCc.out.o (by omega)).mono (by
                rintro e w' ⟨y, r, n', f', rfl, hd, hs, kk⟩
                obtain ⟨q1, q2, q3⟩ := did_does HSV.out.2 HCc.out.k HCc.out.o hd
                exact ⟨n', f', by rw [q1, q2], q3, hs, kk⟩)
              have HAA : Hid (∀ x, x < N → ansD (l.getD x cl0) = true → (l.getD x cl0).to_ < c.from_ → x ∈ L) := by rw [← hj]; exact HAH.out
              have HGG : Hid (okN l L S k = goesP c (doesL S c).1 (doesL S c).2.1) := by
                show _ = _
                cases hg : goesP c (doesL S c).1 (doesL S c).2.1 with
                | true => exact okN_yes (of_decide_eq_false hin) (fun x hx h1 h2 => HAA.out x (by rw [HN.out] at hx; exact hx) h1 (by rw [HCD.out]; exact h2)) (by rw [← HCD.out]; exact hg)
                | false => exact okN_go (by rw [← HCD.out]; exact hg)
              have HNX : Hid (nxS l S k = (doesL S c).2.2) := by show _ = _; rw [HCD.out]; rfl
              have HLN : Hid ((doesL S c).2.2.length ≤ S.length + 1) := does_len S c
              clear HAH HAA hSr hj
              generalize goesP c (doesL S c).1 (doesL S c).2.1 = G at *
              generalize (doesL S c).2.2 = S2 at *
              cases G with
              | false =>
                have HG : Hid (gN l d L S k = none) := HGN.out HGG.out
                go_wp2_with (first | (go_at_call 30; refine hcl.mono ?_; clear hcl; rintro e w7 ⟨rfl, hS7, k7⟩; have hRc := HRC.out w7 k7; have hgo := HGO.out w7 _ hS7; clear HGO HRC) | (refine wpList_load_runL rfl 33 _ rfl ⟨wo.heap.size, 0, none⟩ rfl _ hRc ?_; clear hRc) | (go_at_call 16; refine hgo.mono ?_; clear hgo; rintro e w8 ⟨n', f', rfl, hF8, hS8, k8⟩))
                go_roundg g
                case measure => omega
                case rel => exact ⟨k + 1, la2, lc2, by omega, rfl, by go_num, HOI.out.next ((Kor.trans k7).trans' k8 (fun _ _ e => e) (fun i hi e => by have e : i = wr.heap.size := e; omega)) HG.out⟩
              | true =>
                have hM1 : M + 1 ≤ N := by
                  have := nodup_le N (k :: L) (List.nodup_cons.2 ⟨of_decide_eq_false hin, HND.out.1⟩) (fun x hx => by
                    rcases List.mem_cons.1 hx with e | hx
                    · omega
                    · exact HND.out.2 x hx)
                  rw [List.length_cons, HM.out] at this
                  exact this
                obtain ⟨d', hd'⟩ : ∃ d', d = d' + 1 := ⟨d - 1, by omega⟩
                have HRE := HIH.out d' hd'
                have HGK : Hid (gN l d L S k = srch l d' (L ++ [k]) S2) := by
                  show _ = _
                  rw [hd', gN_succ, if_pos HGG.out, HNX.out]
                have HREC : Hid (∀ (W8 W9 W10 : World) (n' : Nat) (f' : Int → Bool) (a9 : Option Addr) (c9 : Nat), Keeps (fun _ => False) wo W8 → SV W8 wr.heap.size n' f' → FS S2 n' f' → Keeps (fun i => (Value.slice la2 M lc2).ownBlock = some i) W8 W9 → W9.ownsRow (bc + 3) 3 1 (.slice a9 (M + 1) c9) (M + 1) (pvs (L ++ [k])) → ((Value.slice a9 (M + 1) c9).ownBlock = (Value.slice la2 M lc2).ownBlock ∨ (Value.slice a9 (M + 1) c9).ownBlock = some (W8.heap.size + 1)) → CL W10 (bc + 1) [.slice a9 (M + 1) c9] → Keeps (fun i => i = bc + 1) W9 W10 → wr.heap.size < W8.heap.size →
                    (W10.cell? ⟨bc + 2, 0, none⟩ = some (.func (.func 27) #[] #[.pointer (some ⟨bc, 0, none⟩), .pointer (some ⟨bc + 1, 0, none⟩), .pointer (some ⟨bc + 2, 0, none⟩)])) ∧
                    Calls Try.prog 27 #[.map (some wr.heap.size), .pointer (some ⟨bc, 0, none⟩), .pointer (some ⟨bc + 1, 0, none⟩), .pointer (some ⟨bc + 2, 0, none⟩)] W10 fun e w' => ∃ lv', e = .returned (.bool (srch l d' (L ++ [k]) S2).isSome) ∧ LS bc w' lv' ((srch l d' (L ++ [k]) S2).getD (L ++ [k])) ∧ Keeps (LT bc lv) w w' ∧ OB w lv lv') := by
                  intro W8 W9 W10 n' f' a9 c9 k8 hS8 hF8 k9 hO9 hob9 hC10 k10 hz8
                  have LS8 := HOI.out.s.keep k8
                  have hE8 := HFE.out.keep k8 (fun _ e => e.elim)
                  have hlt2 : ∀ i, (Value.slice la2 M lc2).ownBlock = some i → bc + 3 ≤ i ∧ i < wo.heap.size := fun i e => ⟨owns_baseT HOI.out.s.o i e, owns_lt' HOI.out.s.o i e⟩
                  have k810 : Keeps (LT bc (.slice la2 M lc2)) W8 W10 := k9.trans' k10 (fun _ _ e => .inr e) (fun _ _ e => .inl e)
                  have hE10 := hE8.keep k810 LS8.lt
                  have hO10 : W10.ownsRow (bc + 3) 3 1 (.slice a9 (M + 1) c9) (M + 1) (pvs (L ++ [k])) := k10.owns hO9 (fun i e1 e2 => by
                    have := owns_baseT hO9 i e1
                    have e2 : i = bc + 1 := e2
                    omega)
                  have hl1 : (L ++ [k]).length = M + 1 := by rw [List.length_append, HM.out]; rfl
                  have hoz := k8.size
                  have LS10 : LS bc W10 (.slice a9 (M + 1) c9) (L ++ [k]) := ⟨hC10, by rw [hl1]; exact hO10⟩
                  have hS10 : SV W10 wr.heap.size n' f' := hS8.keep k810 (fun e => by
                    have hb4 := HB4.out
                    rcases e with e | e
                    · omega
                    · have := (hlt2 _ e).2
                      omega)
                  have hobn : (Value.slice a9 (M + 1) c9).ownBlock ≠ some wr.heap.size := fun e => by
                    rcases hob9 with q | q
                    · rw [q] at e
                      have := (hlt2 _ e).2
                      omega
                    · rw [q] at e
                      injection e with e
                      omega
                  have hb4 := HB4.out
                  have hOB9 : OB w lv (.slice a9 (M + 1) c9) := fun g e => by
                    rcases hob9 with q | q
                    · rw [q] at e
                      exact HOI.out.o g e
                    · rw [q] at e
                      injection e with e
                      have := HOI.out.k.size
                      exact .inr (by omega)
                  have hK10 : Keeps (LT bc lv) w W10 := lt_trans (HOI.out.k.trans' k8 (fun _ _ e => e) (fun _ _ e => e.elim)) HOI.out.o k810
                  refine ⟨hE10.s, (HRE W10 (L ++ [k]) S2 (.slice a9 (M + 1) c9) wr.heap.size n' f' hE10 LS10 ?_ ?_ ?_ hS10 hF8 ?_ (by have := HB4.out; have h5 := hmb; have h6 := HZ3.out; omega) hobn).mono ?_⟩
                  · rw [List.nodup_append]
                    exact ⟨HND.out.1, by simp, fun x hx y hy => by simp at hy; subst hy; exact fun e => of_decide_eq_false hin (e ▸ hx)⟩
                  · intro x hx
                    rw [HN.out]
                    rcases List.mem_append.1 hx with hx | hx
                    · exact HND.out.2 x hx
                    · simp at hx; omega
                  · rw [hl1, HN.out]; omega
                  · rw [hl1, hF8.n]
                    have h1 := HLN.out
                    have h2 := HSV.out.2.n
                    omega
                  · rintro e w' ⟨lv', rfl, h1, h2, h3⟩
                    exact ⟨lv', rfl, h1, lt_trans hK10 hOB9 h2, hOB9.trans h3 hK10.size⟩
                have HAPP : Hid (∀ W, Keeps (fun _ => False) wo W → ∃ a9 c9 W9, (Builtin.append_ #[29, 29] 29 #[.slice la2 M lc2, .slice (some ⟨W.heap.size, 0, none⟩) 1 1]).run Try.prog (W.alloc (.cells #[.int .i64 (k : Int)] 3)) = .ok (.slice a9 (M + 1) c9) W9 ∧ W9.ownsRow (bc + 3) 3 1 (.slice a9 (M + 1) c9) (M + 1) (pvs (L ++ [k])) ∧ Keeps (fun i => (Value.slice la2 M lc2).ownBlock = some i) W W9 ∧ ((Value.slice a9 (M + 1) c9).ownBlock = (Value.slice la2 M lc2).ownBlock ∨ (Value.slice a9 (M + 1) c9).ownBlock = some (W.heap.size + 1)) ∧ CL W9 (bc + 1) [.slice la2 M lc2] ∧ W.cell? ⟨bc + 1, 0, none⟩ = some (.slice la2 M lc2)) := fun W kW => by
                  have h8 := HOI.out.s.keep kW
                  have ho8 := h8.o
                  rw [HM.out] at ho8
                  have hz3 := HZ3.out
                  obtain ⟨a9, c9, W9, q1, q2, q3, q4⟩ := append_pl ho8 (by have := kW.size; omega) (by omega) k
                  exact ⟨a9, c9, W9, q1, q2, q3, q4, h8.c.keep (by show 0 < 1; decide) q3 (fun e => by have := owns_baseT ho8 _ e; omega), h8.c.c 0 _ rfl⟩
                clear HRE
                obtain ⟨R2, hR2⟩ : ∃ R2, R2 = srch l d' (L ++ [k]) S2 := ⟨_, rfl⟩
                rw [← hR2] at HREC HGK
                clear hR2 hd'
                cases R2 with
                | some r =>
                  have HRS : Hid (R = some r) := HRH.out k r hlt HOI.out.g HGK.out
                  clear HRH HRN
                  go_wp2_with (first | (go_at_call 30; refine hcl.mono ?_; clear hcl; rintro e w7 ⟨rfl, hS7, k7⟩; have hRc := HRC.out w7 k7; have hgo := HGO.out w7 _ hS7; clear HGO HRC) | (refine wpList_load_runL rfl 33 _ rfl ⟨wo.heap.size, 0, none⟩ rfl _ hRc ?_; clear hRc) | (go_at_call 16; refine hgo.mono ?_; clear hgo; rintro e w8 ⟨n', f', rfl, hF8, hS8, k8⟩; have K8 : Keeps (fun _ => False) wo w8 := (Kor.trans k7).trans' k8 (fun _ _ e => e) (fun i hi e => (by have e : i = wr.heap.size := e; omega)); have hz8 : wr.heap.size < w8.heap.size := hS8.lt; obtain ⟨a9, c9, W9, hr9, hO9, k9, hob9, hC9, e2⟩ := HAPP.out w8 K8; clear HAPP; have HH8 : Hid (FS S2 n' f' ∧ SV w8 wr.heap.size n' f' ∧ wr.heap.size < w8.heap.size) := ⟨hF8, hS8, hz8⟩; clear hF8 hS8 hz8 k8 k7 hS7) | (at_builtin; refine wpList_append_tL rfl _ _ _ rfl _ _ _ W9 rfl rfl hr9 ?_; clear hr9) | (refine wpList_store_sL rfl rfl _ _ rfl (bc + 1) rfl a9 (M + 1) c9 rfl hC9 ?_; intro w10 hC10 k10 hz10; obtain ⟨e3, hrc⟩ := HREC.out w8 W9 w10 n' f' a9 c9 K8 HH8.out.2.1 HH8.out.1 k9 hO9 hob9 hC10 k10 HH8.out.2.2; clear HREC hC10 k10 hz10 hC9 hob9 k9 hO9 HH8 e2) | (go_at_call 27; refine hrc.mono ?_; clear hrc; rintro e w11 ⟨lv', rfl, hL11, k11, ho11⟩))
                  (try rw [Exit.noGoto_ret])
                  go_ret
                  exact ⟨lv', by rw [HRS.out]; rfl, by rw [HRS.out]; exact hL11, k11, ho11⟩
                | none =>
                  have HG : Hid (gN l d L S k = none) := HGK.out
                  have HCUT : Hid (∀ W a11 c11, LS bc W (.slice a11 (L ++ [k]).length c11) (L ++ [k]) → W.cell? ⟨bc + 1, 0, none⟩ = some (.slice a11 (M + 1) c11) ∧ M + 1 ≤ c11 ∧ (∃ g, a11 = some ⟨g, 0, none⟩)) := fun W a11 c11 h => by
                    have hl1 : (L ++ [k]).length = M + 1 := by rw [List.length_append, HM.out]; rfl
                    have h1 := h.o
                    have h2 := h.c.c 0 _ rfl
                    rw [hl1] at h1 h2
                    obtain ⟨-, q2, q3⟩ := own_cut h1 HM.out
                    exact ⟨h2, q2, q3⟩
                  clear HRH HRN
                  go_wp2_with (first | (go_at_call 30; refine hcl.mono ?_; clear hcl; rintro e w7 ⟨rfl, hS7, k7⟩; have hRc := HRC.out w7 k7; have hgo := HGO.out w7 _ hS7; clear HGO HRC) | (refine wpList_load_runL rfl 33 _ rfl ⟨wo.heap.size, 0, none⟩ rfl _ hRc ?_; clear hRc) | (go_at_call 16; refine hgo.mono ?_; clear hgo; rintro e w8 ⟨n', f', rfl, hF8, hS8, k8⟩; have K8 : Keeps (fun _ => False) wo w8 := (Kor.trans k7).trans' k8 (fun _ _ e => e) (fun i hi e => (by have e : i = wr.heap.size := e; omega)); have hz8 : wr.heap.size < w8.heap.size := hS8.lt; obtain ⟨a9, c9, W9, hr9, hO9, k9, hob9, hC9, e2⟩ := HAPP.out w8 K8; clear HAPP; have HH8 : Hid (FS S2 n' f' ∧ SV w8 wr.heap.size n' f' ∧ wr.heap.size < w8.heap.size) := ⟨hF8, hS8, hz8⟩; clear hF8 hS8 hz8 k8 k7 hS7) | (at_builtin; refine wpList_append_tL rfl _ _ _ rfl _ _ _ W9 rfl rfl hr9 ?_; clear hr9) | (refine wpList_store_sL rfl rfl _ _ rfl (bc + 1) rfl a9 (M + 1) c9 rfl hC9 ?_; intro w10 hC10 k10 hz10; obtain ⟨e3, hrc⟩ := HREC.out w8 W9 w10 n' f' a9 c9 K8 HH8.out.2.1 HH8.out.1 k9 hO9 hob9 hC10 k10 HH8.out.2.2; clear HREC hC10 k10 hz10 hC9 hob9 k9 hO9 HH8 e2) | (go_at_call 27; refine hrc.mono ?_; clear hrc; rintro e w11 ⟨lv', rfl, hL11, k11, ho11⟩; obtain ⟨a11, c11, rfl, -⟩ := ls_form hL11; obtain ⟨e4, hc11, g11, rfl⟩ := HCUT.out _ _ _ hL11; have hC11 := hL11.c; have HL11 : Hid (LS bc w11 (.slice (some ⟨g11, 0, none⟩) (L ++ [k]).length c11) (L ++ [k]) ∧ OB w lv (.slice (some ⟨g11, 0, none⟩) (L ++ [k]).length c11)) := ⟨hL11, ho11⟩; clear hL11 ho11 HCUT) | (refine wpList_store_sL rfl rfl _ _ rfl (bc + 1) rfl (some ⟨g11, 0, none⟩) M c11 rfl hC11 ?_; intro w12 hC12 k12 hz12; clear hC11))
                  go_roundg g
                  case measure => omega
                  case rel =>
                    have hl1 : (L ++ [k]).length = M + 1 := by rw [List.length_append, HM.out]; rfl
                    have h1 := HL11.out.1.o
                    have h2 := HL11.out.2
                    rw [hl1] at h1
                    obtain ⟨q1, -, -⟩ := own_cut h1 HM.out
                    have hzo := HOI.out.k.size
                    refine ⟨k + 1, some ⟨g11, 0, none⟩, c11, by omega, rfl, by go_num, ⟨hC12, by rw [HM.out]; exact k12.owns q1 (fun i e1 e2 => by have := owns_baseT q1 i e1; have e2 : i = bc + 1 := e2; omega)⟩, fun p hp => ?_, k11.trans' k12 (fun _ _ e => e) (fun i hi e => .inl e), fun i e => h2 i e⟩
                    by_cases e : p = k
                    · rw [e]; exact HG.out
                    · exact HOI.out.g p (by omega)
      | zero =>
        have j1 : decide ((k : Int) < (N : Int)) = false := decide_eq_false (by omega)
        have j2 : decide (k < N) = false := decide_eq_false (by omega)
        have HRX : Hid (R = none) := HRN.out (fun p hp => HOI.out.g p (by omega))
        go_wp2_with fail
        (try rw [Exit.noGoto_ret])
        go_ret
        exact ⟨_, by rw [HRX.out]; rfl, by rw [HRX.out]; exact HOI.out.s, HOI.out.k, HOI.out.o⟩
end Go.Proofs.Ytgcfckbmmdajhaa
