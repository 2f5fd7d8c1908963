import Derived.Test.YtfbbllokpikbiabCyF
namespace Go.Proofs.Ytfbbllokpikbiab
open Go.RowKit Go.Deep
attribute [local go_sem] Oper.semAt_some run_store_nf run_store_f
set_option maxHeartbeats 2500000 in
set_option maxRecDepth 100000 in
theorem ground_yes {w : World} {a : Option Addr} {cap m : Nat} {g : List Eg} (hl : EL w a (g.map Eg.ed)) (hbl : Bln g m) (hm : m ≤ 4096) (hlen : g.length ≤ 4398046510976) (v : Nat) (hv : v < m) (hr : Rch g v v) : Calls Try.prog 3 #[.int .i64 (m : Int), .slice a g.length cap, .int .i64 (v : Int)] w fun e w' => e = .returned (.bool true) ∧ Below w.heap.size w w' := by
  have h0 := eg_good hm hbl
  have hlm : (g.map Eg.ed).length = g.length := List.length_map _
  have hcy : Calls Try.prog 7 #[.int .i64 (m : Int), .slice a g.length cap] w fun e w' => ∃ va vc L, e = .returned (.tuple #[.slice va L.length vc, .int .i64 0]) ∧ w'.ownsRow w.heap.size 3 1 (.slice va L.length vc) L.length (pvs L) ∧ RndA g m L ∧ Keeps (fun _ => False) w w' := by
    have h := Cycle_any (cap := cap) (m : Int) hl (by rw [hlm]; omega)
    rw [hlm] at h
    refine h.mono ?_
    rintro e w' ⟨va, vc, L, ec, rfl, ho, hA, k⟩
    rcases hA with ⟨q, -⟩ | ⟨-, rfl, q⟩
    · exact absurd h0 q
    · exact ⟨va, vc, L, rfl, ho, (q m g rfl rfl).rnd hbl, k⟩
  have HRE : Hid (∀ W, Keeps (fun _ => False) w W → Calls Try.prog 8 #[.int .i64 (m : Int), .slice a g.length cap, .int .i64 (v : Int), .int .i64 (v : Int)] W fun e w' => e = .returned (.tuple #[.bool true, .int .i64 0]) ∧ Keeps (fun _ => False) W w') := fun W k => by
    have h := Reaches_any (cap := cap) (m : Int) (v : Int) (v : Int) (hl.keep k) (by rw [hlm]; omega)
    rw [hlm] at h
    refine h.mono ?_
    rintro e w' ⟨x, ec, rfl, hA, k⟩
    have hN : (isN (m : Int) (v : Int) && isN (m : Int) (v : Int)) = true := by
      have : isN (m : Int) (v : Int) = true := isN_iff.2 ⟨by omega, by omega⟩
      rw [this]; rfl
    rcases hA with ⟨q, -⟩ | ⟨-, q, -⟩ | ⟨-, -, rfl, q⟩
    · exact absurd h0 q
    · rw [hN] at q; cases q
    · have q := q g rfl
      rw [Int.toNat_natCast] at q
      obtain rfl : x = true := q.2 hr
      exact ⟨rfl, k⟩
  have HGD : Hid (∀ W, Keeps (fun _ => False) w W → Calls Try.prog 9 #[.int .i64 (m : Int), .slice a g.length cap] W fun e w' => e = .returned (.bool true) ∧ Keeps (fun _ => False) W w') := fun W k => by
    have h := good_any (cap := cap) (m : Int) (hl.keep k) (by rw [hlm]; omega)
    rw [decide_eq_true h0, hlm] at h
    exact h
  have HL : Hid (EL w a (g.map Eg.ed)) := hl
  have HRR : Hid (Rch g v v) := hr
  clear h0 hlm hl hr
  generalize hN : g.length = N at *
  have HN : Hid (g.length = N) := hN
  clear hN
  have t1 : decide ((v : Int) < 0) = false := decide_eq_false (by omega)
  have t2 : decide ((m : Int) ≤ (v : Int)) = false := decide_eq_false (by omega)
  have t3 : decide (m ≤ v) = false := decide_eq_false (by omega)
  have t4 : decide ((v : Int) ≥ (m : Int)) = false := decide_eq_false (by omega)
  have HMK : Hid (∀ W : World, ∃ W2, (Instr.makeSlice 32 (.int .i64 (m : Int)) (.int .i64 (m : Int))).run Try.prog W = .ok (.slice (some ⟨W.heap.size, 0, none⟩) m m) W2 ∧ Keeps (fun _ => False) W W2 ∧ FB W2 W.heap.size m (mks (fun _ => false))) := fun W => ⟨_, run_make_row' (P := Try.prog) 32 4 (.bool false) 1 Try.underlying32 bInfo rfl .i64 .i64 m (by omega) (by omega) W, (Keeps.refl _ W).alloc _, FB.made W m (.bool false) 4⟩
  go_enter Try.func3, Try.ntmps3
  go_wp2_with (first | (refine wpList_build1L uE iE (by decide) (by decide) rfl _ rfl e11.cells rfl rfl ?_) | (go_at_call 7; refine hcy.mono ?_; clear hcy; rintro e w1 ⟨va, vc, L, rfl, ho, hA, k1⟩; have HOW : Hid (w1.ownsRow w.heap.size 3 1 (.slice va L.length vc) L.length (pvs L)) := ho; have HA : Hid (RndA g m L) := hA; have hQm := HA.out.le; clear ho hA; have hQ0 := (HA.out.no v hv HRR.out).1; have hcv := (HA.out.no v hv HRR.out).2; obtain ⟨cb, co, rfl, hcc⟩ := (PM.of HOW.out) 0 hQ0; have hv1 : decide ((v : Int) < ((L.getD 0 0 : Nat) : Int)) = false := decide_eq_false (by omega); have hv2 : decide (v < L.getD 0 0) = false := decide_eq_false (by omega); rw [Nat.add_zero] at hcc; have q1 : decide ((m : Int) < ((L.length : Nat) : Int)) = false := decide_eq_false (by omega); have q2 : decide (m < L.length) = false := decide_eq_false (by omega); have q3 : decide (((L.length : Nat) : Int) > (m : Int)) = false := decide_eq_false (by omega); have q4 : (((L.length : Nat) : Int) == 0) = false := beq_eq_false_iff_ne.2 (by omega); have q5 : (L.length == 0) = false := beq_eq_false_iff_ne.2 (by omega); have q6 : (0 : Int) < ((L.length : Nat) : Int) := (by omega); generalize L.getD 0 0 = hh0 at *; generalize hQ : L.length = Q at *; have HQ : Hid (L.length = Q) := hQ; clear hQ; have hre := HRE.out w1 k1) | (go_at_call 8; refine hre.mono ?_; clear hre; rintro e w2 ⟨rfl, k2⟩; have hoc := one_cyc w2) | (go_at_call 7; refine hoc.mono ?_; clear hoc; rintro e w3 ⟨xb, xo, xc, rfl, hx, k3⟩; have hgd := HGD.out w3 ((k1.trans k2).trans k3)) | (go_at_call 9; refine hgd.mono ?_; clear hgd; rintro e w4 ⟨rfl, k4⟩; obtain ⟨W5, hmk, k5, hF5⟩ := HMK.out w4; clear HMK HRE HGD hx; have hcd := (((k2.trans k3).trans k4)).cell hcc (fun e => e)))
  have K4 : Keeps (fun _ => False) w w4 := ((k1.trans k2).trans k3).trans k4
  have HOL : Hid (∀ b off, (some (⟨cb, co, none⟩ : Addr)) = some ⟨b, off, none⟩ → b < w1.heap.size) := fun b off e => by
    obtain ⟨a', c', e', -, -, ho⟩ := own_slice HOW.out
    injection e' with e1 _ e3
    exact owns_lt' HOW.out b (ho b off (by rw [← e1]; exact e)).2
  have HPW : Hid (∀ W, Keeps (fun b => b = w4.heap.size) w4 W → PM W (some (⟨cb, co, none⟩ : Addr)) L) := fun W k => ((PM.of HOW.out).keep ((k2.trans k3).trans k4)).keepS k (fun b off e q => by
    have h1 := HOL.out b off e
    have h2 := ((k2.trans k3).trans k4).size
    have q : b = w4.heap.size := q
    omega)
  have HEW : Hid (∀ W, Keeps (fun b => b = w4.heap.size) w4 W → EL W a (g.map Eg.ed)) := fun W k => (HL.out.keep K4).keepS k (fun _ b off _ h q => by
    have q : b = w4.heap.size := q
    omega)
  have HKF : Hid (∀ W, Keeps (fun b => b = w4.heap.size) w4 W → Keeps (fun _ => False) w W) := fun W k => K4.trans' k (fun _ _ e => e) (fun b hb e => by have e : b = w4.heap.size := e; have := K4.size; omega)
  have HNO : Hid (∀ b off, (some (⟨cb, co, none⟩ : Addr)) = some ⟨b, off, none⟩ → b ≠ w4.heap.size) := fun b off e h => by
    have h1 := HOL.out b off e
    have h2 := ((k2.trans k3).trans k4).size
    omega
  have HK5 : Hid (Keeps (fun b => b = w4.heap.size) w4 W5) := k5.mono (fun _ _ e => e.elim)
  have HF5 : Hid (FB W5 w4.heap.size m (mks (fun _ => false))) := hF5
  clear hF5 k5 k1 k2 k3 k4 K4 HOW HL hmk HOL hcc hcd hv1 hv2
  generalize hOO : w4.heap.size = O at *
  clear hOO
  go_loopg [14] Q (fun gh iv Wr => ∃ (i : Nat) (M : Nat → Bool), gh + i = Q ∧ iv = .int .i64 (i : Int) ∧ i ≤ Q ∧ FB Wr O m (mks M) ∧ (∀ x, x < m → (M x = true ↔ ∃ j, j < i ∧ L.getD j 0 = x)) ∧ Keeps (fun b => b = O) w4 Wr)
  case atStart => exact ⟨0, _, rfl, rfl, Nat.zero_le _, HF5.out, (fun x _ => ⟨(fun h => by cases h), fun ⟨j, hj, _⟩ => absurd hj (Nat.not_lt_zero j)⟩), HK5.out⟩
  case round =>
    obtain ⟨i, M, hgh, rfl, hiQ, hFB, hMi, kr⟩ := hrel
    clear HF5 HK5
    by_cases hlt : i < Q
    · have j1 : decide ((i : Int) < (Q : Int)) = true := decide_eq_true (by omega)
      have j2 : decide (i < Q) = true := decide_eq_true hlt
      have j3 : (i : Int) < (Q : Int) := by omega
      have j4 : (0 : Int) ≤ (i : Int) := by omega
      have j5 : (0 : Int) < (Q : Int) := by omega
      have hwi : IntKind.i64.wrap ((i : Int) + 1) = (i : Int) + 1 := by rw [IntKind.wrap_i64]; omega
      have hPM := HPW.out wr kr

      obtain ⟨_, _, eb, hc0⟩ := hPM 0 (by rw [HQ.out]; omega)
      injection eb with eb
      injection eb with eb1 eb2 _
      subst eb1 eb2
      obtain ⟨_, _, eb, hci⟩ := hPM i (by rw [HQ.out]; exact hlt)
      injection eb with eb
      injection eb with eb1 eb2 _
      subst eb1 eb2
      rw [Nat.add_zero] at hc0
      have HPM : Hid (PM wr (some ⟨cb, co, none⟩) L) := hPM
      have HFB : Hid (FB wr O m (mks M)) := hFB
      have hxm := (HA.out.lt i (by rw [HQ.out]; exact hlt)).1
      have hxh := (HA.out.lt i (by rw [HQ.out]; exact hlt)).2
      have hMx : M (L.getD i 0) = false := by
        cases h : M (L.getD i 0)
        · rfl
        · obtain ⟨j, hj, e⟩ := (hMi _ hxm).1 h
          exact absurd e (HA.out.nd i j (by rw [HQ.out]; exact hlt) hj)
      have hse : wr.cell? ⟨O, L.getD i 0, none⟩ = some (.bool false) := by have := hFB.c _ hxm; unfold mks at this; rw [hMx] at this; exact this
      have HMN : Hid (∀ x, x < m → (upB M (L.getD i 0) x = true ↔ ∃ j, j < i + 1 ∧ L.getD j 0 = x)) := fun x hx => by
        unfold upB
        by_cases e : x = L.getD i 0
        · rw [if_pos e]
          exact ⟨fun _ => ⟨i, by omega, e.symm⟩, fun _ => rfl⟩
        · rw [if_neg e, hMi x hx]
          constructor
          · rintro ⟨j, hj, q⟩
            exact ⟨j, by omega, q⟩
          · rintro ⟨j, hj, q⟩
            by_cases e2 : j = i
            · subst e2; exact absurd q.symm e
            · exact ⟨j, by omega, q⟩
      have HNB : Hid (cb ≠ O) := HNO.out cb co rfl
      have HKR : Hid (Keeps (fun b => b = O) w4 wr) := kr
      have n1 : (0 : Int) ≤ ((L.getD i 0 : Nat) : Int) := by omega
      have n2 : ((L.getD i 0 : Nat) : Int) < (m : Int) := by omega
      have u1 : decide (((L.getD i 0 : Nat) : Int) < 0) = false := decide_eq_false (by omega)
      have u2 : decide (((L.getD i 0 : Nat) : Int) < ((L.getD 0 0 : Nat) : Int)) = false := decide_eq_false (by omega)
      have u3 : decide (L.getD i 0 < L.getD 0 0) = false := decide_eq_false (by omega)
      have u4 : decide ((m : Int) ≤ ((L.getD i 0 : Nat) : Int)) = false := decide_eq_false (by omega)
      have u5 : decide (m ≤ L.getD i 0) = false := decide_eq_false (by omega)
      have u6 : decide (((L.getD i 0 : Nat) : Int) ≥ (m : Int)) = false := decide_eq_false (by omega)
      clear hFB hMi kr hPM hMx
      by_cases hi1 : i + 1 < Q
      · have hth := thB_of (HA.out.st i (by rw [HQ.out]; exact hi1))
        have i1 : decide ((i : Int) + 1 < (Q : Int)) = true := decide_eq_true (by omega)
        have i2 : decide (i + 1 < Q) = true := decide_eq_true hi1
        have i3 : (i : Int) + 1 < (Q : Int) := by omega
        have i4 : (0 : Int) ≤ (i : Int) + 1 := by omega
        have i5 : ((i : Int) + 1).toNat = i + 1 := by omega
        obtain ⟨_, _, eb, hcn⟩ := HPM.out (i + 1) (by rw [HQ.out]; exact hi1)
        injection eb with eb
        injection eb with eb1 eb2 _
        subst eb1 eb2
        generalize L.getD (i + 1) 0 = nx at *
        have r0 : ∀ u : KS wr, u.1.cell? ⟨cb, co + i, none⟩ = some (.int .i64 ((L.getD i 0 : Nat) : Int)) := ks_cell hci
        have r1 : ∀ u : KS wr, u.1.cell? ⟨cb, co, none⟩ = some (.int .i64 ((L.getD 0 0 : Nat) : Int)) := ks_cell hc0
        have r2 : ∀ u : KS wr, u.1.cell? ⟨O, L.getD i 0, none⟩ = some (.bool false) := ks_cell hse
        have hNE : Nonempty (KS wr) := ⟨⟨wr, Keeps.refl _ wr⟩⟩
        have HCI : Hid (wr.cell? ⟨cb, co + i, none⟩ = some (.int .i64 ((L.getD i 0 : Nat) : Int))) := hci
        have HTH : Hid (thB g (L.getD i 0) nx = true) := hth
        clear hse hci hth hi1 hxh
        generalize L.getD 0 0 = h0 at *
        generalize hxe : L.getD i 0 = x at *
        have HXE : Hid (L.getD i 0 = x) := hxe
        clear hxe
        go_wp2_with fail
        refine wp_region_ks (by kernel_rfl) (by kernel_rfl) ?_
        (repeat (first | go_big_quiet_skip | go_big_quiet_step (fail)))
        refine wpQuiet_nil ?_
        rintro _ ⟨u, rfl⟩
        have ku := u.property
        have hF9 := HFB.out.keep ku (fun e => e)
        have c9 := ku.cell HCI.out (fun e => e)
        clear r0 r1 r2 hNE hc0 hcn
        generalize u.val = wu at *
        go_wp2_with (refine wpList_store_fb rfl rfl _ _ rfl O x rfl true rfl hF9 hxm ?_; intro w9 hf9 k9 hz9; clear hz9 hF9 c9)
        have HK9 : Hid (Keeps (fun b => b = O) w4 w9) := (HKR.out.trans' ku (fun _ _ e => e) (fun _ _ e => e.elim)).trans' k9 (fun _ _ e => e) (fun _ _ e => e)
        have HF9 : Hid (FB w9 O m (mks (upB M x))) := hf9.congr (fun p _ => mks_up p)
        clear hf9 k9 ku u1 u2 u3 u4 u5 u6 t1 t2 t3 t4
        obtain ⟨wo, hwo⟩ : ∃ wo, wo = wr := ⟨_, rfl⟩
        subst hwo
        go_loopw [16, 17] (fun tv kv Wx => ∃ (k : Nat), tv = .bool (thB (g.take k) x nx) ∧ kv = .int .i64 (k : Int) ∧ k ≤ N ∧ Keeps (fun _ => False) w9 Wx) (fun _ kv _ => N - (intOf kv).toNat)
        case atStart => exact ⟨0, rfl, rfl, Nat.zero_le _, Keeps.refl _ _⟩
        case round =>
          obtain ⟨k, rfl, rfl, hkN, kx⟩ := hrel
          have K9 : Keeps (fun b => b = O) w4 wr := HK9.out.trans' kx (fun _ _ e => e) (fun _ _ e => e.elim)
          by_cases hlk : k < N
          · have o1 : decide ((k : Int) < (N : Int)) = true := decide_eq_true (by omega)
            have o2 : decide (k < N) = true := decide_eq_true hlk
            have o3 : (k : Int) < (N : Int) := by omega
            have o4 : (0 : Int) ≤ (k : Int) := by omega
            have hwk : IntKind.i64.wrap ((k : Int) + 1) = (k : Int) + 1 := by rw [IntKind.wrap_i64]; omega
            have hkl : k < g.length := by rw [HN.out]; exact hlk
            obtain ⟨eb, eo, rfl, hce⟩ := HEW.out wr K9 k (by rw [List.length_map]; exact hkl)
            rw [(eg_at hkl).1] at hce
            have hc0 := hce 0 _ rfl
            have hc1 := hce 1 _ rfl
            rw [Nat.add_zero] at hc0
            have HTK : Hid (thB (g.take (k + 1)) x nx = (thB (g.take k) x nx || ((g.getD k eg0).f == x && (g.getD k eg0).t == nx))) := by
              show thB (g.take (k + 1)) x nx = _
              rw [take_eg hkl, thB_snoc]
            obtain ⟨_, _, ebb, hcx⟩ := HPW.out wr K9 i (by rw [HQ.out]; exact hlt)
            injection ebb with ebb
            injection ebb with ebb1 ebb2 _
            subst ebb1 ebb2
            rw [HXE.out] at hcx
            have HKX : Hid (Keeps (fun _ => False) w9 wr) := kx
            generalize g.getD k eg0 = c at *
            have r3 : ∀ u : KS wr, u.1.cell? ⟨eb, eo + k * 4, none⟩ = some (.int .i64 (c.f : Int)) := ks_cell hc0
            have r4 : ∀ u : KS wr, u.1.cell? ⟨eb, eo + k * 4 + 1, none⟩ = some (.int .i64 (c.t : Int)) := ks_cell hc1
            have r5 : ∀ u : KS wr, u.1.cell? ⟨cb, co + i, none⟩ = some (.int .i64 (x : Int)) := ks_cell hcx
            have hNE : Nonempty (KS wr) := ⟨⟨wr, Keeps.refl _ wr⟩⟩
            clear hce hc0 hc1 hcx hkl K9 kx
            generalize thB (g.take k) x nx = tb at *
            generalize c.f = cf at *
            generalize c.t = ct at *
            cases tb
            · by_cases h1 : cf = x
              · have s1 : ((cf : Int) == (x : Int)) = true := by simp [h1]
                have s2 : (cf == x) = true := by simp [h1]
                by_cases h2 : ct = nx
                · have s3 : ((ct : Int) == (nx : Int)) = true := by simp [h2]
                  have s4 : (ct == nx) = true := by simp [h2]
                  have HV : Hid (thB (g.take (k + 1)) x nx = true) := by rw [s2, s4] at HTK; exact HTK.out
                  clear h1 h2 HTK
                  go_wp2_with fail
                  refine wp_region_ks (by kernel_rfl) (by kernel_rfl) ?_
                  (repeat (first | go_big_quiet_skip | go_big_quiet_step (fail)))
                  refine wpQuiet_nil ?_
                  rintro _ ⟨u, rfl⟩
                  have ku := u.property
                  clear r3 r4 r5 hNE
                  generalize u.val = wu at *
                  go_wp2_with fail
                  go_roundw
                  case rel => exact ⟨k + 1, by rw [HV.out], by go_num, by omega, HKX.out.trans ku⟩
                  case measure => simp [intOf]; omega
                · have s3 : ((ct : Int) == (nx : Int)) = false := beq_eq_false_iff_ne.2 (by omega)
                  have s4 : (ct == nx) = false := beq_eq_false_iff_ne.2 h2
                  have HV : Hid (thB (g.take (k + 1)) x nx = false) := by rw [s2, s4] at HTK; exact HTK.out
                  clear h1 h2 HTK
                  go_wp2_with fail
                  refine wp_region_ks (by kernel_rfl) (by kernel_rfl) ?_
                  (repeat (first | go_big_quiet_skip | go_big_quiet_step (fail)))
                  refine wpQuiet_nil ?_
                  rintro _ ⟨u, rfl⟩
                  have ku := u.property
                  clear r3 r4 r5 hNE
                  generalize u.val = wu at *
                  go_wp2_with fail
                  go_roundw
                  case rel => exact ⟨k + 1, by rw [HV.out], by go_num, by omega, HKX.out.trans ku⟩
                  case measure => simp [intOf]; omega
              · have s1 : ((cf : Int) == (x : Int)) = false := beq_eq_false_iff_ne.2 (by omega)
                have s2 : (cf == x) = false := beq_eq_false_iff_ne.2 h1
                have HV : Hid (thB (g.take (k + 1)) x nx = false) := by rw [s2] at HTK; exact HTK.out
                clear h1 HTK
                go_wp2_with fail
                refine wp_region_ks (by kernel_rfl) (by kernel_rfl) ?_
                (repeat (first | go_big_quiet_skip | go_big_quiet_step (fail)))
                refine wpQuiet_nil ?_
                rintro _ ⟨u, rfl⟩
                have ku := u.property
                clear r3 r4 r5 hNE
                generalize u.val = wu at *
                go_wp2_with fail
                go_roundw
                case rel => exact ⟨k + 1, by rw [HV.out], by go_num, by omega, HKX.out.trans ku⟩
                case measure => simp [intOf]; omega
            · have HV : Hid (thB (g.take (k + 1)) x nx = true) := HTK.out
              clear HTK
              go_wp2_with fail
              refine wp_region_ks (by kernel_rfl) (by kernel_rfl) ?_
              (repeat (first | go_big_quiet_skip | go_big_quiet_step (fail)))
              refine wpQuiet_nil ?_
              rintro _ ⟨u, rfl⟩
              have ku := u.property
              clear r3 r4 r5 hNE
              generalize u.val = wu at *
              go_wp2_with fail
              go_roundw
              case rel => exact ⟨k + 1, by rw [HV.out], by go_num, by omega, HKX.out.trans ku⟩
              case measure => simp [intOf]; omega
          · have o1 : decide ((k : Int) < (N : Int)) = false := decide_eq_false (by omega)
            have o2 : decide (k < N) = false := decide_eq_false hlk
            have hk : thB (g.take k) x nx = true := by rw [List.take_of_length_le (by rw [HN.out]; omega)]; exact HTH.out
            rw [hk]
            have HFX : Hid (FB wr O m (mks (upB M x))) := HF9.out.keep kx (fun e => e)
            have HK0 : Hid (Keeps (fun b => b = O) w4 wr) := K9
            clear hk kx K9
            go_wp2_with fail
            go_roundg (gk - 1)
            case measure => omega
            case rel => exact ⟨i + 1, upB M x, by omega, by go_num, by omega, HFX.out, HMN.out, HK0.out⟩
      · have hth : thB g (L.getD i 0) (L.getD 0 0) = true := thB_of (by
          have h := HA.out.la (by rw [HQ.out]; omega)
          rw [HQ.out, show Q - 1 = i by omega] at h
          exact h)
        have i1 : decide ((i : Int) + 1 < (Q : Int)) = false := decide_eq_false (by omega)
        have i2 : decide (i + 1 < Q) = false := decide_eq_false hi1
        have r0 : ∀ u : KS wr, u.1.cell? ⟨cb, co + i, none⟩ = some (.int .i64 ((L.getD i 0 : Nat) : Int)) := ks_cell hci
        have r1 : ∀ u : KS wr, u.1.cell? ⟨cb, co, none⟩ = some (.int .i64 ((L.getD 0 0 : Nat) : Int)) := ks_cell hc0
        have r2 : ∀ u : KS wr, u.1.cell? ⟨O, L.getD i 0, none⟩ = some (.bool false) := ks_cell hse
        have hNE : Nonempty (KS wr) := ⟨⟨wr, Keeps.refl _ wr⟩⟩
        have HCI : Hid (wr.cell? ⟨cb, co + i, none⟩ = some (.int .i64 ((L.getD i 0 : Nat) : Int))) := hci
        have HTH : Hid (thB g (L.getD i 0) (L.getD 0 0) = true) := hth
        clear hse hci hth hi1 hxh
        generalize L.getD 0 0 = h0 at *
        generalize hxe : L.getD i 0 = x at *
        have HXE : Hid (L.getD i 0 = x) := hxe
        clear hxe
        go_wp2_with fail
        refine wp_region_ks (by kernel_rfl) (by kernel_rfl) ?_
        (repeat (first | go_big_quiet_skip | go_big_quiet_step (fail)))
        refine wpQuiet_nil ?_
        rintro _ ⟨u, rfl⟩
        have ku := u.property
        have hF9 := HFB.out.keep ku (fun e => e)
        have c9 := ku.cell HCI.out (fun e => e)
        clear r0 r1 r2 hNE hc0 
        generalize u.val = wu at *
        go_wp2_with (refine wpList_store_fb rfl rfl _ _ rfl O x rfl true rfl hF9 hxm ?_; intro w9 hf9 k9 hz9; clear hz9 hF9 c9)
        have HK9 : Hid (Keeps (fun b => b = O) w4 w9) := (HKR.out.trans' ku (fun _ _ e => e) (fun _ _ e => e.elim)).trans' k9 (fun _ _ e => e) (fun _ _ e => e)
        have HF9 : Hid (FB w9 O m (mks (upB M x))) := hf9.congr (fun p _ => mks_up p)
        clear hf9 k9 ku u1 u2 u3 u4 u5 u6 t1 t2 t3 t4
        obtain ⟨wo, hwo⟩ : ∃ wo, wo = wr := ⟨_, rfl⟩
        subst hwo
        go_loopw [16, 17] (fun tv kv Wx => ∃ (k : Nat), tv = .bool (thB (g.take k) x h0) ∧ kv = .int .i64 (k : Int) ∧ k ≤ N ∧ Keeps (fun _ => False) w9 Wx) (fun _ kv _ => N - (intOf kv).toNat)
        case atStart => exact ⟨0, rfl, rfl, Nat.zero_le _, Keeps.refl _ _⟩
        case round =>
          obtain ⟨k, rfl, rfl, hkN, kx⟩ := hrel
          have K9 : Keeps (fun b => b = O) w4 wr := HK9.out.trans' kx (fun _ _ e => e) (fun _ _ e => e.elim)
          by_cases hlk : k < N
          · have o1 : decide ((k : Int) < (N : Int)) = true := decide_eq_true (by omega)
            have o2 : decide (k < N) = true := decide_eq_true hlk
            have o3 : (k : Int) < (N : Int) := by omega
            have o4 : (0 : Int) ≤ (k : Int) := by omega
            have hwk : IntKind.i64.wrap ((k : Int) + 1) = (k : Int) + 1 := by rw [IntKind.wrap_i64]; omega
            have hkl : k < g.length := by rw [HN.out]; exact hlk
            obtain ⟨eb, eo, rfl, hce⟩ := HEW.out wr K9 k (by rw [List.length_map]; exact hkl)
            rw [(eg_at hkl).1] at hce
            have hc0 := hce 0 _ rfl
            have hc1 := hce 1 _ rfl
            rw [Nat.add_zero] at hc0
            have HTK : Hid (thB (g.take (k + 1)) x h0 = (thB (g.take k) x h0 || ((g.getD k eg0).f == x && (g.getD k eg0).t == h0))) := by
              show thB (g.take (k + 1)) x h0 = _
              rw [take_eg hkl, thB_snoc]
            obtain ⟨_, _, ebb, hcx⟩ := HPW.out wr K9 i (by rw [HQ.out]; exact hlt)
            injection ebb with ebb
            injection ebb with ebb1 ebb2 _
            subst ebb1 ebb2
            rw [HXE.out] at hcx
            have HKX : Hid (Keeps (fun _ => False) w9 wr) := kx
            generalize g.getD k eg0 = c at *
            have r3 : ∀ u : KS wr, u.1.cell? ⟨eb, eo + k * 4, none⟩ = some (.int .i64 (c.f : Int)) := ks_cell hc0
            have r4 : ∀ u : KS wr, u.1.cell? ⟨eb, eo + k * 4 + 1, none⟩ = some (.int .i64 (c.t : Int)) := ks_cell hc1
            have r5 : ∀ u : KS wr, u.1.cell? ⟨cb, co + i, none⟩ = some (.int .i64 (x : Int)) := ks_cell hcx
            have hNE : Nonempty (KS wr) := ⟨⟨wr, Keeps.refl _ wr⟩⟩
            clear hce hc0 hc1 hcx hkl K9 kx
            generalize thB (g.take k) x h0 = tb at *
            generalize c.f = cf at *
            generalize c.t = ct at *
            cases tb
            · by_cases h1 : cf = x
              · have s1 : ((cf : Int) == (x : Int)) = true := by simp [h1]
                have s2 : (cf == x) = true := by simp [h1]
                by_cases h2 : ct = h0
                · have s3 : ((ct : Int) == (h0 : Int)) = true := by simp [h2]
                  have s4 : (ct == h0) = true := by simp [h2]
                  have HV : Hid (thB (g.take (k + 1)) x h0 = true) := by rw [s2, s4] at HTK; exact HTK.out
                  clear h1 h2 HTK
                  go_wp2_with fail
                  refine wp_region_ks (by kernel_rfl) (by kernel_rfl) ?_
                  (repeat (first | go_big_quiet_skip | go_big_quiet_step (fail)))
                  refine wpQuiet_nil ?_
                  rintro _ ⟨u, rfl⟩
                  have ku := u.property
                  clear r3 r4 r5 hNE
                  generalize u.val = wu at *
                  go_wp2_with fail
                  go_roundw
                  case rel => exact ⟨k + 1, by rw [HV.out], by go_num, by omega, HKX.out.trans ku⟩
                  case measure => simp [intOf]; omega
                · have s3 : ((ct : Int) == (h0 : Int)) = false := beq_eq_false_iff_ne.2 (by omega)
                  have s4 : (ct == h0) = false := beq_eq_false_iff_ne.2 h2
                  have HV : Hid (thB (g.take (k + 1)) x h0 = false) := by rw [s2, s4] at HTK; exact HTK.out
                  clear h1 h2 HTK
                  go_wp2_with fail
                  refine wp_region_ks (by kernel_rfl) (by kernel_rfl) ?_
                  (repeat (first | go_big_quiet_skip | go_big_quiet_step (fail)))
                  refine wpQuiet_nil ?_
                  rintro _ ⟨u, rfl⟩
                  have ku := u.property
                  clear r3 r4 r5 hNE
                  generalize u.val = wu at *
                  go_wp2_with fail
                  go_roundw
                  case rel => exact ⟨k + 1, by rw [HV.out], by go_num, by omega, HKX.out.trans ku⟩
                  case measure => simp [intOf]; omega
              · have s1 : ((cf : Int) == (x : Int)) = false := beq_eq_false_iff_ne.2 (by omega)
                have s2 : (cf == x) = false := beq_eq_false_iff_ne.2 h1
                have HV : Hid (thB (g.take (k + 1)) x h0 = false) := by rw [s2] at HTK; exact HTK.out
                clear h1 HTK
                go_wp2_with fail
                refine wp_region_ks (by kernel_rfl) (by kernel_rfl) ?_
                (repeat (first | go_big_quiet_skip | go_big_quiet_step (fail)))
                refine wpQuiet_nil ?_
                rintro _ ⟨u, rfl⟩
                have ku := u.property
                clear r3 r4 r5 hNE
                generalize u.val = wu at *
                go_wp2_with fail
                go_roundw
                case rel => exact ⟨k + 1, by rw [HV.out], by go_num, by omega, HKX.out.trans ku⟩
                case measure => simp [intOf]; omega
            · have HV : Hid (thB (g.take (k + 1)) x h0 = true) := HTK.out
              clear HTK
              go_wp2_with fail
              refine wp_region_ks (by kernel_rfl) (by kernel_rfl) ?_
              (repeat (first | go_big_quiet_skip | go_big_quiet_step (fail)))
              refine wpQuiet_nil ?_
              rintro _ ⟨u, rfl⟩
              have ku := u.property
              clear r3 r4 r5 hNE
              generalize u.val = wu at *
              go_wp2_with fail
              go_roundw
              case rel => exact ⟨k + 1, by rw [HV.out], by go_num, by omega, HKX.out.trans ku⟩
              case measure => simp [intOf]; omega
          · have o1 : decide ((k : Int) < (N : Int)) = false := decide_eq_false (by omega)
            have o2 : decide (k < N) = false := decide_eq_false hlk
            have hk : thB (g.take k) x h0 = true := by rw [List.take_of_length_le (by rw [HN.out]; omega)]; exact HTH.out
            rw [hk]
            have HFX : Hid (FB wr O m (mks (upB M x))) := HF9.out.keep kx (fun e => e)
            have HK0 : Hid (Keeps (fun b => b = O) w4 wr) := K9
            clear hk kx K9
            go_wp2_with fail
            go_roundg (gk - 1)
            case measure => omega
            case rel => exact ⟨i + 1, upB M x, by omega, by go_num, by omega, HFX.out, HMN.out, HK0.out⟩
    · have j1 : decide ((i : Int) < (Q : Int)) = false := decide_eq_false (by omega)
      have j2 : decide (i < Q) = false := decide_eq_false hlt
      have HEND : Hid (Below w.heap.size w wr) := (HKF.out wr kr).below (Nat.le_refl _) (fun _ _ e => e)
      clear hFB hMi
      go_wp2_with fail
      go_ret
      exact ⟨rfl, HEND.out⟩
end Go.Proofs.Ytfbbllokpikbiab
