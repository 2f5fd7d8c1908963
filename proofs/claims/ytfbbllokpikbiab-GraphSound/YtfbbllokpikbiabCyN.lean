import Derived.Test.YtfbbllokpikbiabCyL
namespace Go.Proofs.Ytfbbllokpikbiab
open Go.RowKit Go.Deep
attribute [local go_sem] Oper.semAt_some run_store_nf run_store_f
set_option maxHeartbeats 6000000 in
set_option maxRecDepth 100000 in
theorem gsound_good {w : World} {a : Option Addr} {cap m : Nat} {g : List Eg} (hl : EL w a (g.map Eg.ed)) (hbl : Bln g m) (hm : m ≤ 4096) (hlen : g.length ≤ 4398046510976) : Calls Try.prog 6 #[.int .i64 (m : Int), .slice a g.length cap] w fun e w' => e = .returned (.bool true) ∧ Below w.heap.size w w' := by
  have h0 := eg_good hm hbl
  have hlm : (g.map Eg.ed).length = g.length := List.length_map _
  have hor : Calls Try.prog 16 #[.int .i64 (m : Int), .slice a g.length cap] w fun e w' => ∃ va vc L ok, e = .returned (.tuple #[.slice va L.length vc, .bool ok, .int .i64 0]) ∧ w'.ownsRow w.heap.size 3 1 (.slice va L.length vc) L.length (pvs L) ∧ (OrdL g m L ∧ (∀ u, ¬ Fre g m L u) ∧ ok = decide (L.length = m)) ∧ Keeps (fun _ => False) w w' := by
    have h := Order_any (cap := cap) (m : Int) hl (by rw [hlm]; omega)
    rw [hlm] at h
    refine h.mono ?_
    rintro e w' ⟨v, L, ok, ec, rfl, ho, hA, k⟩
    obtain ⟨va, vc, rfl, -⟩ := own_slice ho
    rcases hA with ⟨q, -⟩ | ⟨-, rfl, q⟩
    · exact absurd h0 q
    · exact ⟨va, vc, L, ok, rfl, ho, q m g rfl rfl, k⟩
  have HCY : Hid (∀ W, Keeps (fun _ => False) w W → Calls Try.prog 7 #[.int .i64 (m : Int), .slice a g.length cap] W fun e w' => ∃ va vc C, e = .returned (.tuple #[.slice va C.length vc, .int .i64 0]) ∧ CycA g m C ∧ Keeps (fun _ => False) W w') := fun W k => by
    have h := Cycle_any (cap := cap) (m : Int) (hl.keep k) (by rw [hlm]; omega)
    rw [hlm] at h
    refine h.mono ?_
    rintro e w' ⟨va, vc, L, ec, rfl, -, hA, k⟩
    rcases hA with ⟨q, -⟩ | ⟨-, rfl, q⟩
    · exact absurd h0 q
    · exact ⟨va, vc, L, rfl, q m g rfl rfl, k⟩
  have HGD : Hid (∀ W, Keeps (fun _ => False) w W → Calls Try.prog 9 #[.int .i64 (m : Int), .slice a g.length cap] W fun e w' => e = .returned (.bool true) ∧ Keeps (fun _ => False) W w') := fun W k => by
    have h := good_any (cap := cap) (m : Int) (hl.keep k) (by rw [hlm]; omega)
    rw [decide_eq_true h0, hlm] at h
    exact h
  have HL : Hid (EL w a (g.map Eg.ed)) := hl
  have HBL : Hid (Bln g m) := hbl
  clear h0 hlm hl hbl
  generalize hN : g.length = N at *
  have HN : Hid (g.length = N) := hN
  clear hN
  have HMK : Hid (∀ W : World, ∃ W2, (Instr.makeSlice 23 (.int .i64 (m : Int)) (.int .i64 (m : Int))).run Try.prog W = .ok (.slice (some ⟨W.heap.size, 0, none⟩) m m) W2 ∧ Keeps (fun _ => False) W W2 ∧ FB W2 W.heap.size m (nms (fun _ => 0)) ∧ W.heap.size < W2.heap.size) := fun W => ⟨_, run_make_row' (P := Try.prog) 23 3 (.int .i64 0) 8 Try.underlying23 iI rfl .i64 .i64 m (by omega) (by omega) W, (Keeps.refl _ W).alloc _, FB.made W m (.int .i64 0) 3, by simp⟩
  go_enter Try.func6, Try.ntmps6
  go_wp2_with (first | (go_at_call 16; refine hor.mono ?_; clear hor; rintro e w1 ⟨va, vc, L, ok, rfl, ho, hA, k1⟩; have HOW : Hid (w1.ownsRow w.heap.size 3 1 (.slice va L.length vc) L.length (pvs L)) := ho; have HAO : Hid (OrdL g m L ∧ (∀ u, ¬ Fre g m L u) ∧ ok = decide (L.length = m)) := hA; clear ho hA; have hcy := HCY.out w1 k1) | (go_at_call 7; refine hcy.mono ?_; clear hcy; rintro e w2 ⟨ca, cc, C, rfl, hC, k2⟩; obtain ⟨b1, b2, b3, b4⟩ := snd_ok HBL.out HAO.out.1 HAO.out.2.1 hC HAO.out.2.2; clear hC; generalize C.length = CL at *; generalize hQ : L.length = Q at *; have HQ : Hid (L.length = Q) := hQ; clear hQ; have hgd := HGD.out w2 (k1.trans k2)) | (go_at_call 9; refine hgd.mono ?_; clear hgd; rintro e w3 ⟨rfl, k3⟩; have hfx := fixed_any w3) | (go_at_call 15; refine hfx.mono ?_; clear hfx; rintro e w4 ⟨rfl, k4⟩; obtain ⟨W5, hmk, k5, hF5, hs5⟩ := HMK.out w4))
  have K4 : Keeps (fun _ => False) w w4 := ((k1.trans k2).trans k3).trans k4
  have HOL : Hid (∀ b off, va = some ⟨b, off, none⟩ → b < w1.heap.size) := fun b off e => by
    obtain ⟨a', c', e', -, -, ho⟩ := own_slice HOW.out
    injection e' with e1 _ e3
    exact owns_lt' HOW.out b (ho b off (by rw [← e1]; exact e)).2
  have HPW : Hid (∀ W, Keeps (fun b => w4.heap.size ≤ b) w4 W → PM W va L) := fun W k => ((PM.of HOW.out).keep ((k2.trans k3).trans k4)).keepS k (fun b off e q => by
    have h1 := HOL.out b off e
    have h2 := ((k2.trans k3).trans k4).size
    have q : w4.heap.size ≤ b := q
    omega)
  have HEW : Hid (∀ W, Keeps (fun b => w4.heap.size ≤ b) w4 W → EL W a (g.map Eg.ed)) := fun W k => (HL.out.keep K4).keepS k (fun _ b off _ h q => by
    have q : w4.heap.size ≤ b := q
    omega)
  have HKF : Hid (∀ W, Keeps (fun b => w4.heap.size ≤ b) w4 W → Keeps (fun _ => False) w W) := fun W k => K4.trans' k (fun _ _ e => e) (fun b hb e => by have e : w4.heap.size ≤ b := e; have := K4.size; omega)
  have HK5 : Hid (Keeps (fun b => w4.heap.size ≤ b) w4 W5) := k5.mono (fun _ _ e => e.elim)
  have HF5 : Hid (FB W5 w4.heap.size m (nms (fun _ => 0))) := hF5
  have HW5 : Hid (w4.heap.size < W5.heap.size) := hs5
  have HO : Hid (OrdL g m L) := HAO.out.1
  have HCP : Hid (∀ u, ¬ Fre g m L u) := HAO.out.2.1
  have HQm : Hid (Q ≤ m) := by have := HO.out.len; rw [HQ.out] at this; exact this
  have hQm : Q ≤ m := HQm.out
  clear hF5 hs5 k5 k1 k2 k3 k4 K4 HOW HL hmk HOL HAO HCY HGD b1 b2 b3 b4 HQm
  generalize hOO : w4.heap.size = O at *
  clear hOO
  go_loopw [11] (fun vv Wr => ∃ (v : Nat) (A : Nat → Nat), vv = .int .i64 (v : Int) ∧ v ≤ m ∧ (∀ x, x < v → A x = m) ∧ O < Wr.heap.size ∧ FB Wr O m (nms A) ∧ Keeps (fun b => O ≤ b) w4 Wr) (fun vv _ => m - (intOf vv).toNat)
  case atStart => exact ⟨0, _, rfl, Nat.zero_le _, (fun x hx => absurd hx (Nat.not_lt_zero x)), HW5.out, HF5.out, HK5.out⟩
  case round =>
    obtain ⟨v, A0, rfl, hvm', hA0, hOs, hfa, kv⟩ := hrel
    clear HF5 HK5 HW5
    have HKX : Hid (Keeps (fun b => O ≤ b) w4 wr) := kv
    clear kv
    by_cases hvm : v < m
    · have j1 : decide ((v : Int) < (m : Int)) = true := decide_eq_true (by omega)
      have j2 : decide (v < m) = true := decide_eq_true hvm
      have j3 : (v : Int) < (m : Int) := by omega
      have j4 : (0 : Int) ≤ (v : Int) := by omega
      have hwv : IntKind.i64.wrap ((v : Int) + 1) = (v : Int) + 1 := by rw [IntKind.wrap_i64]; omega
      have HA0 : Hid (∀ x, x < v + 1 → upD A0 v m x = m) := fun x hx => by
        unfold upD
        by_cases e : x = v
        · rw [if_pos e]
        · rw [if_neg e]; exact hA0 x (by omega)
      clear hA0
      go_wp2_with (refine wpList_store_fi rfl rfl _ _ rfl O v rfl (m : Int) rfl hfa hvm ?_; intro w9 hf9 k9 hz9; have HZ9 : Hid (w9.heap.size = wr.heap.size) := hz9; clear hz9 hfa)
      go_roundw
      case rel => exact ⟨v + 1, upD A0 v m, by go_num, by omega, HA0.out, by rw [HZ9.out]; exact hOs, hf9.congr (fun p _ => nms_up p), HKX.out.trans' k9 (fun _ _ e => e) (fun b _ e => by have e : b = O := e; rw [e]; exact Nat.le_refl _)⟩
      case measure => simp [intOf]; omega
    · have j1 : decide ((v : Int) < (m : Int)) = false := decide_eq_false (by omega)
      have j2 : decide (v < m) = false := decide_eq_false hvm
      have HFA : Hid (FB wr O m (nms A0)) := hfa
      have HOS : Hid (O < wr.heap.size) := hOs
      have HA0 : Hid (∀ x, x < m → A0 x = m) := fun x hx => hA0 x (by omega)
      clear hfa hA0 hOs
      go_wp2_with fail
      go_loopg [12] Q (fun gh iv Wr => ∃ (i : Nat) (A : Nat → Nat), gh + i = Q ∧ iv = .int .i64 (i : Int) ∧ i ≤ Q ∧ PoI L m i A ∧ O < Wr.heap.size ∧ FB Wr O m (nms A) ∧ Keeps (fun b => O ≤ b) w4 Wr)
      case atStart => exact ⟨0, A0, rfl, rfl, Nat.zero_le _, PoI.start L m HA0.out, HOS.out, HFA.out, HKX.out⟩
      case round =>
        obtain ⟨i, A, hgh, rfl, hiQ, hpo, hOs, hfa, kr⟩ := hrel
        clear HFA HKX HA0 HOS
        by_cases hlt : i < Q
        · have j1 : decide ((i : Int) < (Q : Int)) = true := decide_eq_true (by omega)
          have j2 : decide (i < Q) = true := decide_eq_true hlt
          have j3 : (i : Int) < (Q : Int) := by omega
          have j4 : (0 : Int) ≤ (i : Int) := by omega
          have hwi : IntKind.i64.wrap ((i : Int) + 1) = (i : Int) + 1 := by rw [IntKind.wrap_i64]; omega
          have hil : i < L.length := by rw [HQ.out]; exact hlt
          have hxm := HO.out.lt _ (getD_memN hil)
          obtain ⟨hax, hpn⟩ := hpo.next HO.out.nodup hil hxm
          obtain ⟨lb, lo, rfl, hci⟩ := HPW.out wr kr i hil
          have ca : wr.cell? ⟨O, L.getD i 0, none⟩ = some (.int .i64 (m : Int)) := by have := hfa.c _ hxm; unfold nms at this; rw [hax] at this; exact this
          have HPN : Hid (PoI L m (i + 1) (upD A (L.getD i 0) i)) := hpn
          have HKX : Hid (Keeps (fun b => O ≤ b) w4 wr) := kr
          clear hpo hax hpn kr hil
          generalize L.getD i 0 = x at *
          have n1 : (0 : Int) ≤ (x : Int) := by omega
          have n2 : (x : Int) < (m : Int) := by omega
          have u1 : decide ((x : Int) < 0) = false := decide_eq_false (by omega)
          have u2 : decide ((m : Int) ≤ (x : Int)) = false := decide_eq_false (by omega)
          have u3 : decide (m ≤ x) = false := decide_eq_false (by omega)
          have u4 : decide ((x : Int) ≥ (m : Int)) = false := decide_eq_false (by omega)
          have u5 : ((m : Int) != (m : Int)) = false := by simp
          go_wp2_with (refine wpList_store_fi rfl rfl _ _ rfl O x rfl (i : Int) rfl hfa hxm ?_; intro w9 hf9 k9 hz9; have HZ9 : Hid (w9.heap.size = wr.heap.size) := hz9; clear hz9 hfa hci ca)
          go_roundg (gk - 1)
          case measure => omega
          case rel => exact ⟨i + 1, _, by omega, by go_num, by omega, HPN.out, by rw [HZ9.out]; exact hOs, hf9.congr (fun p _ => nms_up p), HKX.out.trans' k9 (fun _ _ e => e) (fun b _ e => by have e : b = O := e; rw [e]; exact Nat.le_refl _)⟩
        · have j1 : decide ((i : Int) < (Q : Int)) = false := decide_eq_false (by omega)
          have j2 : decide (i < Q) = false := decide_eq_false hlt
          have HPO : Hid (PoI L m L.length A) := by
            rw [show i = L.length by rw [HQ.out]; omega] at hpo
            exact hpo
          have HFA : Hid (FB wr O m (nms A)) := hfa
          have HKX : Hid (Keeps (fun b => O ≤ b) w4 wr) := kr
          obtain ⟨W6, hmk2, k6, hF6, -⟩ := HMK.out wr
          clear hpo hfa kr
          go_wp2_with fail
          generalize hPP : wr.heap.size = P at *
          have HOP : Hid (O ≠ P) := Nat.ne_of_lt hOs
          have HOPl : Hid (O ≤ P) := Nat.le_of_lt hOs
          clear hPP hOs
          have HP0 : Hid (FB W6 P m (nms (fun _ => 0))) := hF6
          have HFA6 : Hid (FB W6 O m (nms A)) := HFA.out.keep k6 (fun e => e)
          have HK6 : Hid (Keeps (fun b => O ≤ b) w4 W6) := HKX.out.trans' k6 (fun _ _ e => e) (fun _ _ e => e.elim)
          clear hF6 k6 HFA HKX hmk2
          go_loopw [14] (fun vv Wr => ∃ (v : Nat) (B : Nat → Int), vv = .int .i64 (v : Int) ∧ v ≤ m ∧ (∀ x, x < v → B x = -1) ∧ FB Wr O m (nms A) ∧ FB Wr P m (nmi B) ∧ Keeps (fun b => O ≤ b) w4 Wr) (fun vv _ => m - (intOf vv).toNat)
          case atStart => exact ⟨0, fun _ => 0, rfl, Nat.zero_le _, (fun x hx => absurd hx (Nat.not_lt_zero x)), HFA6.out, HP0.out, HK6.out⟩
          case round =>
            obtain ⟨v, B0, rfl, hvm', hB0, hfa, hfb, kv⟩ := hrel
            clear HP0 HFA6 HK6
            have HFA : Hid (FB wr O m (nms A)) := hfa
            have HKX : Hid (Keeps (fun b => O ≤ b) w4 wr) := kv
            clear hfa kv
            by_cases hvm : v < m
            · have j1 : decide ((v : Int) < (m : Int)) = true := decide_eq_true (by omega)
              have j2 : decide (v < m) = true := decide_eq_true hvm
              have j3 : (v : Int) < (m : Int) := by omega
              have j4 : (0 : Int) ≤ (v : Int) := by omega
              have hwv : IntKind.i64.wrap ((v : Int) + 1) = (v : Int) + 1 := by rw [IntKind.wrap_i64]; omega
              have HB0 : Hid (∀ x, x < v + 1 → upI B0 v (-1) x = -1) := fun x hx => by
                unfold upI
                by_cases e : x = v
                · rw [if_pos e]
                · rw [if_neg e]; exact hB0 x (by omega)
              clear hB0
              go_wp2_with (refine wpList_store_fi rfl rfl _ _ rfl P v rfl (-1) rfl hfb hvm ?_; intro w9 hf9 k9 hz9; clear hz9 hfb)
              go_roundw
              case rel => exact ⟨v + 1, upI B0 v (-1), by go_num, by omega, HB0.out, HFA.out.keep k9 (fun e => HOP.out e), hf9.congr (fun p _ => nmi_up p), HKX.out.trans' k9 (fun _ _ e => e) (fun b _ e => by have e : b = P := e; rw [e]; exact HOPl.out)⟩
              case measure => simp [intOf]; omega
            · have j1 : decide ((v : Int) < (m : Int)) = false := decide_eq_false (by omega)
              have j2 : decide (v < m) = false := decide_eq_false hvm
              have HFB : Hid (FB wr P m (nmi B0)) := hfb
              have HB0 : Hid (∀ x, x < m → B0 x = -1) := fun x hx => hB0 x (by omega)
              clear hfb hB0
              have HEDG : Hid (∀ e ∈ g, A e.t < m → A e.f < A e.t) := fun e he h => HPO.out.edge HO.out HBL.out he h
              have HALE : Hid (∀ v, v < m → A v ≤ m) := fun v h => HPO.out.le HO.out.len h
              go_wp2_with fail
              go_loopw [15] (fun kv Wr => ∃ (k : Nat) (B : Nat → Int), kv = .int .i64 (k : Int) ∧ k ≤ N ∧ LaI (g.take k) m A B ∧ FB Wr O m (nms A) ∧ FB Wr P m (nmi B) ∧ Keeps (fun b => O ≤ b) w4 Wr) (fun kv _ => N - (intOf kv).toNat)
              case atStart => exact ⟨0, B0, rfl, Nat.zero_le _, LaI.start m A HB0.out, HFA.out, HFB.out, HKX.out⟩
              case round =>
                obtain ⟨k, B, rfl, hkN, hla, hfa, hfb, kx⟩ := hrel
                clear HFA HFB HKX HB0
                have HLA : Hid (LaI (g.take k) m A B) := hla
                clear hla
                by_cases hlk : k < N
                · have o1 : decide ((k : Int) < (N : Int)) = true := decide_eq_true (by omega)
                  have o2 : decide (k < N) = true := decide_eq_true hlk
                  have o3 : (k : Int) < (N : Int) := by omega
                  have o4 : (0 : Int) ≤ (k : Int) := by omega
                  have hwk : IntKind.i64.wrap ((k : Int) + 1) = (k : Int) + 1 := by rw [IntKind.wrap_i64]; omega
                  have hkl : k < g.length := by rw [HN.out]; exact hlk
                  obtain ⟨eb, eo, rfl, hce⟩ := HEW.out wr kx k (by rw [List.length_map]; exact hkl)
                  rw [(eg_at hkl).1] at hce
                  have hc0 := hce 0 _ rfl
                  have hc1 := hce 1 _ rfl
                  rw [Nat.add_zero] at hc0
                  have hmem := (eg_at hkl).2
                  have hcm := HBL.out _ hmem
                  have hed := HEDG.out _ hmem
                  have hau := HALE.out _ hcm.1
                  have HST : Hid ((A (g.getD k eg0).f : Int) ≤ B (g.getD k eg0).t → LaI (g.take (k + 1)) m A B) := fun h => by rw [take_eg hkl]; exact HLA.out.stay h
                  have HUP : Hid (B (g.getD k eg0).t < (A (g.getD k eg0).f : Int) → LaI (g.take (k + 1)) m A (upI B (g.getD k eg0).t (A (g.getD k eg0).f : Int))) := fun h => by rw [take_eg hkl]; exact HLA.out.up h hau
                  generalize g.getD k eg0 = c at *
                  have r0 : ∀ u : KS wr, u.1.cell? ⟨eb, eo + k * 4, none⟩ = some (.int .i64 (c.f : Int)) := ks_cell hc0
                  have r1 : ∀ u : KS wr, u.1.cell? ⟨eb, eo + k * 4 + 1, none⟩ = some (.int .i64 (c.t : Int)) := ks_cell hc1
                  have hNE : Nonempty (KS wr) := ⟨⟨wr, Keeps.refl _ wr⟩⟩
                  have HFA : Hid (FB wr O m (nms A)) := hfa
                  have HFB : Hid (FB wr P m (nmi B)) := hfb
                  have HKX : Hid (Keeps (fun b => O ≤ b) w4 wr) := kx
                  clear hce hc0 hc1 hkl hmem hau HLA hfa hfb kx
                  generalize c.f = cf at *
                  generalize c.t = ct at *
                  have n1 : (0 : Int) ≤ (cf : Int) := by omega
                  have n2 : (cf : Int) < (m : Int) := by omega
                  have n3 : (0 : Int) ≤ (ct : Int) := by omega
                  have n4 : (ct : Int) < (m : Int) := by omega
                  go_wp2_with fail
                  refine wp_region_ks (by kernel_rfl) (by kernel_rfl) ?_
                  (repeat (first | go_big_quiet_skip | go_big_quiet_step (fail)))
                  refine wpQuiet_nil ?_
                  rintro _ ⟨ux, rfl⟩
                  have kux := ux.property
                  clear r0 r1 hNE
                  generalize ux.val = wx at *
                  have hx1 := HFA.out.keep kux (fun e => e)
                  have HX2 : Hid (FB wx P m (nmi B)) := HFB.out.keep kux (fun e => e)
                  have r2 : ∀ u : KS wx, u.1.cell? ⟨O, cf, none⟩ = some (.int .i64 (A cf : Int)) := ks_cell (hx1.c cf hcm.1)
                  have r3 : ∀ u : KS wx, u.1.cell? ⟨O, ct, none⟩ = some (.int .i64 (A ct : Int)) := ks_cell (hx1.c ct hcm.2)
                  have hNE : Nonempty (KS wx) := ⟨⟨wx, Keeps.refl _ wx⟩⟩
                  have HX1 : Hid (FB wx O m (nms A)) := hx1
                  have HKX2 : Hid (Keeps (fun b => O ≤ b) w4 wx) := HKX.out.trans' kux (fun _ _ e => e) (fun _ _ e => e.elim)
                  clear hx1 kux HFA HFB HKX
                  by_cases ha : A ct < m
                  · have a1 : decide ((A ct : Int) < (m : Int)) = true := decide_eq_true (by omega)
                    have a2 : decide (A ct < m) = true := decide_eq_true ha
                    have a3 := hed ha
                    have a4 : decide ((A cf : Int) ≥ (A ct : Int)) = false := decide_eq_false (by omega)
                    have a5 : decide ((A ct : Int) ≤ (A cf : Int)) = false := decide_eq_false (by omega)
                    have a6 : decide (A ct ≤ A cf) = false := decide_eq_false (by omega)
                    clear ha a3 hed
                    go_wp2_with fail
                    refine wp_region_ks (by kernel_rfl) (by kernel_rfl) ?_
                    (repeat (first | go_big_quiet_skip | go_big_quiet_step (fail)))
                    refine wpQuiet_nil ?_
                    rintro _ ⟨uy, rfl⟩
                    have kuy := uy.property
                    clear r2 r3 hNE
                    generalize uy.val = wy at *
                    have hy1 := HX1.out.keep kuy (fun e => e)
                    have hy2 := HX2.out.keep kuy (fun e => e)
                    have HKY : Hid (Keeps (fun b => O ≤ b) w4 wy) := HKX2.out.trans' kuy (fun _ _ e => e) (fun _ _ e => e.elim)
                    clear kuy HX1 HX2 HKX2
                    have r5 : ∀ u : KS wy, u.1.cell? ⟨O, cf, none⟩ = some (.int .i64 (A cf : Int)) := ks_cell (hy1.c cf hcm.1)
                    have r6 : ∀ u : KS wy, u.1.cell? ⟨P, ct, none⟩ = some (.int .i64 (B ct)) := ks_cell (hy2.c ct hcm.2)
                    have hNE : Nonempty (KS wy) := ⟨⟨wy, Keeps.refl _ wy⟩⟩
                    have HY1 : Hid (FB wy O m (nms A)) := hy1
                    have HY2 : Hid (FB wy P m (nmi B)) := hy2
                    clear hy1 hy2
                    generalize hbt : B ct = bt at *
                    have HBT : Hid (B ct = bt) := hbt
                    clear hbt
                    by_cases q : bt < (A cf : Int)
                    · have t1 : decide ((A cf : Int) > bt) = true := decide_eq_true (by omega)
                      have t2 : decide (bt < (A cf : Int)) = true := decide_eq_true q
                      have HNL : Hid (LaI (g.take (k + 1)) m A (upI B ct (A cf : Int))) := HUP.out q
                      clear q
                      go_wp2_with fail
                      refine wp_region_ks (by kernel_rfl) (by kernel_rfl) ?_
                      (repeat (first | go_big_quiet_skip | go_big_quiet_step (fail)))
                      refine wpQuiet_nil ?_
                      rintro _ ⟨uz, rfl⟩
                      have kuz := uz.property
                      clear r5 r6 hNE
                      generalize uz.val = wz at *
                      have hz1 := HY1.out.keep kuz (fun e => e)
                      have hz2 := HY2.out.keep kuz (fun e => e)
                      have z1 := hz1.c cf hcm.1
                      have z1' : wz.cell? ⟨O, cf, none⟩ = some (.int .i64 (A cf : Int)) := z1
                      have HZ1 : Hid (FB wz O m (nms A)) := hz1
                      clear z1 hz1
                      go_wp2_with (refine wpList_store_fi rfl rfl _ _ rfl P ct rfl (A cf : Int) rfl hz2 hcm.2 ?_; intro w9 hf9 k9 hz9; clear hz9 hz2 z1')
                      go_roundw
                      case rel => exact ⟨k + 1, _, by go_num, by omega, HNL.out, HZ1.out.keep k9 (fun e => HOP.out e), hf9.congr (fun p _ => nmi_up p), ((HKY.out.trans' kuz (fun _ _ e => e) (fun _ _ e => e.elim))).trans' k9 (fun _ _ e => e) (fun b _ e => by have e : b = P := e; rw [e]; exact HOPl.out)⟩
                      case measure => simp [intOf]; omega
                    · have t1 : decide ((A cf : Int) > bt) = false := decide_eq_false (by omega)
                      have t2 : decide (bt < (A cf : Int)) = false := decide_eq_false q
                      have HNL : Hid (LaI (g.take (k + 1)) m A B) := HST.out (by have := HBT.out; omega)
                      clear q
                      go_wp2_with fail
                      refine wp_region_ks (by kernel_rfl) (by kernel_rfl) ?_
                      (repeat (first | go_big_quiet_skip | go_big_quiet_step (fail)))
                      refine wpQuiet_nil ?_
                      rintro _ ⟨uz, rfl⟩
                      have kuz := uz.property
                      clear r5 r6 hNE
                      generalize uz.val = wz at *
                      go_wp2_with fail
                      go_roundw
                      case rel => exact ⟨k + 1, B, by go_num, by omega, HNL.out, HY1.out.keep kuz (fun e => e), HY2.out.keep kuz (fun e => e), HKY.out.trans' kuz (fun _ _ e => e) (fun _ _ e => e.elim)⟩
                      case measure => simp [intOf]; omega
                  · have a1 : decide ((A ct : Int) < (m : Int)) = false := decide_eq_false (by omega)
                    have a2 : decide (A ct < m) = false := decide_eq_false ha
                    clear ha hed
                    go_wp2_with fail
                    refine wp_region_ks (by kernel_rfl) (by kernel_rfl) ?_
                    (repeat (first | go_big_quiet_skip | go_big_quiet_step (fail)))
                    refine wpQuiet_nil ?_
                    rintro _ ⟨uy, rfl⟩
                    have kuy := uy.property
                    clear r2 r3 hNE
                    generalize uy.val = wy at *
                    have hy1 := HX1.out.keep kuy (fun e => e)
                    have hy2 := HX2.out.keep kuy (fun e => e)
                    have HKY : Hid (Keeps (fun b => O ≤ b) w4 wy) := HKX2.out.trans' kuy (fun _ _ e => e) (fun _ _ e => e.elim)
                    clear kuy HX1 HX2 HKX2
                    have r5 : ∀ u : KS wy, u.1.cell? ⟨O, cf, none⟩ = some (.int .i64 (A cf : Int)) := ks_cell (hy1.c cf hcm.1)
                    have r6 : ∀ u : KS wy, u.1.cell? ⟨P, ct, none⟩ = some (.int .i64 (B ct)) := ks_cell (hy2.c ct hcm.2)
                    have hNE : Nonempty (KS wy) := ⟨⟨wy, Keeps.refl _ wy⟩⟩
                    have HY1 : Hid (FB wy O m (nms A)) := hy1
                    have HY2 : Hid (FB wy P m (nmi B)) := hy2
                    clear hy1 hy2
                    generalize hbt : B ct = bt at *
                    have HBT : Hid (B ct = bt) := hbt
                    clear hbt
                    by_cases q : bt < (A cf : Int)
                    · have t1 : decide ((A cf : Int) > bt) = true := decide_eq_true (by omega)
                      have t2 : decide (bt < (A cf : Int)) = true := decide_eq_true q
                      have HNL : Hid (LaI (g.take (k + 1)) m A (upI B ct (A cf : Int))) := HUP.out q
                      clear q
                      go_wp2_with fail
                      refine wp_region_ks (by kernel_rfl) (by kernel_rfl) ?_
                      (repeat (first | go_big_quiet_skip | go_big_quiet_step (fail)))
                      refine wpQuiet_nil ?_
                      rintro _ ⟨uz, rfl⟩
                      have kuz := uz.property
                      clear r5 r6 hNE
                      generalize uz.val = wz at *
                      have hz1 := HY1.out.keep kuz (fun e => e)
                      have hz2 := HY2.out.keep kuz (fun e => e)
                      have z1 := hz1.c cf hcm.1
                      have z1' : wz.cell? ⟨O, cf, none⟩ = some (.int .i64 (A cf : Int)) := z1
                      have HZ1 : Hid (FB wz O m (nms A)) := hz1
                      clear z1 hz1
                      go_wp2_with (refine wpList_store_fi rfl rfl _ _ rfl P ct rfl (A cf : Int) rfl hz2 hcm.2 ?_; intro w9 hf9 k9 hz9; clear hz9 hz2 z1')
                      go_roundw
                      case rel => exact ⟨k + 1, _, by go_num, by omega, HNL.out, HZ1.out.keep k9 (fun e => HOP.out e), hf9.congr (fun p _ => nmi_up p), ((HKY.out.trans' kuz (fun _ _ e => e) (fun _ _ e => e.elim))).trans' k9 (fun _ _ e => e) (fun b _ e => by have e : b = P := e; rw [e]; exact HOPl.out)⟩
                      case measure => simp [intOf]; omega
                    · have t1 : decide ((A cf : Int) > bt) = false := decide_eq_false (by omega)
                      have t2 : decide (bt < (A cf : Int)) = false := decide_eq_false q
                      have HNL : Hid (LaI (g.take (k + 1)) m A B) := HST.out (by have := HBT.out; omega)
                      clear q
                      go_wp2_with fail
                      refine wp_region_ks (by kernel_rfl) (by kernel_rfl) ?_
                      (repeat (first | go_big_quiet_skip | go_big_quiet_step (fail)))
                      refine wpQuiet_nil ?_
                      rintro _ ⟨uz, rfl⟩
                      have kuz := uz.property
                      clear r5 r6 hNE
                      generalize uz.val = wz at *
                      go_wp2_with fail
                      go_roundw
                      case rel => exact ⟨k + 1, B, by go_num, by omega, HNL.out, HY1.out.keep kuz (fun e => e), HY2.out.keep kuz (fun e => e), HKY.out.trans' kuz (fun _ _ e => e) (fun _ _ e => e.elim)⟩
                      case measure => simp [intOf]; omega
                · have o1 : decide ((k : Int) < (N : Int)) = false := decide_eq_false (by omega)
                  have o2 : decide (k < N) = false := decide_eq_false hlk
                  have HLA2 : Hid (LaI g m A B) := by
                    have h := HLA.out
                    rw [List.take_of_length_le (by rw [HN.out]; omega)] at h
                    exact h
                  have HFA : Hid (FB wr O m (nms A)) := hfa
                  have HFB : Hid (FB wr P m (nmi B)) := hfb
                  have HKX : Hid (Keeps (fun b => O ≤ b) w4 wr) := kx
                  clear HLA hfa hfb kx HEDG HALE
                  have HLA : Hid (LaI g m A B) := HLA2.out
                  clear HLA2
                  have HNXT : Hid (∀ v i : Nat, v < m → B v < (i : Int) → i < A v → i < Q → L.getD i 0 ≤ v) := fun v i h1 h2 h3 h4 => HLA.out.next HPO.out HO.out HBL.out h1 h2 h3 (by rw [HQ.out]; exact h4)
                  have HOUT : Hid (∀ v, v < m → A v = m → (m : Int) ≤ B v) := fun v h1 h2 => HLA.out.out HPO.out HO.out HCP.out HBL.out h1 h2
                  have HBB : Hid (∀ v, v < m → -1 ≤ B v ∧ B v ≤ (m : Int)) := HLA.out.b
                  clear HLA
                  go_wp2_with fail
                  go_loopg [18] m (fun gh vv Wr => ∃ (v : Nat), gh + v = m ∧ vv = .int .i64 (v : Int) ∧ v ≤ m ∧ FB Wr O m (nms A) ∧ FB Wr P m (nmi B) ∧ Keeps (fun b => O ≤ b) w4 Wr)
                  case atStart => exact ⟨0, rfl, rfl, Nat.zero_le _, HFA.out, HFB.out, HKX.out⟩
                  case round =>
                    obtain ⟨v, hgh, rfl, hvm', hfa, hfb, kv⟩ := hrel
                    clear HFA HFB HKX
                    by_cases hvm : v < m
                    · have j1 : decide ((v : Int) < (m : Int)) = true := decide_eq_true (by omega)
                      have j2 : decide (v < m) = true := decide_eq_true hvm
                      have j3 : (v : Int) < (m : Int) := by omega
                      have j4 : (0 : Int) ≤ (v : Int) := by omega
                      have hwv : IntKind.i64.wrap ((v : Int) + 1) = (v : Int) + 1 := by rw [IntKind.wrap_i64]; omega
                      have c1 : wr.cell? ⟨O, v, none⟩ = some (.int .i64 (A v : Int)) := hfa.c v hvm
                      have c2 : wr.cell? ⟨P, v, none⟩ = some (.int .i64 (B v)) := hfb.c v hvm
                      have HFA : Hid (FB wr O m (nms A)) := hfa
                      have HFBB : Hid (FB wr P m (nmi B)) := hfb
                      have HKV : Hid (Keeps (fun b => O ≤ b) w4 wr) := kv
                      have hbb := HBB.out v hvm
                      have hout := HOUT.out v hvm
                      obtain ⟨av, hav⟩ : ∃ av, A v = av := ⟨_, rfl⟩
                      obtain ⟨i0, hi0⟩ : ∃ i0 : Nat, B v + 1 = (i0 : Int) := ⟨(B v + 1).toNat, by omega⟩
                      have HAV : Hid (A v = av) := hav
                      have HI0E : Hid (B v + 1 = (i0 : Int)) := hi0
                      rw [hav] at c1 hout
                      have HCV : Hid (wr.cell? ⟨O, v, none⟩ = some (.int .i64 (av : Int))) := c1
                      have hi0m : i0 ≤ m + 1 := by omega
                      clear hav hfa hfb kv
                      generalize hbv : B v = bv at *
                      have hwb : IntKind.i64.wrap (bv + 1) = (i0 : Int) := by rw [IntKind.wrap_i64]; omega
                      by_cases e : av = m
                      · have e1 : ((av : Int) == (m : Int)) = true := by simp [e]
                        have e2 : (av == m) = true := by simp [e]
                        have e3 : decide (bv < (m : Int)) = false := decide_eq_false (by have := hout e; omega)
                        have HBV : Hid (B v = bv) := hbv
                        clear hout e hbb hi0 hbv
                        go_wp2_with fail
                        rw [← HBV.out] at HI0E
                        have HI0 : Hid (∀ i : Nat, i0 ≤ i → i < av → i < Q → L.getD i 0 ≤ v) := fun i h1 h2 h3 => HNXT.out v i hvm (by have := HI0E.out; omega) (by rw [HAV.out]; exact h2) h3
                        obtain ⟨wo, hwo⟩ : ∃ wo, wo = wr := ⟨_, rfl⟩
                        subst hwo
                        go_loopw [19] (fun iv Wx => ∃ (i : Nat), iv = .int .i64 (i : Int) ∧ i0 ≤ i ∧ i ≤ m + 1 ∧ Keeps (fun _ => False) wo Wx) (fun iv _ => m + 1 - (intOf iv).toNat)
                        case atStart => exact ⟨i0, rfl, Nat.le_refl _, hi0m, Keeps.refl _ _⟩
                        case round =>
                          obtain ⟨i, rfl, hi0, him, kx⟩ := hrel
                          have hcv : wr.cell? ⟨O, v, none⟩ = some (.int .i64 (av : Int)) := kx.cell HCV.out (fun e => e)
                          have HKX : Hid (Keeps (fun _ => False) wo wr) := kx
                          have HKV2 : Hid (Keeps (fun b => O ≤ b) w4 wr) := HKV.out.trans' kx (fun _ _ e => e) (fun _ _ e => e.elim)
                          clear kx
                          have hwi : IntKind.i64.wrap ((i : Int) + 1) = (i : Int) + 1 := by rw [IntKind.wrap_i64]; omega
                          by_cases c1 : i < av
                          · have d1 : decide ((i : Int) < (av : Int)) = true := decide_eq_true (by omega)
                            have d2 : decide (i < av) = true := decide_eq_true c1
                            by_cases c2 : i < Q
                            · have d3 : decide ((i : Int) < (Q : Int)) = true := decide_eq_true (by omega)
                              have d4 : decide (i < Q) = true := decide_eq_true c2
                              have d5 : (i : Int) < (Q : Int) := by omega
                              have d6 : (0 : Int) ≤ (i : Int) := by omega
                              obtain ⟨lb, lo, rfl, hci⟩ := HPW.out wr HKV2.out i (by rw [HQ.out]; exact c2)
                              have hle := HI0.out i hi0 c1 c2
                              generalize L.getD i 0 = x at *
                              have d7 : decide ((x : Int) > (v : Int)) = false := decide_eq_false (by omega)
                              have d8 : decide ((v : Int) < (x : Int)) = false := decide_eq_false (by omega)
                              have d9 : decide (v < x) = false := decide_eq_false (by omega)
                              clear c1 c2 hle
                              go_wp2_with fail
                              go_roundw
                              case rel => exact ⟨i + 1, by go_num, by omega, by omega, HKX.out⟩
                              case measure => simp [intOf]; omega
                            · have d3 : decide ((i : Int) < (Q : Int)) = false := decide_eq_false (by omega)
                              have d4 : decide (i < Q) = false := decide_eq_false c2
                              clear c1 c2
                              have HF1 : Hid (FB wr O m (nms A)) := HFA.out.keep HKX.out (fun e => e)
                              have HF2 : Hid (FB wr P m (nmi B)) := HFBB.out.keep HKX.out (fun e => e)
                              go_wp2_with fail
                              go_roundg (gk - 1)
                              case measure => omega
                              case rel => exact ⟨v + 1, by omega, by go_num, by omega, HF1.out, HF2.out, HKV2.out⟩
                          · have d1 : decide ((i : Int) < (av : Int)) = false := decide_eq_false (by omega)
                            have d2 : decide (i < av) = false := decide_eq_false c1
                            clear c1
                            have HF1 : Hid (FB wr O m (nms A)) := HFA.out.keep HKX.out (fun e => e)
                            have HF2 : Hid (FB wr P m (nmi B)) := HFBB.out.keep HKX.out (fun e => e)
                            go_wp2_with fail
                            go_roundg (gk - 1)
                            case measure => omega
                            case rel => exact ⟨v + 1, by omega, by go_num, by omega, HF1.out, HF2.out, HKV2.out⟩
                      · have e1 : ((av : Int) == (m : Int)) = false := beq_eq_false_iff_ne.2 (by omega)
                        have e2 : (av == m) = false := beq_eq_false_iff_ne.2 e
                        have HBV : Hid (B v = bv) := hbv
                        clear hout e hbb hi0 hbv
                        go_wp2_with fail
                        rw [← HBV.out] at HI0E
                        have HI0 : Hid (∀ i : Nat, i0 ≤ i → i < av → i < Q → L.getD i 0 ≤ v) := fun i h1 h2 h3 => HNXT.out v i hvm (by have := HI0E.out; omega) (by rw [HAV.out]; exact h2) h3
                        obtain ⟨wo, hwo⟩ : ∃ wo, wo = wr := ⟨_, rfl⟩
                        subst hwo
                        go_loopw [19] (fun iv Wx => ∃ (i : Nat), iv = .int .i64 (i : Int) ∧ i0 ≤ i ∧ i ≤ m + 1 ∧ Keeps (fun _ => False) wo Wx) (fun iv _ => m + 1 - (intOf iv).toNat)
                        case atStart => exact ⟨i0, rfl, Nat.le_refl _, hi0m, Keeps.refl _ _⟩
                        case round =>
                          obtain ⟨i, rfl, hi0, him, kx⟩ := hrel
                          have hcv : wr.cell? ⟨O, v, none⟩ = some (.int .i64 (av : Int)) := kx.cell HCV.out (fun e => e)
                          have HKX : Hid (Keeps (fun _ => False) wo wr) := kx
                          have HKV2 : Hid (Keeps (fun b => O ≤ b) w4 wr) := HKV.out.trans' kx (fun _ _ e => e) (fun _ _ e => e.elim)
                          clear kx
                          have hwi : IntKind.i64.wrap ((i : Int) + 1) = (i : Int) + 1 := by rw [IntKind.wrap_i64]; omega
                          by_cases c1 : i < av
                          · have d1 : decide ((i : Int) < (av : Int)) = true := decide_eq_true (by omega)
                            have d2 : decide (i < av) = true := decide_eq_true c1
                            by_cases c2 : i < Q
                            · have d3 : decide ((i : Int) < (Q : Int)) = true := decide_eq_true (by omega)
                              have d4 : decide (i < Q) = true := decide_eq_true c2
                              have d5 : (i : Int) < (Q : Int) := by omega
                              have d6 : (0 : Int) ≤ (i : Int) := by omega
                              obtain ⟨lb, lo, rfl, hci⟩ := HPW.out wr HKV2.out i (by rw [HQ.out]; exact c2)
                              have hle := HI0.out i hi0 c1 c2
                              generalize L.getD i 0 = x at *
                              have d7 : decide ((x : Int) > (v : Int)) = false := decide_eq_false (by omega)
                              have d8 : decide ((v : Int) < (x : Int)) = false := decide_eq_false (by omega)
                              have d9 : decide (v < x) = false := decide_eq_false (by omega)
                              clear c1 c2 hle
                              go_wp2_with fail
                              go_roundw
                              case rel => exact ⟨i + 1, by go_num, by omega, by omega, HKX.out⟩
                              case measure => simp [intOf]; omega
                            · have d3 : decide ((i : Int) < (Q : Int)) = false := decide_eq_false (by omega)
                              have d4 : decide (i < Q) = false := decide_eq_false c2
                              clear c1 c2
                              have HF1 : Hid (FB wr O m (nms A)) := HFA.out.keep HKX.out (fun e => e)
                              have HF2 : Hid (FB wr P m (nmi B)) := HFBB.out.keep HKX.out (fun e => e)
                              go_wp2_with fail
                              go_roundg (gk - 1)
                              case measure => omega
                              case rel => exact ⟨v + 1, by omega, by go_num, by omega, HF1.out, HF2.out, HKV2.out⟩
                          · have d1 : decide ((i : Int) < (av : Int)) = false := decide_eq_false (by omega)
                            have d2 : decide (i < av) = false := decide_eq_false c1
                            clear c1
                            have HF1 : Hid (FB wr O m (nms A)) := HFA.out.keep HKX.out (fun e => e)
                            have HF2 : Hid (FB wr P m (nmi B)) := HFBB.out.keep HKX.out (fun e => e)
                            go_wp2_with fail
                            go_roundg (gk - 1)
                            case measure => omega
                            case rel => exact ⟨v + 1, by omega, by go_num, by omega, HF1.out, HF2.out, HKV2.out⟩
                    · have j1 : decide ((v : Int) < (m : Int)) = false := decide_eq_false (by omega)
                      have j2 : decide (v < m) = false := decide_eq_false hvm
                      have HEND : Hid (Below w.heap.size w wr) := (HKF.out wr kv).below (Nat.le_refl _) (fun _ _ e => e)
                      clear hfa hfb kv
                      go_wp2_with fail
                      go_ret
                      exact ⟨rfl, HEND.out⟩
theorem gsound_any {w : World} (n : Int) (_ : I64 n) {a : Option Addr} {cap : Nat} {l : List Ed} (hl : EL w a l) (_ : a = none → cap = 0) (hlen : l.length ≤ 4398046510976) : Calls Try.prog 6 #[.int .i64 n, .slice a l.length cap] w fun e w' => e = .returned (.bool true) ∧ Below w.heap.size w w' := by
  by_cases h0 : fltG n l = 0
  · obtain ⟨m, g, rfl, hm, rfl, hbl⟩ := good_eg h0
    rw [List.length_map] at hlen ⊢
    exact gsound_good hl hbl hm hlen
  · exact gsound_bad n hl hlen h0
end Go.Proofs.Ytfbbllokpikbiab
