import Derived.Test.YtlglhmmlebjidaaLjF
namespace Go.Proofs.Ytlglhmmlebjidaa
open Go.RowKit
/-- A list of places is a line, as far as it goes, place by place. -/
def LnP (l : List Cl) (L : List Nat) : Prop := ∀ k, k < L.length → okN l (L.take k) (setK l L k) (L.getD k 0) = true
/-- What Line answers. -/
def LiP (l : List Cl) (L : List Nat) (wh : Bool) (w : World) (e : Ending) (w' : World) : Prop := ∃ b, e = .returned (.bool b) ∧ (b = true ↔ LnP l L ∧ (wh = true → compL l L = true)) ∧ Keeps (fun _ => False) w w'
theorem mem_take_next {L : List Nat} {j x : Nat} (h : j < L.length) : x ∈ L.take (j + 1) ↔ x ∈ L.take j ∨ x = L.getD j 0 := by
  rw [take_nextP h, List.mem_append]
  simp
theorem okN_split {l : List Cl} {L : List Nat} {S : List Int} {p : Nat} (h : okN l L S p = true) : p ∉ L ∧ (∀ a, a < l.length → ansD (l.getD a cl0) = true → (l.getD a cl0).to_ < (l.getD p cl0).from_ → a ∈ L) ∧ goesP (l.getD p cl0) (doesL S (l.getD p cl0)).1 (doesL S (l.getD p cl0)).2.1 = true := by
  unfold okN at h
  simp only [Bool.and_eq_true] at h
  exact ⟨of_decide_eq_true h.1, of_decide_eq_true h.2.1, h.2.2⟩
set_option maxHeartbeats 3000000 in
set_option maxRecDepth 100000 in
theorem rline_any {w : World} {a la : Option Addr} {cap lc : Nat} {l : List Cl} {L : List Nat} (hl : CSL w a l) (hn : l.length ≤ 8) (hp : PM w la L) (hb : ∀ x ∈ L, x < l.length) (hm : L.length ≤ 100) (wh : Bool) : Calls Try.prog 49 #[.slice a l.length cap, .slice la L.length lc, .bool wh] w (LiP l L wh w) := by
  have HL : Hid (CSL w a l) := hl
  have HPM : Hid (PM w la L) := hp
  have HBD : Hid (∀ x ∈ L, x < l.length) := hb
  clear hl hp hb
  generalize hN : l.length = N at *
  have HN : Hid (l.length = N) := hN
  clear hN
  generalize hM : L.length = M at *
  have HM : Hid (L.length = M) := hM
  clear hM
  go_enter Try.func49, Try.ntmps49
  go_wp2_with fail
  go_loopg [7, 8] M (fun g sv iv Wr => ∃ (i : Nat) (sa : Option Addr) (sc : Nat), i + g = M ∧ sv = .slice sa (setK l L i).length sc ∧ iv = .int .i64 (i : Int) ∧ (∀ k, k < i → okN l (L.take k) (setK l L k) (L.getD k 0) = true) ∧ KL Wr sa (setK l L i) ∧ Keeps (fun _ => False) w Wr)
  case atStart => exact ⟨0, none, 0, by omega, rfl, rfl, fun k hk => absurd hk (by omega), fun i hi => absurd hi (by simp [setK]), Keeps.refl _ _⟩
  case round =>
    obtain ⟨i, sa, sc, hig, rfl, rfl, hok, hks, kr⟩ := hrel
    have HOK : Hid (∀ k, k < i → okN l (L.take k) (setK l L k) (L.getD k 0) = true) := hok
    have HKS : Hid (KL wr sa (setK l L i)) := hks
    obtain ⟨w0, hw0⟩ : ∃ w0, w0 = wr := ⟨_, rfl⟩
    subst hw0
    have HKR : Hid (Keeps (fun _ => False) w w0) := kr
    clear hok hks
    cases gk with
    | succ g =>
      have m1o : decide ((i : Int) < (M : Int)) = true := decide_eq_true (by omega)
      have m2o : decide (i < M) = true := decide_eq_true (by omega)
      have m3o : (i : Int) < (M : Int) := by omega
      have m4o : (0 : Int) ≤ (i : Int) := by omega
      have m5o : IntKind.i64.wrap ((i : Int) + 1) = (i : Int) + 1 := by rw [IntKind.wrap_i64]; omega
      have hiL : i < L.length := by rw [HM.out]; omega
      obtain ⟨bl, ol, el, hcl⟩ := HPM.out i hiL
      subst el
      have c0 := kr.cell hcl (fun e => e)
      have HPN : Hid (L.getD i 0 < N) := HBD.out _ (getD_mem hiL)
      have HOKN : Hid (okN l (L.take i) (setK l L i) (L.getD i 0) = true → ∀ k, k < i + 1 → okN l (L.take k) (setK l L k) (L.getD k 0) = true) := fun h k hk => by
        by_cases e : k = i
        · rw [e]; exact h
        · exact HOK.out k (by omega)
      have HNOT : Hid (okN l (L.take i) (setK l L i) (L.getD i 0) = false → ¬ LnP l L) := fun h hP => by rw [hP i hiL] at h; cases h
      have HNS : Hid (setK l L (i + 1) = (doesL (setK l L i) (l.getD (L.getD i 0) cl0)).2.2) := rfl
      have hsl : (setK l L i).length ≤ 17592186043000 := Nat.le_trans (setK_len l L i) (by omega)
      have HDO : Hid (∀ W, Keeps (fun _ => False) w0 W → Calls Try.prog 32 #[.slice sa (setK l L i).length sc, .agg (l.getD (L.getD i 0) cl0).cells.toArray] W (DoP (setK l L i) (l.getD (L.getD i 0) cl0) sa W)) := fun W kW => rdoes_any (HKS.out.keep kW) (rise_setK l L i) hsl _
      clear hcl hiL hsl HOK
      obtain ⟨p, hp⟩ : ∃ p, p = L.getD i 0 := ⟨_, rfl⟩
      rw [← hp] at c0 HPN HOKN HNOT HNS HDO
      clear hp
      have hpN := HPN.out
      have hp1 : (p : Int) < (N : Int) := by omega
      have hp2 : decide ((p : Int) < 0) = false := decide_eq_false (by omega)
      have hp3 : decide ((N : Int) ≤ (p : Int)) = false := decide_eq_false (by omega)
      have hp4 : decide (N ≤ p) = false := decide_eq_false (by omega)
      obtain ⟨bc, oc, ec, hcp⟩ := HL.out p (by rw [HN.out]; exact hpN)
      subst ec
      have HCP : Hid (∀ W, Keeps (fun _ => False) w W → ∀ j v, (l.getD p cl0).cells[j]? = some v → W.cell? ⟨bc, oc + p * 8 + j, none⟩ = some v) := fun W kW j v e => kW.cell (hcp j v e) (fun e => e)
      clear hcp
      obtain ⟨NS, hNS⟩ : ∃ NS, NS = (setK l L i).length := ⟨_, rfl⟩
      rw [← hNS] at HDO
      rw [← hNS]
      clear hNS
      go_wp2_with fail
      go_loopg [10] i (fun g2 jv Wx => ∃ (j : Nat), j + g2 = i ∧ jv = .int .i64 (j : Int) ∧ p ∉ L.take j ∧ Keeps (fun _ => False) w0 Wx)
      case atStart => exact ⟨0, by omega, rfl, by simp, Keeps.refl _ _⟩
      case round =>
        obtain ⟨j, hjg, rfl, hnin, k2⟩ := hrel
        have HNI : Hid (p ∉ L.take j) := hnin
        clear hnin
        cases gk with
        | succ g2 =>
          have m1d : decide ((j : Int) < (i : Int)) = true := decide_eq_true (by omega)
          have m2d : decide (j < i) = true := decide_eq_true (by omega)
          have m3d : (j : Int) < (i : Int) := by omega
          have m4d : (0 : Int) ≤ (j : Int) := by omega
          have m5d : IntKind.i64.wrap ((j : Int) + 1) = (j : Int) + 1 := by rw [IntKind.wrap_i64]; omega
          have hjM : (j : Int) < (M : Int) := by omega
          have hjL : j < L.length := by rw [HM.out]; omega
          obtain ⟨bl', ol', el, hcl⟩ := HPM.out j hjL
          injection el with el
          injection el with el1 el2 _
          subst el1 el2
          have cj := (HKR.out.trans k2).cell hcl (fun e => e)
          have HTN : Hid (p ∈ L.take (j + 1) ↔ p ∈ L.take j ∨ p = L.getD j 0) := mem_take_next hjL
          have HIT : Hid (L.take (j + 1) ⊆ L.take i) := List.take_subset_take_left _ (by omega)
          clear hcl hjL
          generalize L.getD j 0 = z at *
          by_cases hz : z = p
          · have z1 : ((z : Int) == (p : Int)) = true := by simp [hz]
            have z2 : (z == p) = true := by simp [hz]
            have HF : Hid (¬ LnP l L) := HNOT.out (okN_in (HIT.out (HTN.out.2 (.inr hz.symm))))
            clear hz
            go_wp2_with fail
            go_ret
            exact ⟨false, rfl, ⟨(fun e => by cases e), fun h => absurd h.1 HF.out⟩, HKR.out.trans k2⟩
          · have z1 : ((z : Int) == (p : Int)) = false := by simp; omega
            have z2 : (z == p) = false := by simp; omega
            have HF : Hid (p ∉ L.take (j + 1)) := fun h => (HTN.out.1 h).elim HNI.out (fun e => hz e.symm)
            clear hz
            go_wp2_with fail
            go_roundg g2
            case measure => omega
            case rel => exact ⟨j + 1, by omega, by go_num, HF.out, k2⟩
        | zero =>
          obtain rfl : j = i := by omega
          have m1d : decide ((j : Int) < (j : Int)) = false := decide_eq_false (by omega)
          have m2d : decide (j < j) = false := decide_eq_false (by omega)
          have Kw2 : Hid (Keeps (fun _ => False) w wr) := HKR.out.trans k2
          obtain ⟨w2, hw2⟩ : ∃ w2, w2 = wr := ⟨_, rfl⟩
          subst hw2
          go_wp2_with fail
          go_loopg [11] N (fun g3 xv Wx => ∃ (x : Nat), x + g3 = N ∧ xv = .int .i64 (x : Int) ∧ (∀ y, y < x → ansD (l.getD y cl0) = true → (l.getD y cl0).to_ < (l.getD p cl0).from_ → y ∈ L.take j) ∧ Keeps (fun _ => False) w0 Wx)
          case atStart => exact ⟨0, by omega, rfl, fun y hy => absurd hy (by omega), k2⟩
          case round =>
            obtain ⟨x, hxg, rfl, hah, k3⟩ := hrel
            have HAH : Hid (∀ y, y < x → ansD (l.getD y cl0) = true → (l.getD y cl0).to_ < (l.getD p cl0).from_ → y ∈ L.take j) := hah
            clear hah
            have Kw3 := HKR.out.trans k3
            cases gk with
            | succ g3 =>
              have m1a : decide ((x : Int) < (N : Int)) = true := decide_eq_true (by omega)
              have m2a : decide (x < N) = true := decide_eq_true (by omega)
              have m3a : (x : Int) < (N : Int) := by omega
              have m4a : (0 : Int) ≤ (x : Int) := by omega
              have m5a : IntKind.i64.wrap ((x : Int) + 1) = (x : Int) + 1 := by rw [IntKind.wrap_i64]; omega
              have hxL : x < l.length := by rw [HN.out]; omega
              obtain ⟨b3, o3, e3, hc3⟩ := HL.out x hxL
              injection e3 with e3
              injection e3 with e31 e32 _
              subst e31 e32
              haveI : Nonempty (KS wr) := ⟨⟨wr, Keeps.refl _ _⟩⟩
              have p7 : ∀ u : KS wr, u.1.cell? ⟨bc, oc + x * 8 + 7, none⟩ = some (.int .i64 (l.getD x cl0).to_) := ks_cell (Kw3.cell (hc3 7 _ rfl) (fun e => e))
              have p5 : ∀ u : KS wr, u.1.cell? ⟨bc, oc + p * 8 + 5, none⟩ = some (.int .i64 (l.getD p cl0).from_) := ks_cell (HCP.out wr Kw3 5 _ rfl)
              have HAHN : Hid ((ansD (l.getD x cl0) = true → (l.getD x cl0).to_ < (l.getD p cl0).from_ → x ∈ L.take j) → ∀ y, y < x + 1 → ansD (l.getD y cl0) = true → (l.getD y cl0).to_ < (l.getD p cl0).from_ → y ∈ L.take j) := fun h y hy => by
                by_cases e : y = x
                · rw [e]; exact h
                · exact HAH.out y (by omega)
              have HBADA : Hid (ansD (l.getD x cl0) = true → (l.getD x cl0).to_ < (l.getD p cl0).from_ → x ∉ L.take j → ¬ LnP l L) := fun h1 h2 h3 => HNOT.out (okN_ahead hxL h1 h2 h3)
              have HANS : Hid (ansD (l.getD x cl0) = ((l.getD x cl0).to_ != -1)) := rfl
              clear hc3 hxL HAH
              generalize (l.getD p cl0).from_ = fp at *
              generalize (l.getD x cl0).to_ = tx at *
              generalize ansD (l.getD x cl0) = ax at *
              by_cases ht : tx = -1
              · have t1 : (tx == -1) = true := by simp [ht]
                have HXX : Hid _ := HAHN.out (fun h => by rw [HANS.out, ht] at h; cases h)
                clear ht HAHN HBADA
                go_wp2_with fail
                refine wp_region_ks (by kernel_rfl) (by kernel_rfl) ?_
                (repeat (first | go_big_quiet_skip | go_big_quiet_step (fail)))
                refine wpQuiet_nil ?_
                rintro _ ⟨u, rfl⟩
                have ku := k3.trans u.property
                generalize u.val = wu at *
                go_wp2
                go_roundg g3
                case measure => omega
                case rel => exact ⟨x + 1, by omega, by go_num, HXX.out, ku⟩
              · have t1 : (tx == -1) = false := by simp [ht]
                have HAX : Hid (ax = true) := by show _ = _; rw [HANS.out]; simp [ht]
                clear ht
                go_wp2_with fail
                refine wp_region_ks (by kernel_rfl) (by kernel_rfl) ?_
                (repeat (first | go_big_quiet_skip | go_big_quiet_step (fail)))
                refine wpQuiet_nil ?_
                rintro _ ⟨u, rfl⟩
                have ku := k3.trans u.property
                generalize u.val = wu at *
                generalize hdB : decide (fp ≤ tx) = dB
                cases dB with
                | true =>
                  have HXX : Hid _ := HAHN.out (fun _ h => by have := of_decide_eq_true hdB; omega)
                  clear hdB HAHN HBADA
                  go_wp2
                  go_roundg g3
                  case measure => omega
                  case rel => exact ⟨x + 1, by omega, by go_num, HXX.out, ku⟩
                | false =>
                  have HTF : Hid (tx < fp) := by have := of_decide_eq_false hdB; show _ < _; omega
                  clear hdB
                  have Kwu := HKR.out.trans ku
                  go_wp2_with fail
                  go_loopg [12, 13] j (fun g4 bv jv Wx => ∃ (q : Nat), q + g4 = j ∧ jv = .int .i64 (q : Int) ∧ bv = .bool (decide (x ∈ L.take q)) ∧ Keeps (fun _ => False) w0 Wx)
                  case atStart => exact ⟨0, by omega, rfl, by simp, ku⟩
                  case round =>
                    obtain ⟨q, hj4, rfl, rfl, k4⟩ := hrel
                    cases gk with
                    | succ g4 =>
                      have m1k : decide ((q : Int) < (j : Int)) = true := decide_eq_true (by omega)
                      have m2k : decide (q < j) = true := decide_eq_true (by omega)
                      have m3k : (q : Int) < (j : Int) := by omega
                      have m4k : (0 : Int) ≤ (q : Int) := by omega
                      have m5k : IntKind.i64.wrap ((q : Int) + 1) = (q : Int) + 1 := by rw [IntKind.wrap_i64]; omega
                      have hjL : q < L.length := by rw [HM.out]; omega
                      have hjM : (q : Int) < (M : Int) := by omega
                      obtain ⟨bl9, ol9, el, hcl⟩ := HPM.out q hjL
                      injection el with el
                      injection el with el1 el2 _
                      subst el1 el2
                      have cl4 := (HKR.out.trans k4).cell hcl (fun e => e)
                      have HTN : Hid ((decide (x ∈ L.take (q + 1))) = ((decide (x ∈ L.take q)) || decide (L.getD q 0 = x))) := by
                        show _ = _
                        rw [decide_eq_decide.2 (mem_take_next hjL), Bool.decide_or]
                        congr 1
                        exact decide_eq_decide.2 eq_comm
                      clear hcl hjL
                      generalize L.getD q 0 = z at *
                      generalize (decide (x ∈ L.take q)) = bb at *
                      cases bb with
                      | true =>
                        go_wp2_with fail
                        go_roundg g4
                        case measure => omega
                        case rel => exact ⟨q + 1, by omega, by go_num, by rw [HTN.out]; rfl, k4⟩
                      | false =>
                        by_cases hz : z = x
                        · have z1 : ((z : Int) == ((x : Nat) : Int)) = true := by simp [hz]
                          have z2 : (z == x) = true := by simp [hz]
                          have HZ : Hid (decide (z = x) = true) := decide_eq_true hz
                          clear hz
                          go_wp2_with fail
                          go_roundg g4
                          case measure => omega
                          case rel => exact ⟨q + 1, by omega, by go_num, by rw [HTN.out, HZ.out]; rfl, k4⟩
                        · have z1 : ((z : Int) == ((x : Nat) : Int)) = false := by simp; omega
                          have z2 : (z == x) = false := by simp; omega
                          have HZ : Hid (decide (z = x) = false) := decide_eq_false hz
                          clear hz
                          go_wp2_with fail
                          go_roundg g4
                          case measure => omega
                          case rel => exact ⟨q + 1, by omega, by go_num, by rw [HTN.out, HZ.out]; rfl, k4⟩
                    | zero =>
                      obtain rfl : q = j := by omega
                      have m1k : decide ((q : Int) < (q : Int)) = false := decide_eq_false (by omega)
                      have m2k : decide (q < q) = false := decide_eq_false (by omega)
                      generalize hD5 : decide (x ∈ L.take q) = d5
                      cases d5 with
                      | true =>
                        have HXX : Hid _ := HAHN.out (fun _ _ => of_decide_eq_true hD5)
                        clear hD5 HAHN HBADA
                        go_wp2_with fail
                        go_roundg g3
                        case measure => omega
                        case rel => exact ⟨x + 1, by omega, by go_num, HXX.out, k4⟩
                      | false =>
                        have HF : Hid (¬ LnP l L) := HBADA.out HAX.out HTF.out (of_decide_eq_false hD5)
                        clear hD5 HAHN HBADA
                        go_wp2_with fail
                        go_ret
                        exact ⟨false, rfl, ⟨(fun e => by cases e), fun h => absurd h.1 HF.out⟩, HKR.out.trans k4⟩
            | zero =>
              have hx : x = N := by omega
              have HAA : Hid (∀ y, y < l.length → ansD (l.getD y cl0) = true → (l.getD y cl0).to_ < (l.getD p cl0).from_ → y ∈ L.take j) := by rw [HN.out, ← hx]; exact HAH.out
              have m1a : decide ((x : Int) < (N : Int)) = false := decide_eq_false (by omega)
              have m2a : decide (x < N) = false := decide_eq_false (by omega)
              have HOKG : Hid (okN l (L.take j) (setK l L j) p = goesP (l.getD p cl0) (doesL (setK l L j) (l.getD p cl0)).1 (doesL (setK l L j) (l.getD p cl0)).2.1) := by
                show _ = _
                cases hg : goesP (l.getD p cl0) (doesL (setK l L j) (l.getD p cl0)).1 (doesL (setK l L j) (l.getD p cl0)).2.1 with
                | true => exact okN_yes HNI.out HAA.out hg
                | false => exact okN_go hg
              have hR := run_cl (W := wr) (HCP.out wr (HKR.out.trans k3))
              have hdo := HDO.out wr k3
              have q7 : wr.cell? ⟨bc, oc + p * 8 + 7, none⟩ = some (.int .i64 (l.getD p cl0).to_) := HCP.out wr (HKR.out.trans k3) 7 _ rfl
              have q3 : wr.cell? ⟨bc, oc + p * 8 + 3, none⟩ = some (.bool (l.getD p cl0).yes) := HCP.out wr (HKR.out.trans k3) 3 _ rfl
              have q4 : wr.cell? ⟨bc, oc + p * 8 + 4, none⟩ = some (.int .i64 (l.getD p cl0).result) := HCP.out wr (HKR.out.trans k3) 4 _ rfl
              clear HAA HAH hx HDO
              obtain ⟨c, hcd⟩ : ∃ c, c = l.getD p cl0 := ⟨_, rfl⟩
              rw [← hcd] at hR hdo q7 q3 q4 HOKG HNS
              clear hcd
              unfold DoP at hdo
              generalize (doesL (setK l L j) c).1 = yy at *
              generalize (doesL (setK l L j) c).2.1 = rr at *
              by_cases ht : c.to_ = -1
              · have t1 : (c.to_ != -1) = false := by simp [ht]
                have HYE : Hid _ := HOKN.out (by rw [HOKG.out]; unfold goesP ansD; simp [ht])
                clear ht
                go_wp2_with (first | (refine wpList_load_runL rfl 40 _ rfl ⟨bc, oc + p * 8, none⟩ rfl _ hR ?_; clear hR) | (go_at_call 32; refine hdo.mono ?_; clear hdo; rintro e w6 ⟨sa2, sc2, rfl, hk6, k6, hb6⟩; have HK6 : Hid (KL w6 sa2 (doesL (setK l L j) c).2.2) := hk6; clear hk6; replace q7 := k6.cell q7 (fun e => e); replace q3 := k6.cell q3 (fun e => e); replace q4 := k6.cell q4 (fun e => e)))
                go_roundg g
                case measure => omega
                case rel => exact ⟨j + 1, sa2, sc2, by omega, by rw [HNS.out], by go_num, HYE.out, by rw [HNS.out]; exact HK6.out, (HKR.out.trans k3).trans k6⟩
              · have t1 : (c.to_ != -1) = true := by simp [ht]
                by_cases hy : yy = c.yes
                · subst hy
                  have y1 : (c.yes != c.yes) = false := by simp
                  by_cases hr : rr = c.result
                  · have r1 : (rr != c.result) = false := by simp [hr]
                    have HYE : Hid _ := HOKN.out (by rw [HOKG.out]; unfold goesP ansD; simp [hr])
                    clear ht hr
                    go_wp2_with (first | (refine wpList_load_runL rfl 40 _ rfl ⟨bc, oc + p * 8, none⟩ rfl _ hR ?_; clear hR) | (go_at_call 32; refine hdo.mono ?_; clear hdo; rintro e w6 ⟨sa2, sc2, rfl, hk6, k6, hb6⟩; have HK6 : Hid (KL w6 sa2 (doesL (setK l L j) c).2.2) := hk6; clear hk6; replace q7 := k6.cell q7 (fun e => e); replace q3 := k6.cell q3 (fun e => e); replace q4 := k6.cell q4 (fun e => e)))
                    go_roundg g
                    case measure => omega
                    case rel => exact ⟨j + 1, sa2, sc2, by omega, by rw [HNS.out], by go_num, HYE.out, by rw [HNS.out]; exact HK6.out, (HKR.out.trans k3).trans k6⟩
                  · have r1 : (rr != c.result) = true := by simp [hr]
                    have HF : Hid (¬ LnP l L) := HNOT.out (by rw [HOKG.out]; unfold goesP ansD; simp [hr, ht])
                    clear ht hr
                    go_wp2_with (first | (refine wpList_load_runL rfl 40 _ rfl ⟨bc, oc + p * 8, none⟩ rfl _ hR ?_; clear hR) | (go_at_call 32; refine hdo.mono ?_; clear hdo; rintro e w6 ⟨sa2, sc2, rfl, hk6, k6, hb6⟩; have HK6 : Hid (KL w6 sa2 (doesL (setK l L j) c).2.2) := hk6; clear hk6; replace q7 := k6.cell q7 (fun e => e); replace q3 := k6.cell q3 (fun e => e); replace q4 := k6.cell q4 (fun e => e)))
                    go_ret
                    exact ⟨false, rfl, ⟨(fun e => by cases e), fun h => absurd h.1 HF.out⟩, (HKR.out.trans k3).trans k6⟩
                · have HF : Hid (¬ LnP l L) := HNOT.out (by rw [HOKG.out]; unfold goesP ansD; simp [hy, ht])
                  clear ht HOKG
                  generalize c.yes = cy at *
                  cases yy <;> cases cy
                  · exact absurd rfl hy
                  · clear hy
                    go_wp2_with (first | (refine wpList_load_runL rfl 40 _ rfl ⟨bc, oc + p * 8, none⟩ rfl _ hR ?_; clear hR) | (go_at_call 32; refine hdo.mono ?_; clear hdo; rintro e w6 ⟨sa2, sc2, rfl, hk6, k6, hb6⟩; have HK6 : Hid (KL w6 sa2 (doesL (setK l L j) c).2.2) := hk6; clear hk6; replace q7 := k6.cell q7 (fun e => e); replace q3 := k6.cell q3 (fun e => e); replace q4 := k6.cell q4 (fun e => e)))
                    go_ret
                    exact ⟨false, rfl, ⟨(fun e => by cases e), fun h => absurd h.1 HF.out⟩, (HKR.out.trans k3).trans k6⟩
                  · clear hy
                    go_wp2_with (first | (refine wpList_load_runL rfl 40 _ rfl ⟨bc, oc + p * 8, none⟩ rfl _ hR ?_; clear hR) | (go_at_call 32; refine hdo.mono ?_; clear hdo; rintro e w6 ⟨sa2, sc2, rfl, hk6, k6, hb6⟩; have HK6 : Hid (KL w6 sa2 (doesL (setK l L j) c).2.2) := hk6; clear hk6; replace q7 := k6.cell q7 (fun e => e); replace q3 := k6.cell q3 (fun e => e); replace q4 := k6.cell q4 (fun e => e)))
                    go_ret
                    exact ⟨false, rfl, ⟨(fun e => by cases e), fun h => absurd h.1 HF.out⟩, (HKR.out.trans k3).trans k6⟩
                  · exact absurd rfl hy
    | zero =>
      have hiM : i = M := by omega
      have m1o : decide ((i : Int) < (M : Int)) = false := decide_eq_false (by omega)
      have m2o : decide (i < M) = false := decide_eq_false (by omega)
      have HLN : Hid (LnP l L) := fun k hk => HOK.out k (by rw [HM.out] at hk; omega)
      clear HKS HOK
      generalize (setK l L i).length = NS at *
      go_wp2_with fail
      go_loopg [17] N (fun g5 yv Wx => ∃ (y : Nat), y + g5 = N ∧ yv = .int .i64 (y : Int) ∧ (∀ z, z < y → ansD (l.getD z cl0) = true → z ∈ L) ∧ Keeps (fun _ => False) w Wx)
      case atStart => exact ⟨0, by omega, rfl, fun z hz => absurd hz (by omega), kr⟩
      case round =>
        obtain ⟨y, hyg, rfl, hal, k5⟩ := hrel
        have HAL : Hid (∀ z, z < y → ansD (l.getD z cl0) = true → z ∈ L) := hal
        clear hal
        cases gk with
        | zero =>
          have m1a : decide ((y : Int) < (N : Int)) = false := decide_eq_false (by omega)
          have m2a : decide (y < N) = false := decide_eq_false (by omega)
          have HCM : Hid (compL l L = true) := decide_eq_true (fun z hz => HAL.out z (by rw [HN.out] at hz; omega))
          go_wp2_with fail
          go_ret
          exact ⟨true, rfl, ⟨fun _ => ⟨HLN.out, fun _ => HCM.out⟩, fun _ => rfl⟩, k5⟩
        | succ g5 =>
          have m1a : decide ((y : Int) < (N : Int)) = true := decide_eq_true (by omega)
          have m2a : decide (y < N) = true := decide_eq_true (by omega)
          have m3a : (y : Int) < (N : Int) := by omega
          have m4a : (0 : Int) ≤ (y : Int) := by omega
          have m5a : IntKind.i64.wrap ((y : Int) + 1) = (y : Int) + 1 := by rw [IntKind.wrap_i64]; omega
          cases wh with
          | false =>
            go_wp2_with fail
            go_ret
            exact ⟨true, rfl, ⟨fun _ => ⟨HLN.out, fun e => by cases e⟩, fun _ => rfl⟩, k5⟩
          | true =>
            have hyL : y < l.length := by rw [HN.out]; omega
            obtain ⟨b3, o3, e3, hc3⟩ := HL.out y hyL
            subst e3
            have c7 : wr.cell? ⟨b3, o3 + y * 8 + 7, none⟩ = some (.int .i64 (l.getD y cl0).to_) := k5.cell (hc3 7 _ rfl) (fun e => e)
            have HANS : Hid (ansD (l.getD y cl0) = !((l.getD y cl0).to_ == -1)) := rfl
            have HALN : Hid ((ansD (l.getD y cl0) = true → y ∈ L) → ∀ z, z < y + 1 → ansD (l.getD z cl0) = true → z ∈ L) := fun h z hz => by
              by_cases e : z = y
              · rw [e]; exact h
              · exact HAL.out z (by omega)
            have HNC : Hid (ansD (l.getD y cl0) = true → y ∉ L → ¬ compL l L = true) := fun h1 h2 h3 => h2 (of_decide_eq_true h3 y hyL h1)
            clear hc3 hyL HAL
            generalize ansD (l.getD y cl0) = ay at *
            generalize (l.getD y cl0).to_ = ty at *
            generalize htm : (ty == -1) = tm at *
            refine wp_seq_k (fun KK hKK => ?_)
            have hKH : Hid _ := hKK
            clear hKK
            go_wp2_with fail
            refine hKH.out _ _ ?_
            clear hKH KK
            refine wp_seq_k (fun KK hKK => ?_)
            have hKR : Hid _ := hKK
            clear hKK
            refine wp_block ?_
            refine wp_seq_k (fun KK2 hKK2 => ?_)
            have hKH : Hid _ := hKK2
            clear hKK2
            go_wp2_with fail
            refine hKH.out _ _ ?_
            clear hKH KK2
            (try rw [htm])
            clear htm c7
            go_wp2_with fail
            go_loopg [18, 19] M (fun g4 bv jv Wx => ∃ (q : Nat), q + g4 = M ∧ jv = .int .i64 (q : Int) ∧ bv = .bool (tm || decide (y ∈ L.take q)) ∧ Keeps (fun _ => False) w Wx)
            case atStart => exact ⟨0, by omega, rfl, by simp, k5⟩
            case round =>
              obtain ⟨q, hj4, rfl, rfl, k4⟩ := hrel
              cases gk with
              | succ g4 =>
                have m1k : decide ((q : Int) < (M : Int)) = true := decide_eq_true (by omega)
                have m2k : decide (q < M) = true := decide_eq_true (by omega)
                have m3k : (q : Int) < (M : Int) := by omega
                have m4k : (0 : Int) ≤ (q : Int) := by omega
                have m5k : IntKind.i64.wrap ((q : Int) + 1) = (q : Int) + 1 := by rw [IntKind.wrap_i64]; omega
                have hjL : q < L.length := by rw [HM.out]; omega
                have hjM : (q : Int) < (M : Int) := by omega
                obtain ⟨bl9, ol9, el, hcl⟩ := HPM.out q hjL
                subst el
                have cl4 := (k4).cell hcl (fun e => e)
                have HTN : Hid ((tm || decide (y ∈ L.take (q + 1))) = ((tm || decide (y ∈ L.take q)) || decide (L.getD q 0 = y))) := by
                  show _ = _
                  rw [decide_eq_decide.2 (mem_take_next hjL), Bool.decide_or, Bool.or_assoc]
                  congr 1
                  congr 1
                  exact decide_eq_decide.2 eq_comm
                clear hcl hjL
                generalize L.getD q 0 = z at *
                generalize (tm || decide (y ∈ L.take q)) = bb at *
                cases bb with
                | true =>
                  go_wp2_with fail
                  go_roundg g4
                  case measure => omega
                  case rel => exact ⟨q + 1, by omega, by go_num, by rw [HTN.out]; rfl, k4⟩
                | false =>
                  by_cases hz : z = y
                  · have z1 : ((z : Int) == ((y : Nat) : Int)) = true := by simp [hz]
                    have z2 : (z == y) = true := by simp [hz]
                    have HZ : Hid (decide (z = y) = true) := decide_eq_true hz
                    clear hz
                    go_wp2_with fail
                    go_roundg g4
                    case measure => omega
                    case rel => exact ⟨q + 1, by omega, by go_num, by rw [HTN.out, HZ.out]; rfl, k4⟩
                  · have z1 : ((z : Int) == ((y : Nat) : Int)) = false := by simp; omega
                    have z2 : (z == y) = false := by simp; omega
                    have HZ : Hid (decide (z = y) = false) := decide_eq_false hz
                    clear hz
                    go_wp2_with fail
                    go_roundg g4
                    case measure => omega
                    case rel => exact ⟨q + 1, by omega, by go_num, by rw [HTN.out, HZ.out]; rfl, k4⟩
              | zero =>
                obtain rfl : q = M := by omega
                have m1k : decide ((q : Int) < (q : Int)) = false := decide_eq_false (by omega)
                have m2k : decide (q < q) = false := decide_eq_false (by omega)
                have eLL : L.take q = L := List.take_of_length_le (by rw [HM.out]; omega)
                rw [eLL]
                generalize hD5 : (tm || decide (y ∈ L)) = d5
                cases d5 with
                | true =>
                  have HXX : Hid _ := HALN.out (fun h => by
                    rw [HANS.out] at h
                    cases tm with
                    | true => cases h
                    | false => exact of_decide_eq_true (by simpa using hD5))
                  clear hD5 HALN HNC
                  go_wp2_with fail
                  refine hKR.out _ _ ?_
                  go_wp2_with fail
                  go_roundg g5
                  case measure => omega
                  case rel => exact ⟨y + 1, by omega, by go_num, HXX.out, k4⟩
                | false =>
                  have HF : Hid (¬ compL l L = true) := by
                    cases tm with
                    | true => cases hD5
                    | false => exact HNC.out HANS.out (of_decide_eq_false (by simpa using hD5))
                  clear hD5 HALN HNC
                  go_wp2_with fail
                  go_ret
                  exact ⟨false, rfl, ⟨(fun e => by cases e), fun h => absurd (h.2 rfl) HF.out⟩, k4⟩
end Go.Proofs.Ytlglhmmlebjidaa
