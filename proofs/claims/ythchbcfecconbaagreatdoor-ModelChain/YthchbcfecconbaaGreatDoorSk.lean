import Derived.Test.YthchbcfecconbaaGreatDoorSj
namespace Go.Proofs.YthchbcfecconbaaGreatDoor
open Go.RowKit Go.Deep Go.ChangeShapes Go.WideShapes Go.ChangeAt
attribute [local go_sem] Oper.semAt_some run_store_nf run_store_f
theorem ser_bad {w w' : World} {ps : List (List Ins)} {os : List Int} {fuel : Int} {v : Value} {x : Int} (h : SerP w w' ps os fuel v x) (h0 : ¬ fcx ps = 0) : x = fcx ps ∧ v = .slice none 0 0 := by
  rcases h with ⟨_, h⟩ | ⟨h, _⟩ | ⟨h, _⟩
  · exact h
  · exact absurd h h0
  · exact absurd h h0
theorem ser_no {w w' : World} {ps : List (List Ins)} {os : List Int} {fuel : Int} {v : Value} {x : Int} (h : SerP w w' ps os fuel v x) (h0 : fcx ps = 0) (h1 : ¬ rfs os.length 0 fuel = 0) : x = rfs os.length 0 fuel ∧ v = .slice none 0 0 := by
  rcases h with ⟨h, _⟩ | ⟨_, _, h⟩ | ⟨_, h, _⟩
  · exact absurd h0 h
  · exact h
  · exact absurd h h1
set_option maxHeartbeats 3000000 in
set_option maxRecDepth 1000000 in
theorem chain_bad {w : World} {a ao : Option Addr} {cap co : Nat} {ps : List (List Ins)} {os : List Int} (hT : PT w) (hNT : NT w)
    (hP : PLL w a ps) (hlens : ∀ p ∈ ps, p.length * 88 ≤ 140737488355328) (hps : (ps.length + 1) * 24 ≤ 140737488355328)
    (hO : NUM w ao os) (fuel : Int) (h0 : ¬ fcx ps = 0) :
    Calls Tryz.prog 5 #[.slice a ps.length cap, .slice ao os.length co, .int .i64 fuel] w fun e w' => e = .returned (.bool true) ∧ Below w.heap.size w w' := by
  have hH := head11 hT hNT
  have hLT := hT.lt
  clear hT hNT
  have HRA : Hid (∀ W, Keeps (fun _ => False) w W → ∀ ap cp a6 c6, PLL W ap ps → NUM W a6 os → Calls Tryz.prog 16 #[.slice ap ps.length cp, .slice a6 os.length c6, .int .i64 fuel] W fun e w' => ∃ v x, e = .returned (.tuple #[v, .int .i64 x]) ∧ SerP W w' ps os fuel v x ∧ Keeps (fun _ => False) W w') := fun W k ap cp a6 c6 h1 h2 => series_full (hLT.keep k) h1 (fun p hp => by have := hlens p hp; omega) h2 (by omega) fuel
  have HRn : Hid (∀ W, Keeps (fun _ => False) w W → ∀ p ap cp an cn ns, p ∈ ps → ISL W ap p → NUM W an ns → Calls Tryz.prog 8 #[.slice ap p.length cp, .slice an ns.length cn, .slice none 0 0, .int .i64 fuel] W fun e w' => ∃ v x, e = .returned (.tuple #[v, .int .i64 x]) ∧ RunP W w' p ns [] fuel v x ∧ Keeps (fun _ => False) W w') := fun W k p ap cp an cn ns hp h1 h2 => run_any (gs := []) (hLT.keep k) h1 (by have := hlens p hp; omega) h2 (fun i x hx => by simp at hx) fuel
  have HCh : Hid (∀ W, Keeps (fun _ => False) w W → ∀ p ap cp, p ∈ ps → ISL W ap p → Calls Tryz.prog 19 #[.slice ap p.length cp] W fun e w' => e = .returned (.tuple #[.int .i64 (chk p).1, .int .i64 (chk p).2]) ∧ Keeps (fun _ => False) W w') := fun W k p ap cp hp hI => check_any (hLT.keep k) hI (by have := hlens p hp; omega)
  have HPr : Hid (∀ W p ai ci, p ∈ ps → ISL W ai p → Calls Tryz.prog 7 #[.slice ai p.length ci] W fun e w' => ∃ v, e = .returned v ∧ w'.ownsRow W.heap.size 69 11 v p.length (icl p) ∧ Keeps (fun _ => False) W w') := fun W p ai ci hp hI => prog_any hI (hlens p hp)
  obtain ⟨N, hN⟩ : ∃ N, ps.length = N := ⟨_, rfl⟩
  obtain ⟨n, hn⟩ : ∃ n, os.length = n := ⟨_, rfl⟩
  rw [hN] at hps HRA ⊢
  rw [hn] at HRA ⊢
  have HN : Hid (ps.length = N) := hN
  have Hn : Hid (os.length = n) := hn
  have Hfa : Hid _ := fun k p => fcx_at (ps := ps) (k := k) (p := p)
  have Hfl : Hid _ := fcx_all (ps := ps)
  have H0 : Hid (¬ fcx ps = 0) := h0
  clear h0
  clear hN hn hlens hLT
  go_enter Tryz.func5, Tryz.ntmps5
  go_wp2_with (go_at_call 6; refine hH.mono ?_; clear hH; rintro e w1 ⟨rfl, k1⟩)
  go_loopw [7, 8] (fun lv iv Wr => ∃ (k : Nat) (X : Nat → Option Addr) (XC : Nat → Nat), iv = .int .i64 (k : Int) ∧ k ≤ N ∧ LP w1 Wr lv k ps X XC ∧ Keeps (fun _ => False) w1 Wr) (fun _ iv _ => N - (intOf iv).toNat)
  case atStart => exact ⟨0, fun _ => none, fun _ => 0, rfl, Nat.zero_le _, LP.first _ _, Keeps.refl _ w1⟩
  case round =>
    obtain ⟨k, X, XC, rfl, hk, hLP, kr⟩ := hrel
    by_cases hlt : k < N
    · have hltI : decide ((k : Int) < (N : Int)) = true := decide_eq_true (by omega)
      have hltn : decide (k < N) = true := decide_eq_true hlt
      have hltJ : (k : Int) < (N : Int) := by omega
      have hk0 : (0 : Int) ≤ (k : Int) := by omega
      have hw1 : IntKind.i64.wrap ((k : Int) + 1) = (k : Int) + 1 := by rw [IntKind.wrap_i64]; omega
      obtain ⟨p, hp⟩ : ∃ p, ps[k]? = some p := ⟨_, List.getElem?_eq_getElem (by rw [HN.out]; exact hlt)⟩
      obtain ⟨b, off, ai, ci, rfl, hc, hI⟩ := hP k p hp
      have c1 := (k1.trans kr).cell hc (fun e => e)
      have hpr := HPr.out wr p ai ci (List.mem_of_getElem? hp) (hI.keep (k1.trans kr))
      have hgp := getP_of hp
      have Hgp : Hid (ps.getD k [] = p) := hgp
      obtain ⟨P, hPl⟩ : ∃ P, p.length = P := ⟨_, rfl⟩
      rw [hPl] at c1 hpr
      have HPl : Hid (p.length = P) := hPl
      clear hPl hgp hc hI hp HPr HRA HRn HCh hP hO
      go_wp2_with (first | (go_at_call 7; refine hpr.mono ?_; clear hpr; rintro e w2 ⟨vp, rfl, hown, k2⟩; obtain ⟨ap, cp, rfl, hI2, hB2⟩ := isl_own hown HPl.out; clear hown; obtain ⟨v3, w3, r3, hL3, k3⟩ := hLP.next (c := cp) kr.size k2 (by rw [Hgp.out]; exact hI2) hB2 (by omega); rw [Hgp.out, HPl.out] at r3; have HL3 : Hid _ := hL3; clear hL3; have K3 : Keeps (fun _ => False) w1 w3 := (kr.trans k2).trans' k3 (fun _ _ e => e) (fun i hi e => by have := owns_baseD hLP.o i e; omega)) | (at_builtin; refine wpList_append_q rfl _ _ _ rfl _ _ _ w3 rfl rfl r3 ?_; clear r3))
      go_roundw
      case rel => exact ⟨k + 1, _, _, by go_num, by omega, HL3.out, K3⟩
      case measure => simp [intOf]; omega
    · have hltI : decide ((k : Int) < (N : Int)) = false := decide_eq_false (by omega)
      have hltn : decide (k < N) = false := decide_eq_false hlt
      obtain rfl : k = N := by omega
      obtain ⟨al, cl, rfl, hPL⟩ : ∃ al cl, _ = Value.slice al k cl ∧ PLL wr al ps := by
        have := lp_pll (by rw [HN.out]; exact hLP)
        rw [HN.out] at this
        exact this
      have K2 := k1.trans kr
      have hs := HRA.out wr K2 al cl _ co hPL (hO.keep K2)
      have HPL : Hid (∀ W, Keeps (fun _ => False) wr W → PLL W al ps) := fun W k => hPL.keep k
      have HO : Hid (∀ W, Keeps (fun _ => False) wr W → NUM W ao os) := fun W k => hO.keep (K2.trans k)
      clear hPL hLP HRA HPr hP hO hlt
      obtain ⟨w6, hw6⟩ : ∃ w6, w6 = wr := ⟨_, rfl⟩
      subst wr
      go_wp2_with (go_at_call 16; refine hs.mono ?_; clear hs; rintro e w7 ⟨v7, x7, rfl, hP7, k7⟩; obtain ⟨hx7, hv7⟩ := ser_bad hP7 H0.out; clear hP7; subst hv7; have Hx7 : Hid (x7 = fcx ps) := hx7; clear hx7)
      go_loopw [12] (fun iv Wr => ∃ j : Nat, iv = .int .i64 (j : Int) ∧ j ≤ k ∧ Hid (∀ (i : Nat) (q : List Ins), i < j → ps[i]? = some q → (chk q).1 = 0) ∧ Keeps (fun _ => False) w7 Wr) (fun iv _ => k - (intOf iv).toNat)
      case atStart => exact ⟨0, rfl, Nat.zero_le _, fun i q h => absurd h (Nat.not_lt_zero _), Keeps.refl _ w7⟩
      case round =>
        obtain ⟨j, rfl, hj, HZ, kr2⟩ := hrel
        by_cases hlt : j < k
        · have hltI : decide ((j : Int) < (k : Int)) = true := decide_eq_true (by omega)
          have hltn : decide (j < k) = true := decide_eq_true hlt
          have hltJ : (j : Int) < (k : Int) := by omega
          have hk0 : (0 : Int) ≤ (j : Int) := by omega
          have hw1 : IntKind.i64.wrap ((j : Int) + 1) = (j : Int) + 1 := by rw [IntKind.wrap_i64]; omega
          obtain ⟨p, hp⟩ : ∃ p, ps[j]? = some p := ⟨_, List.getElem?_eq_getElem (by rw [HN.out]; exact hlt)⟩
          obtain ⟨b1, o1, x1, y1, rfl, c1, I1⟩ := HPL.out wr (k7.trans kr2) j p hp
          have hck := HCh.out wr ((K2.trans k7).trans kr2) p x1 y1 (List.mem_of_getElem? hp) I1
          have Hp : Hid (ps[j]? = some p) := hp
          obtain ⟨ce, hce⟩ : ∃ ce, (chk p).1 = ce := ⟨_, rfl⟩
          rw [hce] at hck
          have Hce : Hid ((chk p).1 = ce) := hce
          clear hce I1 hp
          generalize (chk p).2 = ci2 at *
          generalize p.length = P at *
          by_cases hc0 : ce = 0
          · subst hc0
            go_wp2_with (first | (go_at_call 19; refine hck.mono ?_; clear hck; rintro e w8 ⟨rfl, k8⟩) | (go_at_call 10; refine (num11 _ _).mono ?_; rintro e wn ⟨rfl, en⟩; subst wn))
            go_roundw
            case rel => exact ⟨j + 1, by go_num, by omega, fun i q hi hq => by rcases Nat.lt_or_ge i j with h | h; exact HZ.out i q h hq; (obtain rfl : i = j := by omega); (rw [Hp.out] at hq); (injection hq with hq); (rw [← hq]; exact Hce.out), kr2.trans k8⟩
            case measure => simp [intOf]; omega
          · have hb : (ce != 0) = true := by simpa using hc0
            have hx := Hfa.out j p HZ.out Hp.out (by rw [Hce.out]; exact hc0)
            rw [Hce.out] at hx
            obtain rfl : x7 = ce := Hx7.out.trans hx
            clear hx
            go_wp2_with (first | (go_at_call 19; refine hck.mono ?_; clear hck; rintro e w8 ⟨rfl, k8⟩) | (go_at_call 10; refine (num11 _ _).mono ?_; rintro e wn ⟨rfl, en⟩; subst wn))
            go_ret
            exact ⟨rfl, (((K2.trans k7).trans kr2).trans k8).below (Nat.le_refl _) (fun _ _ e => e)⟩
        · have hltI : decide ((j : Int) < (k : Int)) = false := decide_eq_false (by omega)
          have hltn : decide (j < k) = false := decide_eq_false hlt
          exact absurd (Hfl.out (fun i q hq => HZ.out i q (by have := (List.getElem?_eq_some_iff.1 hq).1; rw [HN.out] at this; omega) hq)) H0.out
set_option maxHeartbeats 3000000 in
set_option maxRecDepth 1000000 in
theorem chain_no {w : World} {a ao : Option Addr} {cap co : Nat} {ps : List (List Ins)} {os : List Int} (hT : PT w) (hNT : NT w)
    (hP : PLL w a ps) (hlens : ∀ p ∈ ps, p.length * 88 ≤ 140737488355328) (hps : (ps.length + 1) * 24 ≤ 140737488355328)
    (hO : NUM w ao os) (fuel : Int) (h0 : fcx ps = 0) (h1 : ¬ rfs os.length 0 fuel = 0) :
    Calls Tryz.prog 5 #[.slice a ps.length cap, .slice ao os.length co, .int .i64 fuel] w fun e w' => e = .returned (.bool true) ∧ Below w.heap.size w w' := by
  have hH := head11 hT hNT
  have hLT := hT.lt
  clear hT hNT
  have HRA : Hid (∀ W, Keeps (fun _ => False) w W → ∀ ap cp a6 c6, PLL W ap ps → NUM W a6 os → Calls Tryz.prog 16 #[.slice ap ps.length cp, .slice a6 os.length c6, .int .i64 fuel] W fun e w' => ∃ v x, e = .returned (.tuple #[v, .int .i64 x]) ∧ SerP W w' ps os fuel v x ∧ Keeps (fun _ => False) W w') := fun W k ap cp a6 c6 h1 h2 => series_full (hLT.keep k) h1 (fun p hp => by have := hlens p hp; omega) h2 (by omega) fuel
  have HRn : Hid (∀ W, Keeps (fun _ => False) w W → ∀ p ap cp an cn ns, p ∈ ps → ISL W ap p → NUM W an ns → Calls Tryz.prog 8 #[.slice ap p.length cp, .slice an ns.length cn, .slice none 0 0, .int .i64 fuel] W fun e w' => ∃ v x, e = .returned (.tuple #[v, .int .i64 x]) ∧ RunP W w' p ns [] fuel v x ∧ Keeps (fun _ => False) W w') := fun W k p ap cp an cn ns hp h1 h2 => run_any (gs := []) (hLT.keep k) h1 (by have := hlens p hp; omega) h2 (fun i x hx => by simp at hx) fuel
  have HCh : Hid (∀ W, Keeps (fun _ => False) w W → ∀ p ap cp, p ∈ ps → ISL W ap p → Calls Tryz.prog 19 #[.slice ap p.length cp] W fun e w' => e = .returned (.tuple #[.int .i64 (chk p).1, .int .i64 (chk p).2]) ∧ Keeps (fun _ => False) W w') := fun W k p ap cp hp hI => check_any (hLT.keep k) hI (by have := hlens p hp; omega)
  have HPr : Hid (∀ W p ai ci, p ∈ ps → ISL W ai p → Calls Tryz.prog 7 #[.slice ai p.length ci] W fun e w' => ∃ v, e = .returned v ∧ w'.ownsRow W.heap.size 69 11 v p.length (icl p) ∧ Keeps (fun _ => False) W w') := fun W p ai ci hp hI => prog_any hI (hlens p hp)
  obtain ⟨N, hN⟩ : ∃ N, ps.length = N := ⟨_, rfl⟩
  obtain ⟨n, hn⟩ : ∃ n, os.length = n := ⟨_, rfl⟩
  rw [hN] at hps HRA ⊢
  rw [hn] at HRA ⊢
  have HN : Hid (ps.length = N) := hN
  have Hn : Hid (os.length = n) := hn
  have Hfz : Hid _ := fcx_zero h0
  have H0 : Hid (fcx ps = 0) := h0
  have H1 : Hid (¬ rfs os.length 0 fuel = 0) := h1
  clear h0 h1
  clear hN hn hlens hLT
  go_enter Tryz.func5, Tryz.ntmps5
  go_wp2_with (go_at_call 6; refine hH.mono ?_; clear hH; rintro e w1 ⟨rfl, k1⟩)
  go_loopw [7, 8] (fun lv iv Wr => ∃ (k : Nat) (X : Nat → Option Addr) (XC : Nat → Nat), iv = .int .i64 (k : Int) ∧ k ≤ N ∧ LP w1 Wr lv k ps X XC ∧ Keeps (fun _ => False) w1 Wr) (fun _ iv _ => N - (intOf iv).toNat)
  case atStart => exact ⟨0, fun _ => none, fun _ => 0, rfl, Nat.zero_le _, LP.first _ _, Keeps.refl _ w1⟩
  case round =>
    obtain ⟨k, X, XC, rfl, hk, hLP, kr⟩ := hrel
    by_cases hlt : k < N
    · have hltI : decide ((k : Int) < (N : Int)) = true := decide_eq_true (by omega)
      have hltn : decide (k < N) = true := decide_eq_true hlt
      have hltJ : (k : Int) < (N : Int) := by omega
      have hk0 : (0 : Int) ≤ (k : Int) := by omega
      have hw1 : IntKind.i64.wrap ((k : Int) + 1) = (k : Int) + 1 := by rw [IntKind.wrap_i64]; omega
      obtain ⟨p, hp⟩ : ∃ p, ps[k]? = some p := ⟨_, List.getElem?_eq_getElem (by rw [HN.out]; exact hlt)⟩
      obtain ⟨b, off, ai, ci, rfl, hc, hI⟩ := hP k p hp
      have c1 := (k1.trans kr).cell hc (fun e => e)
      have hpr := HPr.out wr p ai ci (List.mem_of_getElem? hp) (hI.keep (k1.trans kr))
      have hgp := getP_of hp
      have Hgp : Hid (ps.getD k [] = p) := hgp
      obtain ⟨P, hPl⟩ : ∃ P, p.length = P := ⟨_, rfl⟩
      rw [hPl] at c1 hpr
      have HPl : Hid (p.length = P) := hPl
      clear hPl hgp hc hI hp HPr HRA HRn HCh hP hO
      go_wp2_with (first | (go_at_call 7; refine hpr.mono ?_; clear hpr; rintro e w2 ⟨vp, rfl, hown, k2⟩; obtain ⟨ap, cp, rfl, hI2, hB2⟩ := isl_own hown HPl.out; clear hown; obtain ⟨v3, w3, r3, hL3, k3⟩ := hLP.next (c := cp) kr.size k2 (by rw [Hgp.out]; exact hI2) hB2 (by omega); rw [Hgp.out, HPl.out] at r3; have HL3 : Hid _ := hL3; clear hL3; have K3 : Keeps (fun _ => False) w1 w3 := (kr.trans k2).trans' k3 (fun _ _ e => e) (fun i hi e => by have := owns_baseD hLP.o i e; omega)) | (at_builtin; refine wpList_append_q rfl _ _ _ rfl _ _ _ w3 rfl rfl r3 ?_; clear r3))
      go_roundw
      case rel => exact ⟨k + 1, _, _, by go_num, by omega, HL3.out, K3⟩
      case measure => simp [intOf]; omega
    · have hltI : decide ((k : Int) < (N : Int)) = false := decide_eq_false (by omega)
      have hltn : decide (k < N) = false := decide_eq_false hlt
      obtain rfl : k = N := by omega
      obtain ⟨al, cl, rfl, hPL⟩ : ∃ al cl, _ = Value.slice al k cl ∧ PLL wr al ps := by
        have := lp_pll (by rw [HN.out]; exact hLP)
        rw [HN.out] at this
        exact this
      have K2 := k1.trans kr
      have hs := HRA.out wr K2 al cl _ co hPL (hO.keep K2)
      have HPL : Hid (∀ W, Keeps (fun _ => False) wr W → PLL W al ps) := fun W k => hPL.keep k
      have HO : Hid (∀ W, Keeps (fun _ => False) wr W → NUM W ao os) := fun W k => hO.keep (K2.trans k)
      clear hPL hLP HRA HPr hP hO hlt
      obtain ⟨w6, hw6⟩ : ∃ w6, w6 = wr := ⟨_, rfl⟩
      subst wr
      go_wp2_with (go_at_call 16; refine hs.mono ?_; clear hs; rintro e w7 ⟨v7, x7, rfl, hP7, k7⟩; obtain ⟨hx7, hv7⟩ := ser_no hP7 H0.out H1.out; clear hP7; subst hv7; rw [Hn.out] at hx7; have Hx7 : Hid (x7 = rfs n 0 fuel) := hx7; have Hne : Hid (¬ x7 = 0) := (by rw [hx7, ← Hn.out]; exact H1.out); clear hx7)
      go_loopw [12] (fun iv Wr => ∃ j : Nat, iv = .int .i64 (j : Int) ∧ j ≤ k ∧ Hid (∀ (i : Nat) (q : List Ins), i < j → ps[i]? = some q → (chk q).1 = 0) ∧ Keeps (fun _ => False) w7 Wr) (fun iv _ => k - (intOf iv).toNat)
      case atStart => exact ⟨0, rfl, Nat.zero_le _, fun i q h => absurd h (Nat.not_lt_zero _), Keeps.refl _ w7⟩
      case round =>
        obtain ⟨j, rfl, hj, HZ, kr2⟩ := hrel
        by_cases hlt : j < k
        · have hltI : decide ((j : Int) < (k : Int)) = true := decide_eq_true (by omega)
          have hltn : decide (j < k) = true := decide_eq_true hlt
          have hltJ : (j : Int) < (k : Int) := by omega
          have hk0 : (0 : Int) ≤ (j : Int) := by omega
          have hw1 : IntKind.i64.wrap ((j : Int) + 1) = (j : Int) + 1 := by rw [IntKind.wrap_i64]; omega
          obtain ⟨p, hp⟩ : ∃ p, ps[j]? = some p := ⟨_, List.getElem?_eq_getElem (by rw [HN.out]; exact hlt)⟩
          obtain ⟨b1, o1, x1, y1, rfl, c1, I1⟩ := HPL.out wr (k7.trans kr2) j p hp
          have hck := HCh.out wr ((K2.trans k7).trans kr2) p x1 y1 (List.mem_of_getElem? hp) I1
          have Hp : Hid (ps[j]? = some p) := hp
          obtain ⟨ce, hce⟩ : ∃ ce, (chk p).1 = ce := ⟨_, rfl⟩
          rw [hce] at hck
          have Hce : Hid ((chk p).1 = ce) := hce
          clear hce I1 hp
          generalize (chk p).2 = ci2 at *
          generalize p.length = P at *
          obtain rfl : ce = 0 := Hce.out.symm.trans (Hfz.out j p Hp.out)
          go_wp2_with (first | (go_at_call 19; refine hck.mono ?_; clear hck; rintro e w8 ⟨rfl, k8⟩) | (go_at_call 10; refine (num11 _ _).mono ?_; rintro e wn ⟨rfl, en⟩; subst wn))
          go_roundw
          case rel => exact ⟨j + 1, by go_num, by omega, fun i q hi hq => by rcases Nat.lt_or_ge i j with h | h; exact HZ.out i q h hq; (obtain rfl : i = j := by omega); (rw [Hp.out] at hq); (injection hq with hq); (rw [← hq]; exact Hce.out), kr2.trans k8⟩
          case measure => simp [intOf]; omega
        · have hltI : decide ((j : Int) < (k : Int)) = false := decide_eq_false (by omega)
          have hltn : decide (j < k) = false := decide_eq_false hlt
          clear HZ
          obtain ⟨x, hx⟩ : ∃ x, x7 = x := ⟨_, rfl⟩
          subst hx
          have hb : (x7 != 0) = true := by simpa using Hne.out
          have hr := Hx7.out
          unfold rfs at hr
          by_cases g1 : 16 < n
          · rw [if_pos g1] at hr
            subst hr
            have e1 : decide ((16 : Int) < (n : Int)) = true := decide_eq_true (by omega)
            have e2 : decide (16 < n) = true := decide_eq_true g1
            go_wp2_with (first | (go_at_call 10; refine (num11 _ _).mono ?_; rintro e wn ⟨rfl, en⟩; subst wn))
            go_ret
            exact ⟨rfl, ((K2.trans k7).trans kr2).below (Nat.le_refl _) (fun _ _ e => e)⟩
          · rw [if_neg g1, if_neg (by omega)] at hr
            have e1 : decide ((16 : Int) < (n : Int)) = false := decide_eq_false (by omega)
            have e2 : decide (16 < n) = false := decide_eq_false g1
            have e3 : decide ((n : Int) ≤ 16) = true := decide_eq_true (by omega)
            have e4 : decide (n ≤ 16) = true := decide_eq_true (by omega)
            by_cases g3 : fuel < 0
            · rw [if_pos (.inl g3)] at hr
              subst hr
              have f1 : decide (fuel < 0) = true := decide_eq_true g3
              go_wp2_with (first | (go_at_call 10; refine (num11 _ _).mono ?_; rintro e wn ⟨rfl, en⟩; subst wn))
              go_ret
              exact ⟨rfl, ((K2.trans k7).trans kr2).below (Nat.le_refl _) (fun _ _ e => e)⟩
            · by_cases g4 : 10000 < fuel
              · rw [if_pos (.inr g4)] at hr
                subst hr
                have f1 : decide (fuel < 0) = false := decide_eq_false g3
                have f2 : decide (10000 < fuel) = true := decide_eq_true g4
                go_wp2_with (first | (go_at_call 10; refine (num11 _ _).mono ?_; rintro e wn ⟨rfl, en⟩; subst wn))
                go_ret
                exact ⟨rfl, ((K2.trans k7).trans kr2).below (Nat.le_refl _) (fun _ _ e => e)⟩
              · rw [if_neg (by omega)] at hr
                exact absurd hr Hne.out
end Go.Proofs.YthchbcfecconbaaGreatDoor
