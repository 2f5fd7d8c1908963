import Derived.Test.YthchbcfecconbaaGreatDoorSk
namespace Go.Proofs.YthchbcfecconbaaGreatDoor
open Go.RowKit Go.Deep Go.ChangeShapes Go.WideShapes Go.ChangeAt
attribute [local go_sem] Oper.semAt_some run_store_nf run_store_f
theorem ser_ok {w w' : World} {ps : List (List Ins)} {os : List Int} {fuel : Int} {v : Value} {x : Int} (h : SerP w w' ps os fuel v x) (h0 : fcx ps = 0) (h1 : rfs os.length 0 fuel = 0) : x = 0 ∧ ∃ av cv g, ∃ B : Nat → Nat, v = .slice av ps.length cv ∧ (0 < ps.length → av = some ⟨g, 0, none⟩) ∧ CL w' g (alc (grA ps os fuel.toNat) (fun i => .slice (some ⟨B i, 0, none⟩) os.length os.length) ps.length) ∧ AP w.heap.size w' g ps.length os.length B (fun i => obA ps os fuel.toNat (i + 1)) ∧ (0 < ps.length → w.heap.size ≤ g ∧ g < w'.heap.size) := by
  rcases h with ⟨h, _⟩ | ⟨_, h, _⟩ | ⟨_, _, e, B, hS⟩
  · exact absurd h0 h
  · exact absurd h1 h
  refine ⟨e, ?_⟩
  by_cases hp : 0 < ps.length
  · obtain ⟨g, cap, rfl, _, hb, hl, hc⟩ := own_some hS.o hp
    refine ⟨_, cap, g, B, rfl, fun _ => rfl, own_cl hS.o, ⟨fun i hi => hc _ _ (alc_get (grA ps os fuel.toNat) (fun i => .slice (some ⟨B i, 0, none⟩) os.length os.length) hi 2 _ rfl), hS.c, fun i hi => obA_len _ _ _ _, fun i hi => ⟨(hS.b i hi).1, (hS.b i hi).2.1, fun e => (hS.b i hi).2.2 (by rw [e]; rfl)⟩, hS.d⟩, fun _ => ⟨hb, hl⟩⟩
  · have e0 : ps.length = 0 := by omega
    have nap : AP w.heap.size w' 0 ps.length os.length B (fun i => obA ps os fuel.toNat (i + 1)) := ⟨fun i hi => by omega, fun i hi => by omega, fun i hi => by omega, fun i hi => by omega, fun i j _ hj => by omega⟩
    have ncl : CL w' 0 (alc (grA ps os fuel.toNat) (fun i => .slice (some ⟨B i, 0, none⟩) os.length os.length) ps.length) := by
      rw [e0]
      exact ⟨fun o v e => by simp [alc] at e, fun o ho => absurd ho (Nat.not_lt_zero _)⟩
    rcases hS.o.2 with ⟨rfl, _⟩ | ⟨g, cap, cur, rfl, _⟩
    · exact ⟨none, 0, 0, B, by rw [e0], fun h => absurd h hp, ncl, nap, fun h => absurd h hp⟩
    · exact ⟨_, cap, 0, B, rfl, fun h => absurd h hp, ncl, nap, fun h => absurd h hp⟩
set_option maxHeartbeats 3000000 in
set_option maxRecDepth 1000000 in
theorem chain_ok {w : World} {a ao : Option Addr} {cap co : Nat} {ps : List (List Ins)} {os : List Int} (hT : PT w) (hNT : NT w)
    (hP : PLL w a ps) (hlens : ∀ p ∈ ps, p.length * 88 ≤ 140737488355328) (hps : (ps.length + 1) * 24 ≤ 140737488355328)
    (hO : NUM w ao os) (hoz : ao = none → co = 0) (fuel : Int) (h0 : fcx ps = 0) (h1 : rfs os.length 0 fuel = 0) :
    Calls Tryz.prog 5 #[.slice a ps.length cap, .slice ao os.length co, .int .i64 fuel] w fun e w' => e = .returned (.bool true) ∧ Below w.heap.size w w' := by
  have hH := head11 hT hNT
  have hLT := hT.lt
  clear hT hNT
  have HRA : Hid (∀ W, Keeps (fun _ => False) w W → ∀ ap cp a6 c6, PLL W ap ps → NUM W a6 os → Calls Tryz.prog 16 #[.slice ap ps.length cp, .slice a6 os.length c6, .int .i64 fuel] W fun e w' => ∃ v x, e = .returned (.tuple #[v, .int .i64 x]) ∧ SerP W w' ps os fuel v x ∧ Keeps (fun _ => False) W w') := fun W k ap cp a6 c6 h1 h2 => series_full (hLT.keep k) h1 (fun p hp => by have := hlens p hp; omega) h2 (by omega) fuel
  have HRn : Hid (∀ W, Keeps (fun _ => False) w W → ∀ p ap cp an cn ns, p ∈ ps → ISL W ap p → NUM W an ns → Calls Tryz.prog 8 #[.slice ap p.length cp, .slice an ns.length cn, .slice none 0 0, .int .i64 fuel] W fun e w' => ∃ v x, e = .returned (.tuple #[v, .int .i64 x]) ∧ RunP W w' p ns [] fuel v x ∧ Keeps (fun _ => False) W w') := fun W k p ap cp an cn ns hp h1 h2 => run_any (gs := []) (hLT.keep k) h1 (by have := hlens p hp; omega) h2 (fun i x hx => by simp at hx) fuel
  have HCh : Hid (∀ W, Keeps (fun _ => False) w W → ∀ p ap cp, p ∈ ps → ISL W ap p → Calls Tryz.prog 19 #[.slice ap p.length cp] W fun e w' => e = .returned (.tuple #[.int .i64 (chk p).1, .int .i64 (chk p).2]) ∧ Keeps (fun _ => False) W w') := fun W k p ap cp hp hI => check_any (hLT.keep k) hI (by have := hlens p hp; omega)
  have HPr : Hid (∀ W p ai ci, p ∈ ps → ISL W ai p → Calls Tryz.prog 7 #[.slice ai p.length ci] W fun e w' => ∃ v, e = .returned v ∧ w'.ownsRow W.heap.size 69 11 v p.length (icl p) ∧ Keeps (fun _ => False) W w') := fun W p ai ci hp hI => prog_any hI (hlens p hp)
  obtain ⟨N, hN⟩ : ∃ N, ps.length = N := ⟨_, rfl⟩
  obtain ⟨n, hn⟩ : ∃ n, os.length = n := ⟨_, rfl⟩
  rw [hN] at hps HRA ⊢
  rw [hn] at HRA ⊢
  have HN : Hid (ps.length = N) := hN
  have Hn : Hid (os.length = n) := hn
  have Hfz : Hid _ := fcx_zero h0
  have H0 : Hid (fcx ps = 0) := h0
  have H1 : Hid (rfs os.length 0 fuel = 0) := h1
  obtain ⟨h16, _, hf0, hf1⟩ := rfs_ok h1
  rw [hn] at h16
  clear h0 h1
  have HObn : Hid (∀ f k, (obA ps os f k).length = n) := fun f k => (obA_len ps os f k).trans hn
  obtain ⟨f, hf⟩ : ∃ f, fuel.toNat = f := ⟨_, rfl⟩
  obtain rfl : fuel = (f : Int) := by omega
  clear hf
  clear hN hn hlens hLT
  go_enter Tryz.func5, Tryz.ntmps5
  go_wp2_with (go_at_call 6; refine hH.mono ?_; clear hH; rintro e w1 ⟨rfl, k1⟩)
  go_loopw [7, 8] (fun lv iv Wr => ∃ (k : Nat) (X : Nat → Option Addr) (XC : Nat → Nat), iv = .int .i64 (k : Int) ∧ k ≤ N ∧ LP w1 Wr lv k ps X XC ∧ Keeps (fun _ => False) w1 Wr) (fun _ iv _ => N - (intOf iv).toNat)
  case atStart => exact ⟨0, fun _ => none, fun _ => 0, rfl, Nat.zero_le _, LP.first _ _, Keeps.refl _ w1⟩
  case round =>
    obtain ⟨k, X, XC, rfl, hk, hLP, kr⟩ := hrel
    by_cases hlt : k < N
    · have hltI : decide ((k : Int) < (N : Int)) = true := decide_eq_true (by omega)
      have hltn : decide (k < N) = true := decide_eq_true hlt
      have hltJ : (k : Int) < (N : Int) := by omega
      have hk0 : (0 : Int) ≤ (k : Int) := by omega
      have hw1 : IntKind.i64.wrap ((k : Int) + 1) = (k : Int) + 1 := by rw [IntKind.wrap_i64]; omega
      obtain ⟨p, hp⟩ : ∃ p, ps[k]? = some p := ⟨_, List.getElem?_eq_getElem (by rw [HN.out]; exact hlt)⟩
      obtain ⟨b, off, ai, ci, rfl, hc, hI⟩ := hP k p hp
      have c1 := (k1.trans kr).cell hc (fun e => e)
      have hpr := HPr.out wr p ai ci (List.mem_of_getElem? hp) (hI.keep (k1.trans kr))
      have hgp := getP_of hp
      have Hgp : Hid (ps.getD k [] = p) := hgp
      obtain ⟨P, hPl⟩ : ∃ P, p.length = P := ⟨_, rfl⟩
      rw [hPl] at c1 hpr
      have HPl : Hid (p.length = P) := hPl
      clear hPl hgp hc hI hp HPr HRA HRn HCh hP hO hoz
      go_wp2_with (first | (go_at_call 7; refine hpr.mono ?_; clear hpr; rintro e w2 ⟨vp, rfl, hown, k2⟩; obtain ⟨ap, cp, rfl, hI2, hB2⟩ := isl_own hown HPl.out; clear hown; obtain ⟨v3, w3, r3, hL3, k3⟩ := hLP.next (c := cp) kr.size k2 (by rw [Hgp.out]; exact hI2) hB2 (by omega); rw [Hgp.out, HPl.out] at r3; have HL3 : Hid _ := hL3; clear hL3; have K3 : Keeps (fun _ => False) w1 w3 := (kr.trans k2).trans' k3 (fun _ _ e => e) (fun i hi e => by have := owns_baseD hLP.o i e; omega)) | (at_builtin; refine wpList_append_q rfl _ _ _ rfl _ _ _ w3 rfl rfl r3 ?_; clear r3))
      go_roundw
      case rel => exact ⟨k + 1, _, _, by go_num, by omega, HL3.out, K3⟩
      case measure => simp [intOf]; omega
    · have hltI : decide ((k : Int) < (N : Int)) = false := decide_eq_false (by omega)
      have hltn : decide (k < N) = false := decide_eq_false hlt
      obtain rfl : k = N := by omega
      obtain ⟨al, cl, rfl, hPL⟩ : ∃ al cl, _ = Value.slice al k cl ∧ PLL wr al ps := by
        have := lp_pll (by rw [HN.out]; exact hLP)
        rw [HN.out] at this
        exact this
      have K2 := k1.trans kr
      have hs := HRA.out wr K2 al cl _ co hPL (hO.keep K2)
      have HPL : Hid (∀ W, Keeps (fun _ => False) wr W → PLL W al ps) := fun W k => hPL.keep k
      have HO : Hid (∀ W, Keeps (fun _ => False) wr W → NUM W ao os) := fun W k => hO.keep (K2.trans k)
      clear hPL hLP HRA HPr hP hO hlt
      obtain ⟨w6, hw6⟩ : ∃ w6, w6 = wr := ⟨_, rfl⟩
      subst wr
      go_wp2_with (go_at_call 16; refine hs.mono ?_; clear hs; rintro e w7 ⟨v7, x7, rfl, hP7, k7⟩; obtain ⟨rfl, av, cv, g, B, rfl, hav, hrow, hAP, hg⟩ := ser_ok hP7 H0.out H1.out; rw [Int.toNat_natCast, Hn.out] at hAP hrow; rw [HN.out] at hAP hrow hav hg ⊢; have HAP : Hid _ := hAP; have Hrow : Hid _ := hrow; have Hav : Hid _ := hav; have Hg : Hid _ := hg; clear hP7 hAP hrow hav hg)
      go_loopw [12] (fun iv Wr => ∃ j : Nat, iv = .int .i64 (j : Int) ∧ j ≤ k ∧ Hid (∀ (i : Nat) (q : List Ins), i < j → ps[i]? = some q → (chk q).1 = 0) ∧ Keeps (fun _ => False) w7 Wr) (fun iv _ => k - (intOf iv).toNat)
      case atStart => exact ⟨0, rfl, Nat.zero_le _, fun i q h => absurd h (Nat.not_lt_zero _), Keeps.refl _ w7⟩
      case round =>
        obtain ⟨j, rfl, hj, HZ, kr2⟩ := hrel
        by_cases hlt : j < k
        · have hltI : decide ((j : Int) < (k : Int)) = true := decide_eq_true (by omega)
          have hltn : decide (j < k) = true := decide_eq_true hlt
          have hltJ : (j : Int) < (k : Int) := by omega
          have hk0 : (0 : Int) ≤ (j : Int) := by omega
          have hw1 : IntKind.i64.wrap ((j : Int) + 1) = (j : Int) + 1 := by rw [IntKind.wrap_i64]; omega
          obtain ⟨p, hp⟩ : ∃ p, ps[j]? = some p := ⟨_, List.getElem?_eq_getElem (by rw [HN.out]; exact hlt)⟩
          obtain ⟨b1, o1, x1, y1, rfl, c1, I1⟩ := HPL.out wr (k7.trans kr2) j p hp
          have hck := HCh.out wr ((K2.trans k7).trans kr2) p x1 y1 (List.mem_of_getElem? hp) I1
          have Hp : Hid (ps[j]? = some p) := hp
          obtain ⟨ce, hce⟩ : ∃ ce, (chk p).1 = ce := ⟨_, rfl⟩
          rw [hce] at hck
          have Hce : Hid ((chk p).1 = ce) := hce
          clear hce I1 hp
          generalize (chk p).2 = ci2 at *
          generalize p.length = P at *
          obtain rfl : ce = 0 := Hce.out.symm.trans (Hfz.out j p Hp.out)
          go_wp2_with (first | (go_at_call 19; refine hck.mono ?_; clear hck; rintro e w8 ⟨rfl, k8⟩) | (go_at_call 10; refine (num11 _ _).mono ?_; rintro e wn ⟨rfl, en⟩; subst wn))
          go_roundw
          case rel => exact ⟨j + 1, by go_num, by omega, fun i q hi hq => by rcases Nat.lt_or_ge i j with h | h; exact HZ.out i q h hq; (obtain rfl : i = j := by omega); (rw [Hp.out] at hq); (injection hq with hq); (rw [← hq]; exact Hce.out), kr2.trans k8⟩
          case measure => simp [intOf]; omega
        · have hltI : decide ((j : Int) < (k : Int)) = false := decide_eq_false (by omega)
          have hltn : decide (j < k) = false := decide_eq_false hlt
          clear HZ hlt
          obtain ⟨w8, hw8⟩ : ∃ w8, w8 = wr := ⟨_, rfl⟩
          subst wr
          have k68 := k7.trans kr2
          have HAP8 : Hid _ := HAP.out.keep kr2
          have Hrow8 : Hid _ := Hrow.out.keep0 kr2 (fun _ e => e)
          clear HAP Hrow HCh
          obtain ⟨v9, w9, r9, o9, k9⟩ := copy_nd co (HO.out w8 k68) hoz (by rw [Hn.out]; omega)
          obtain ⟨an, cn, rfl, hN9, -⟩ := num_of_owns o9
          rw [Hn.out] at r9
          clear o9
          have hkk : ((k : Int) != (k : Int)) = false := by simp
          go_wp2_with (first | (go_at_call 10; refine (num11 _ _).mono ?_; rintro e wn ⟨rfl, en⟩; subst wn) | (at_builtin; refine wpList_append_q rfl _ _ _ rfl _ _ _ w9 rfl rfl r9 ?_; clear r9))
          go_loopw [15, 16] (fun nv iv Wr => ∃ (i : Nat) (an : Option Addr) (cn : Nat), iv = .int .i64 (i : Int) ∧ i ≤ k ∧ nv = .slice an n cn ∧ NUM Wr an (obA ps os f i) ∧ Keeps (fun _ => False) w8 Wr) (fun _ iv _ => k - (intOf iv).toNat)
          case atStart => exact ⟨0, an, cn, rfl, Nat.zero_le _, rfl, hN9, k9⟩
          case round =>
            obtain ⟨i, an, cn, rfl, hi, rfl, hNU, kr3⟩ := hrel
            by_cases hlt : i < k
            · have hltI : decide ((i : Int) < (k : Int)) = true := decide_eq_true (by omega)
              have hltn : decide (i < k) = true := decide_eq_true hlt
              have hltJ : (i : Int) < (k : Int) := by omega
              have hi0 : (0 : Int) ≤ (i : Int) := by omega
              have hw1 : IntKind.i64.wrap ((i : Int) + 1) = (i : Int) + 1 := by rw [IntKind.wrap_i64]; omega
              have hnw : IntKind.i64.wrap ((n : Int) + 1) = (n : Int) + 1 := by rw [IntKind.wrap_i64]; omega
              have hne1 : (((n : Int) + 1) != ((n : Int) + 1)) = false := by simp
              obtain ⟨p, hp⟩ : ∃ p, ps[i]? = some p := ⟨_, List.getElem?_eq_getElem (by rw [HN.out]; exact hlt)⟩
              obtain ⟨b1, o1, x1, y1, rfl, c1, I1⟩ := HPL.out wr (k68.trans kr3) i p hp
              obtain rfl := Hav.out (by omega)
              have hrn := HRn.out wr ((K2.trans k68).trans kr3) p x1 y1 an cn (obA ps os f i) (List.mem_of_getElem? hp) I1 hNU
              have hgp : ps.getD i [] = p := getP_of hp
              have hob1 : obA ps os f (i + 1) = lft (obA ps os f i) (gor p (obA ps os f i) [] f 0 rs0).1 n := by
                show lft (obA ps os f i) (gor (ps.getD i []) (obA ps os f i) [] f 0 rs0).1 (obA ps os f i).length = _
                rw [hgp, HObn.out]
              have hgr1 : grA ps os f i = gor p (obA ps os f i) [] f 0 rs0 := by unfold grA; rw [hgp]
              have hrf := fun w3 v3 x3 (h : RunP wr w3 p (obA ps os f i) [] (f : Int) v3 x3) => run_fine_c h (Hfz.out i p hp) (by rw [HObn.out, ← Hn.out]; exact H1.out)
              unfold AN at hrf
              simp only [HObn.out, Int.toNat_natCast] at hrf
              rw [HObn.out] at hrn
              have C0 := fun W (kk : Keeps (fun _ => False) w8 W) => (Hrow8.out.keep0 kk (fun _ e => e)).c (i * 4) _ (alc_get (grA ps os f) (fun i => .slice (some ⟨B i, 0, none⟩) n n) hlt 0 _ rfl)
              have C1 := fun W (kk : Keeps (fun _ => False) w8 W) => (Hrow8.out.keep0 kk (fun _ e => e)).c (i * 4 + 1) _ (alc_get (grA ps os f) (fun i => .slice (some ⟨B i, 0, none⟩) n n) hlt 1 _ rfl)
              have C2 := fun W (kk : Keeps (fun _ => False) w8 W) => (Hrow8.out.keep0 kk (fun _ e => e)).c (i * 4 + 2) _ (alc_get (grA ps os f) (fun i => .slice (some ⟨B i, 0, none⟩) n n) hlt 2 _ rfl)
              have C3 := fun W (kk : Keeps (fun _ => False) w8 W) => (Hrow8.out.keep0 kk (fun _ e => e)).c (i * 4 + 3) _ (alc_get (grA ps os f) (fun i => .slice (some ⟨B i, 0, none⟩) n n) hlt 3 _ rfl)
              have hAc := fun W (kk : Keeps (fun _ => False) w8 W) => NUM.ofCL ((HAP8.out.c i hlt).keep0 kk (fun _ e => e))
              simp only [hgr1] at C0 C1 C2 C3
              obtain ⟨L, hL⟩ : ∃ L, obA ps os f (i + 1) = L := ⟨_, rfl⟩
              have hLn : L.length = n := by rw [← hL]; exact HObn.out f (i + 1)
              rw [← hob1, hL] at hrf
              rw [hL] at hAc
              obtain ⟨⟨⟨rg, st, nm, rd, pl, oc, rs⟩, c⟩, hF⟩ : ∃ F, gor p (obA ps os f i) [] f 0 rs0 = F := ⟨_, rfl⟩
              rw [hF] at hrf C0 C1 C3
              have Hrf : Hid _ := hrf
              have HC0 : Hid _ := C0
              have HC1 : Hid _ := C1
              have HC2 : Hid _ := C2
              have HC3 : Hid _ := C3
              have HAc : Hid _ := hAc
              have HL : Hid (obA ps os f (i + 1) = L) := hL
              have HLn : Hid (L.length = n) := hLn
              clear hrf C0 C1 C2 C3 hAc hL hLn hF hob1 hgr1 hgp hp I1 hNU HRn
              generalize p.length = P at *
              go_wp2_with (go_at_call 8; refine hrn.mono ?_; clear hrn; rintro e w10 ⟨v10, x10, rfl, hP10, k10⟩; obtain ⟨rfl, b, hb, rfl, hCb, hbl⟩ := Hrf.out w10 v10 x10 hP10; clear hP10 Hrf; obtain ⟨W2, hW2⟩ : ∃ W2, W2 = w10.alloc (.cells #[.int .i64 oc, .int .i64 rs, .slice (some ⟨b, 0, none⟩) n n, .int .i64 (c : Int)] 31) := ⟨_, rfl⟩; have HW2 : Hid (_ = _) := hW2; clear hW2; have KA2 : Keeps (fun _ => False) w10 W2 := (by rw [HW2.out]; exact (Keeps.refl _ w10).alloc _); have CA2 : CL W2 w10.heap.size [.int .i64 oc, .int .i64 rs, .slice (some ⟨b, 0, none⟩) n n, .int .i64 (c : Int)] := (by rw [HW2.out]; exact CL.made w10 _ _))
              rw [← HW2.out]
              have kr10 := kr3.trans (k10.trans KA2)
              have D0 := ks_cell (CA2.c 0 _ rfl)
              have D1 := ks_cell (CA2.c 1 _ rfl)
              have D2 := ks_cell (CA2.c 2 _ rfl)
              have D3 := ks_cell (CA2.c 3 _ rfl)
              have E0 := ks_cell (HC0.out W2 kr10)
              have E1 := ks_cell (HC1.out W2 kr10)
              have E2 := ks_cell (HC2.out W2 kr10)
              have E3 := ks_cell (HC3.out W2 kr10)
              have hsm := fun u : KS W2 => same_ok (w := u.1) (xs := L) n n oc rs (c : Int) (HAc.out u.1 (kr10.trans u.2)) ((NUM.ofCL hCb).keep (KA2.trans u.2)) (by rw [HLn.out]; omega)
              rw [HLn.out] at hsm
              have hNE : Nonempty (KS W2) := ⟨⟨W2, Keeps.refl _ W2⟩⟩
              have hqs : w10.heap.size < W2.heap.size := by rw [HW2.out]; simp
              clear HW2
              obtain ⟨q, hq⟩ : ∃ q, w10.heap.size = q := ⟨_, rfl⟩
              rw [hq] at CA2 D0 D1 D2 D3 hbl hqs
              rw [hq]
              have hqb : w8.heap.size ≤ q := by rw [← hq]; exact (kr3.trans k10).size
              have hqr : wr.heap.size ≤ q := by rw [← hq]; exact k10.size
              clear hq
              refine wp_region_ks (by kernel_rfl) (by kernel_rfl) ?_
              repeat (go_big_quiet_step (first | (go_at_call 10; refine (num11 _ _).mono ?_; rintro x w9 ⟨rfl, e9⟩; subst e9; exact ⟨rfl, ⟨_, KS.property _⟩, rfl⟩) | (go_at_call 11; refine (hsm _).mono ?_; rintro x w9 ⟨rfl, k9⟩; exact ⟨rfl, ⟨_, Keeps.trans (KS.property _) k9⟩, rfl⟩)))
              refine wpQuiet_nil ?_
              rintro _ ⟨U, rfl⟩
              have kU := U.property
              clear D0 D1 D2 D3 E0 E1 E2 E3 hNE hsm
              generalize U.val = wu at *
              have CU := CA2.keep (by show 0 < 4; decide) kU (fun e => e)
              have CbU := (hCb.keep0 KA2 (fun _ e => e)).keep0 kU (fun _ e => e)
              obtain ⟨v11, w11, r11, o11, k11⟩ := copy_nd n (NUM.ofCL CbU) (fun e => by cases e) (by rw [HLn.out]; omega)
              obtain ⟨a11, c11, rfl, hN11, hB11, -⟩ := num_of_owns o11
              have hB11' : ∀ g off, a11 = some ⟨g, off, none⟩ → wu.heap.size ≤ g := fun g off e => owns_baseD o11 g (hB11 g off e)
              rw [HLn.out] at r11
              have y2 := fun o => ((Keeps.refl (fun _ => False) wu).alloc o).cell (CU.c 2 _ rfl) (fun e => e)
              have CV := CU.keep (by show 0 < 4; decide) k11 (fun e => e)
              have CbV := CbU.keep0 k11 (fun _ e => e)
              have kr11 := (kr10.trans kU).trans k11
              have hub : b < wu.heap.size := by have := kU.size; omega
              have huq : q < wu.heap.size := by have := kU.size; omega
              have hu11 := k11.size
              clear o11 hB11 CU CbU CA2 hCb
              go_wp2_with (at_builtin; refine wpList_append_q rfl _ _ _ rfl _ _ _ w11 rfl rfl r11 ?_; clear r11)
              go_loopw [19] (fun kv Wr => ∃ (j : Nat) (L' : List Int), kv = .int .i64 (j : Int) ∧ j ≤ n ∧ L'.length = n ∧ CL Wr b (nvs L') ∧ CL Wr q [.int .i64 oc, .int .i64 rs, .slice (some ⟨b, 0, none⟩) n n, .int .i64 (c : Int)] ∧ Keeps (fun x => x = b) w11 Wr) (fun kv _ => n - (intOf kv).toNat)
              case atStart => exact ⟨0, L, rfl, Nat.zero_le _, HLn.out, CbV, CV, Keeps.refl _ w11⟩
              case round =>
                obtain ⟨j, L', rfl, hj, hL', Cb, Cq, kr4⟩ := hrel
                have HL' : Hid (L'.length = n) := hL'
                clear hL' CbV CV
                have z2 := Cq.c 2 _ rfl
                by_cases hjn : j < n
                · have hjI : decide ((j : Int) < (n : Int)) = true := decide_eq_true (by omega)
                  have hjN : decide (j < n) = true := decide_eq_true hjn
                  have hjJ : (j : Int) < (n : Int) := by omega
                  have hj0 : (0 : Int) ≤ (j : Int) := by omega
                  have hw2 : IntKind.i64.wrap ((j : Int) + 1) = (j : Int) + 1 := by rw [IntKind.wrap_i64]; omega
                  have hjl : j < (nvs L').length := by unfold nvs; rw [List.length_map, HL'.out]; exact hjn
                  have xc := Cb.c j _ (List.getElem?_eq_getElem hjl)
                  have xz := Cb.z j hjl
                  have Cb' := Cb.set hjl (.int .i64 (-77))
                  have hbq : b ≠ q := by omega
                  have HCb' : Hid _ := Cb'
                  generalize (nvs L')[j] = xx at *
                  clear Cb Cb'
                  go_wp2
                  go_roundw
                  case rel => exact ⟨j + 1, L'.set j (-77), by go_num, by omega, by rw [List.length_set]; exact HL'.out, (by have := HCb'.out; unfold nvs at this ⊢; rw [List.map_set]; exact this), Cq.other (p := ⟨b, j, none⟩) hbq _, kr4.setCell (p := ⟨b, j, none⟩) (fun _ => rfl) _⟩
                  case measure => simp [intOf]; omega
                · have hjI : decide ((j : Int) < (n : Int)) = false := decide_eq_false (by omega)
                  have hjN : decide (j < n) = false := decide_eq_false hjn
                  obtain ⟨v12, w12, r12, o12, k12⟩ := append_full Cb HL'.out h16 (-78)
                  obtain ⟨g12, c12, rfl, -, hg12, hg12', -⟩ := own_some o12 (by omega)
                  have Cq12 := Cq.keep (by show 0 < 4; decide) k12 (fun e => e)
                  have q2 := Cq12.c 2 _ rfl
                  have qz := Cq12.z 2 (by show 2 < 4; decide)
                  have Cq13 := (Cq12.set (o := 2) (by show 2 < 4; decide) (.slice (some ⟨g12, 0, none⟩) (n + 1) c12)).c 2 _ rfl
                  have kr12 : Keeps (fun _ => False) w8 w12 := (kr11.trans' kr4 (fun _ _ e => e) (fun x hx e => by have e : x = b := e; have := kr3.size; omega)).trans k12
                  have kr13 : Keeps (fun _ => False) w8 (w12.setCell ⟨q, 2, none⟩ (.slice (some ⟨g12, 0, none⟩) (n + 1) c12)) := kr12.setCell (p := ⟨q, 2, none⟩) (fun h => absurd h (by show ¬ q < _; omega)) _
                  have yr := HC2.out _ kr13
                  have hNa : NUM (w12.setCell ⟨q, 2, none⟩ (.slice (some ⟨g12, 0, none⟩) (n + 1) c12)) a11 L := by
                    refine (((hN11.keepN kr4 (fun g off e => by have := hB11' g off e; show ¬ g = b; omega)).keep k12).keepN (S := fun x => x = q) ((Keeps.refl (fun x => x = q) w12).setCell (p := ⟨q, 2, none⟩) (fun _ => rfl) _) (fun g off e => by have := hB11' g off e; show ¬ g = q; omega))
                  have hsn := sameNums_ok n c11 (HAc.out _ kr13) hNa (by rw [HLn.out]; omega)
                  rw [HLn.out] at hsn
                  have HNa : Hid _ := hNa
                  have hn1 : (((n + 1 : Nat) : Int) != ((n : Int) + 1)) = false := by simp
                  clear hNa o12 Cb Cq Cq12
                  go_wp2_with (first | (at_builtin; refine wpList_append_q rfl _ _ _ rfl _ _ _ w12 rfl rfl r12 ?_; clear r12) | (go_at_call 13; refine hsn.mono ?_; clear hsn; rintro e w14 ⟨rfl, k14⟩))
                  go_roundw
                  case rel => exact ⟨i + 1, a11, c11, by go_num, by omega, rfl, by rw [HL.out]; exact NUM.keep (show NUM _ a11 L from HNa.out) k14, kr13.trans k14⟩
                  case measure => simp [intOf]; omega
            · have hltI : decide ((i : Int) < (k : Int)) = false := decide_eq_false (by omega)
              have hltn : decide (i < k) = false := decide_eq_false hlt
              obtain ⟨w20, hw20⟩ : ∃ w20, w20 = wr := ⟨_, rfl⟩
              subst wr
              have HAP20 : Hid _ := HAP8.out.keep kr3
              have Hrow20 : Hid _ := Hrow8.out.keep0 kr3 (fun _ e => e)
              have k620 := k68.trans kr3
              have Hg20 : Hid (0 < k → w6.heap.size ≤ g ∧ g < w20.heap.size) := fun h => ⟨(Hg.out h).1, Nat.lt_of_lt_of_le (Hg.out h).2 (kr2.trans kr3).size⟩
              clear hlt HAP8 Hrow8 HRn Hg hNU HPL HO
              go_wp2
              go_loopw [20] (fun iv Wr => ∃ (i : Nat) (M : Nat → List Int), iv = .int .i64 (i : Int) ∧ i ≤ k ∧ AP w6.heap.size Wr g k n B M ∧ CL Wr g (alc (grA ps os f) (fun i => .slice (some ⟨B i, 0, none⟩) n n) k) ∧ Hid (∀ j, j < i → M j = List.replicate n (j : Int)) ∧ Keeps (fun b => w6.heap.size ≤ b) w20 Wr) (fun iv _ => k - (intOf iv).toNat)
              case atStart => exact ⟨0, _, rfl, Nat.zero_le _, HAP20.out, Hrow20.out, fun j hj => absurd hj (Nat.not_lt_zero _), Keeps.refl _ w20⟩
              case round =>
                clear HAP20 Hrow20
                obtain ⟨i2, M, rfl, hi2, hA, hR, HM, kr4⟩ := hrel
                by_cases hlt : i2 < k
                · have hltI : decide ((i2 : Int) < (k : Int)) = true := decide_eq_true (by omega)
                  have hltn : decide (i2 < k) = true := decide_eq_true hlt
                  have hltJ : (i2 : Int) < (k : Int) := by omega
                  have hi0 : (0 : Int) ≤ (i2 : Int) := by omega
                  have hw1 : IntKind.i64.wrap ((i2 : Int) + 1) = (i2 : Int) + 1 := by rw [IntKind.wrap_i64]; omega
                  obtain rfl := Hav.out (by omega)
                  obtain ⟨wo, hwo⟩ : ∃ wo, wo = wr := ⟨_, rfl⟩
                  subst wr
                  go_wp2
                  go_loopw [21] (fun kv Wr => ∃ (j : Nat) (M : Nat → List Int), kv = .int .i64 (j : Int) ∧ j ≤ n ∧ AP w6.heap.size Wr g k n B M ∧ CL Wr g (alc (grA ps os f) (fun i => .slice (some ⟨B i, 0, none⟩) n n) k) ∧ Hid (∀ j, j < i2 → M j = List.replicate n (j : Int)) ∧ Hid ((M i2).take j = List.replicate j (i2 : Int)) ∧ Keeps (fun b => w6.heap.size ≤ b) w20 Wr) (fun kv _ => n - (intOf kv).toNat)
                  case atStart => exact ⟨0, M, rfl, Nat.zero_le _, hA, hR, HM, rfl, kr4⟩
                  case round =>
                    clear hA HM kr4 hR
                    clear M
                    obtain ⟨j2, M, rfl, hj2, hA, hR, HM, HT, kr4⟩ := hrel
                    have y2 := hA.r i2 hlt
                    have HR : Hid _ := hR
                    clear hR
                    by_cases hkn : j2 < n
                    · have hkI : decide ((j2 : Int) < (n : Int)) = true := decide_eq_true (by omega)
                      have hkN : decide (j2 < n) = true := decide_eq_true hkn
                      have hkJ : (j2 : Int) < (n : Int) := by omega
                      have hk0 : (0 : Int) ≤ (j2 : Int) := by omega
                      have hw2 : IntKind.i64.wrap ((j2 : Int) + 1) = (j2 : Int) + 1 := by rw [IntKind.wrap_i64]; omega
                      obtain ⟨x, hx, xc, xz⟩ := hA.cellk hlt hkn
                      have hP := hA.put hlt hkn (i2 : Int)
                      have hbb := hA.b i2 hlt
                      have HL : Hid ((M i2).length = n) := hA.l i2 hlt
                      have HP : Hid _ := hP
                      clear hA hP hx
                      go_wp2
                      go_roundw
                      case rel =>
                        refine ⟨j2 + 1, _, by go_num, by omega, HP.out, HR.out.other (p := ⟨B i2, j2, none⟩) hbb.2.2 _, fun j hj => ?_, ?_, kr4.setCell (p := ⟨B i2, j2, none⟩) (fun _ => hbb.1) _⟩
                        · show (if j = i2 then _ else M j) = _
                          rw [if_neg (by omega)]
                          exact HM.out j hj
                        · show (if i2 = i2 then (M i2).set j2 (i2 : Int) else M i2).take (j2 + 1) = _
                          rw [if_pos rfl]
                          exact take_set_succ (by rw [HL.out]; exact hkn) HT.out
                      case measure => simp [intOf]; omega
                    · have hkI : decide ((j2 : Int) < (n : Int)) = false := decide_eq_false (by omega)
                      have hkN : decide (j2 < n) = false := decide_eq_false hkn
                      obtain rfl : j2 = n := by omega
                      have HA : Hid _ := hA
                      clear hA
                      go_wp2
                      go_roundw
                      case rel =>
                        refine ⟨i2 + 1, M, by go_num, by omega, HA.out, HR.out, fun j hj => ?_, kr4⟩
                        by_cases e : j = i2
                        · subst e
                          have h1 := HT.out
                          rw [List.take_of_length_le (by rw [HA.out.l j hlt]; exact Nat.le_refl _)] at h1
                          exact h1
                        · exact HM.out j (by omega)
                      case measure => simp [intOf]; omega
                · have hltI : decide ((i2 : Int) < (k : Int)) = false := decide_eq_false (by omega)
                  have hltn : decide (i2 < k) = false := decide_eq_false hlt
                  obtain rfl : i2 = k := by omega
                  clear hlt
                  obtain ⟨w21, hw21⟩ : ∃ w21, w21 = wr := ⟨_, rfl⟩
                  subst wr
                  have HQ : Hid (AQ w21 g i2 n 0 (grA ps os f) (fun i => .slice (some ⟨B i, 0, none⟩) n n) B (fun _ => 0) (fun _ => 0)) := ⟨hR, fun j _ h2 => ⟨rfl, by rw [← HM.out j h2]; exact hA.c j h2, (hA.b j h2).2.2⟩, fun j hj => absurd hj (Nat.not_lt_zero _)⟩
                  have Hg21 : Hid (0 < i2 → w6.heap.size ≤ g ∧ g < w21.heap.size) := fun h => ⟨(Hg20.out h).1, Nat.lt_of_lt_of_le (Hg20.out h).2 kr4.size⟩
                  clear hA hR HM
                  go_wp2
                  go_loopw [22] (fun iv Wr => ∃ (i : Nat) (S : Nat → Value) (X C : Nat → Nat), iv = .int .i64 (i : Int) ∧ i ≤ i2 ∧ AQ Wr g i2 n i (grA ps os f) S B X C ∧ Keeps (fun b => w6.heap.size ≤ b) w21 Wr) (fun iv _ => i2 - (intOf iv).toNat)
                  case atStart => exact ⟨0, _, _, _, rfl, Nat.zero_le _, HQ.out, Keeps.refl _ w21⟩
                  case round =>
                    clear HQ
                    obtain ⟨i3, S, X3, C3, rfl, hi3, hQ, kr5⟩ := hrel
                    by_cases hlt : i3 < i2
                    · have hltI : decide ((i3 : Int) < (i2 : Int)) = true := decide_eq_true (by omega)
                      have hltn : decide (i3 < i2) = true := decide_eq_true hlt
                      have hltJ : (i3 : Int) < (i2 : Int) := by omega
                      have hi0 : (0 : Int) ≤ (i3 : Int) := by omega
                      have hw1 : IntKind.i64.wrap ((i3 : Int) + 1) = (i3 : Int) + 1 := by rw [IntKind.wrap_i64]; omega
                      obtain rfl := Hav.out (by omega)
                      have hg3 := Hg21.out (by omega)
                      obtain ⟨e1, -, -⟩ := hQ.hi i3 (Nat.le_refl _) hlt
                      have y2 := hQ.row.c (i3 * 4 + 2) _ (alc_get (grA ps os f) S hlt 2 _ rfl)
                      rw [e1] at y2
                      have y2o := fun o => ((Keeps.refl (fun _ => False) wr).alloc o).cell y2 (fun e => e)
                      obtain ⟨x, c, w', hr, kk, ⟨hc1, hc2⟩, hQ'⟩ := hQ.next hlt h16 (Nat.lt_of_lt_of_le hg3.2 kr5.size)
                      have HQ' : Hid _ := hQ'
                      clear hQ hQ' e1
                      go_wp2_with (at_builtin; refine wpList_append_q rfl _ _ _ rfl _ _ _ w' rfl rfl hr ?_; clear hr)
                      go_roundw
                      case rel => exact ⟨i3 + 1, _, _, _, by go_num, by omega, HQ'.out, (kr5.trans' kk (fun _ _ e => e) (fun _ _ e => e.elim)).setCell (p := ⟨g, i3 * 4 + 2, none⟩) (fun _ => hg3.1) _⟩
                      case measure => simp [intOf]; omega
                    · have hltI : decide ((i3 : Int) < (i2 : Int)) = false := decide_eq_false (by omega)
                      have hltn : decide (i3 < i2) = false := decide_eq_false hlt
                      obtain rfl : i3 = i2 := by omega
                      clear hlt
                      obtain ⟨w22, hw22⟩ : ∃ w22, w22 = wr := ⟨_, rfl⟩
                      subst wr
                      have HQ : Hid _ := hQ
                      clear hQ
                      have K622 : Keeps (fun _ => False) w6 w22 := (k620.trans' kr4 (fun _ _ e => e) (fun x hx e => by have e : w6.heap.size ≤ x := e; omega)).trans' kr5 (fun _ _ e => e) (fun x hx e => by have e : w6.heap.size ≤ x := e; omega)
                      go_wp2
                      go_loopw [23] (fun iv Wr => ∃ q : Nat, iv = .int .i64 (q : Int) ∧ q ≤ i3 ∧ Keeps (fun _ => False) w22 Wr) (fun iv _ => i3 - (intOf iv).toNat)
                      case atStart => exact ⟨0, rfl, Nat.zero_le _, Keeps.refl _ w22⟩
                      case round =>
                        obtain ⟨q, rfl, hq, kr6⟩ := hrel
                        by_cases hlt : q < i3
                        · have hltI : decide ((q : Int) < (i3 : Int)) = true := decide_eq_true (by omega)
                          have hltn : decide (q < i3) = true := decide_eq_true hlt
                          have hltJ : (q : Int) < (i3 : Int) := by omega
                          have hi0 : (0 : Int) ≤ (q : Int) := by omega
                          have hw1 : IntKind.i64.wrap ((q : Int) + 1) = (q : Int) + 1 := by rw [IntKind.wrap_i64]; omega
                          obtain rfl := Hav.out (by omega)
                          have HY : Hid (∀ W, Keeps (fun _ => False) w22 W → W.cell? ⟨g, q * 4 + 2, none⟩ = some (.slice (some ⟨X3 q, 0, none⟩) (n + 2) (C3 q)) ∧ NUM W (some ⟨X3 q, 0, none⟩) (List.replicate (n + 2) (q : Int))) := fun W kk => by
                            have hQW := HQ.out.keep kk
                            obtain ⟨f1, f2, _⟩ := hQW.lo q hlt
                            have := hQW.row.c (q * 4 + 2) _ (alc_get (grA ps os f) S hlt 2 _ rfl)
                            rw [f1] at this
                            exact ⟨this, f2⟩
                          obtain ⟨wo, hwo⟩ : ∃ wo, wo = wr := ⟨_, rfl⟩
                          subst wr
                          go_wp2
                          go_loopw [24] (fun kv Wr => ∃ j : Nat, kv = .int .i64 (j : Int) ∧ j ≤ n + 2 ∧ Keeps (fun _ => False) w22 Wr) (fun kv _ => n + 2 - (intOf kv).toNat)
                          case atStart => exact ⟨0, rfl, by omega, kr6⟩
                          case round =>
                            obtain ⟨j4, rfl, hj4, kr7⟩ := hrel
                            obtain ⟨y2, hNX⟩ := HY.out wr kr7
                            by_cases hkn : j4 < n + 2
                            · have hkI : decide ((j4 : Int) < (n : Int) + 2) = true := decide_eq_true (by omega)
                              have hkI2 : decide ((j4 : Int) < ((n + 2 : Nat) : Int)) = true := decide_eq_true (by omega)
                              have hkN : decide (j4 < n + 2) = true := decide_eq_true hkn
                              have hkJ : (j4 : Int) < (n : Int) + 2 := by omega
                              have hk0 : (0 : Int) ≤ (j4 : Int) := by omega
                              have hw2 : IntKind.i64.wrap ((j4 : Int) + 1) = (j4 : Int) + 1 := by rw [IntKind.wrap_i64]; omega
                              obtain ⟨bx, ox, ex, cx⟩ := hNX j4 (q : Int) (by rw [List.getElem?_replicate, if_pos hkn])
                              injection ex with ex
                              injection ex with ex1 ex2 _
                              subst ex1 ex2
                              rw [Nat.zero_add] at cx
                              have hne : ((q : Int) != (q : Int)) = false := by simp
                              clear hNX
                              go_wp2
                              go_roundw
                              case rel => exact ⟨j4 + 1, by go_num, by omega, kr7⟩
                              case measure => simp [intOf]; omega
                            · have hkI : decide ((j4 : Int) < (n : Int) + 2) = false := decide_eq_false (by omega)
                              have hkI2 : decide ((j4 : Int) < ((n + 2 : Nat) : Int)) = false := decide_eq_false (by omega)
                              have hkN : decide (j4 < n + 2) = false := decide_eq_false hkn
                              clear hNX
                              go_wp2
                              go_roundw
                              case rel => exact ⟨q + 1, by go_num, by omega, kr7⟩
                              case measure => simp [intOf]; omega
                        · have hltI : decide ((q : Int) < (i3 : Int)) = false := decide_eq_false (by omega)
                          have hltn : decide (q < i3) = false := decide_eq_false hlt
                          go_wp2
                          go_ret
                          exact ⟨rfl, (K2.trans (K622.trans kr6)).below (Nat.le_refl _) (fun _ _ e => e)⟩
theorem chain_any {w : World} {a ao : Option Addr} {cap co : Nat} {ps : List (List Ins)} {os : List Int} (hT : PT w) (hNT : NT w)
    (hP : PLL w a ps) (hlens : ∀ p ∈ ps, p.length * 88 ≤ 140737488355328) (hps : (ps.length + 1) * 24 ≤ 140737488355328)
    (hO : NUM w ao os) (hoz : ao = none → co = 0) (fuel : Int) :
    Calls Tryz.prog 5 #[.slice a ps.length cap, .slice ao os.length co, .int .i64 fuel] w fun e w' => e = .returned (.bool true) ∧ Below w.heap.size w w' := by
  by_cases h0 : fcx ps = 0
  · by_cases h1 : rfs os.length 0 fuel = 0
    · exact chain_ok hT hNT hP hlens hps hO hoz fuel h0 h1
    · exact chain_no hT hNT hP hlens hps hO fuel h0 h1
  · exact chain_bad hT hNT hP hlens hps hO fuel h0
theorem weights_all {H : Type} {P : Program} {e : TypeId} {d : DataW H} {n : Nat} : ∀ {l : List (DataW H)}, d ∈ l → n ∈ d.weights P e → n ∈ DataW.weightsAll P e l
  | [], h, _ => by simp at h
  | x :: l, h, hn => by
    simp only [DataW.weightsAll, List.mem_append]
    rcases List.mem_cons.1 h with rfl | h
    · exact .inl hn
    · exact .inr (weights_all h hn)
end Go.Proofs.YthchbcfecconbaaGreatDoor
