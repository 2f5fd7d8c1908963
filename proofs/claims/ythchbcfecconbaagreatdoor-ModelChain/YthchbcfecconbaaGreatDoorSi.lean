import Derived.Test.YthchbcfecconbaaGreatDoorSg
namespace Go.Proofs.YthchbcfecconbaaGreatDoor
open Go.RowKit Go.Deep Go.ChangeShapes Go.WideShapes Go.ChangeAt
attribute [local go_sem] Oper.semAt_some run_store_nf run_store_f
/-- An answer behind a list of the call's own that has room. -/
theorem append_room1 {W : World} {base k cap g : Nat} {xs : List Value} (hown : W.ownsRow base 31 4 (.slice (some ⟨g, 0, none⟩) k cap) k xs) (hk : k + 1 ≤ cap) (q : List Value) (hq : q.length = 4) (h1 : ∀ u ∈ q, u.oneCell' = true) :
    ∃ w', (Builtin.append_ #[46, 46] 46 #[.slice (some ⟨g, 0, none⟩) k cap, .slice (some ⟨W.heap.size, 0, none⟩) 1 1]).run Tryz.prog (W.alloc (.cells q.toArray 31)) = .ok (.slice (some ⟨g, 0, none⟩) (k + 1) cap) w' ∧ w'.ownsRow base 31 4 (.slice (some ⟨g, 0, none⟩) (k + 1) cap) (k + 1) (xs ++ q) ∧ Keeps (fun i => i = g) W w' := by
  obtain ⟨i0, hi0, hz0, hz1, hz2⟩ := ali
  have hgl := owns_lt' hown g rfl
  have ho1 := ((Keeps.refl (fun _ => False) W).alloc (.cells q.toArray 31)).owns hown (fun _ _ e => e)
  rcases ho1.2 with ⟨e, _⟩ | ⟨g', cap', cur, e, hbg, hg, hnc, hcm, hcs, htake⟩
  · cases e
  · injection e with e1 _ e2
    injection e1 with e1
    injection e1 with e1 _ _
    subst e1 e2
    have hcur : (k + 1) * 4 ≤ cur.size := by rw [hcs]; exact Nat.mul_le_mul_right _ hk
    have hlen : (xs ++ q).length = (k + 1) * 4 := by rw [List.length_append, hown.1, hq]; omega
    have hr := run_append_room (P := Tryz.prog) (W.alloc (.cells q.toArray 31)) 46 46 31 i0 aI hi0 g k cap cur hg ⟨W.heap.size, 0, none⟩ 1 1 q (by rw [hz1, hq]) (fun j u hu => by
      rw [add_at]
      have := (CL.made W q 31).c j u hu
      simpa using this) h1 hk (by rw [hz1, hq]; omega)
    refine ⟨_, hr, ⟨hlen, .inr ⟨g, cap, _, rfl, hbg, setRow_heap _ g cur _ 31 _ hg, hk, hcm, ?_, ?_⟩⟩, ?_⟩
    · have e1 : cur.toList.length = cap * 4 := by rw [Array.length_toList]; exact hcs
      simp only [List.size_toArray, List.length_append, List.length_take, List.length_drop, hz1, hq]
      omega
    · rw [hz1, htake, ← hlen]
      exact List.take_left
    · have k0 : Keeps (fun i => i = g) W (W.alloc (.cells q.toArray 31)) := (Keeps.refl _ W).alloc _
      exact ⟨rfl, rfl, rfl, by simp, fun i hi hne => (setRow_other _ g i _ (fun e => hne e)).trans (k0.block i hi hne)⟩
theorem SA.nextR {base k n b g cap : Nat} {W W1 : World} {F : Nat → Rs × Nat} {O : Nat → List Int} {B : Nat → Nat} (h : SA base W (.slice (some ⟨g, 0, none⟩) k cap) k n F O B) (_hb0 : base ≤ W.heap.size) (k1 : Keeps (fun _ => False) W W1) (hb : W.heap.size ≤ b) (hb1 : b < W1.heap.size) (hC : CL W1 b (nvs (O (k + 1)))) (hk : k + 1 ≤ cap) :
    ∃ w', (Builtin.append_ #[46, 46] 46 #[.slice (some ⟨g, 0, none⟩) k cap, .slice (some ⟨W1.heap.size, 0, none⟩) 1 1]).run Tryz.prog (W1.alloc (.cells #[.int .i64 (F k).1.oc, .int .i64 (F k).1.rs, .slice (some ⟨b, 0, none⟩) n n, .int .i64 ((F k).2 : Int)] 31)) = .ok (.slice (some ⟨g, 0, none⟩) (k + 1) cap) w' ∧ SA base w' (.slice (some ⟨g, 0, none⟩) (k + 1) cap) (k + 1) n F O (fun i => if i = k then b else B i) ∧ Keeps (fun i => i = g) W1 w' := by
  have h1 := h.keep k1
  have hgl := owns_lt' h.o g rfl
  obtain ⟨w', hr, ho, kk⟩ := append_room1 h1.o hk [.int .i64 (F k).1.oc, .int .i64 (F k).1.rs, .slice (some ⟨b, 0, none⟩) n n, .int .i64 ((F k).2 : Int)] rfl (fun u hu => by
    simp at hu
    rcases hu with rfl | rfl | rfl | rfl <;> rfl)
  have hne : ∀ i, i < k → B i ≠ g := fun i hi e => (h.b i hi).2.2 (by rw [e]; rfl)
  have hs := kk.size
  refine ⟨w', hr, ⟨?_, fun i hi => ?_, fun i hi => ?_, fun i j hij hj => ?_⟩, kk⟩
  · rw [alc_succ, if_pos rfl, alc_congr (T := fun i => .slice (some ⟨B i, 0, none⟩) n n) (fun i hi => by rw [if_neg (by omega)])]
    exact ho
  · by_cases e : i = k
    · subst e
      rw [if_pos rfl]
      exact hC.keep0 kk (fun _ e => by have e : b = g := e; omega)
    · rw [if_neg e]
      exact (h1.c i (by omega)).keep0 kk (fun _ => hne i (by omega))
  · by_cases e : i = k
    · subst e
      rw [if_pos rfl]
      refine ⟨by omega, by omega, fun e => ?_⟩
      have e : some g = some b := e
      injection e with e
      omega
    · rw [if_neg e]
      have := h1.b i (by omega)
      refine ⟨this.1, by omega, fun e => ?_⟩
      have e : some g = some (B i) := e
      injection e with e
      exact hne i (by omega) e.symm
  · by_cases e : j = k
    · subst e
      rw [if_pos rfl, if_neg (by omega)]
      have := (h.b i (by omega)).2.1
      omega
    · rw [if_neg e, if_neg (by omega)]
      exact h.d i j hij (by omega)
set_option maxHeartbeats 1000000 in
set_option maxRecDepth 1000000 in
theorem series_full {w : World} {a ao : Option Addr} {cap co : Nat} {ps : List (List Ins)} {os : List Int} (hT : LT w) (hP : PLL w a ps) (hlens : ∀ p ∈ ps, p.length ≤ 9223372036854775807) (hO : NUM w ao os) (hps : ps.length * 48 ≤ 281474976710656) (fuel : Int) : Calls Tryz.prog 16 #[.slice a ps.length cap, .slice ao os.length co, .int .i64 fuel] w fun e w' => ∃ v x, e = .returned (.tuple #[v, .int .i64 x]) ∧ SerP w w' ps os fuel v x ∧ Keeps (fun _ => False) w w' := by
  have hfa := fun k p => fcx_at (ps := ps) (k := k) (p := p)
  have hfl := fcx_all (ps := ps)
  have hfz := fcx_zero (ps := ps)
  have HObl : Hid (∀ f k, (obA ps os f k).length = os.length) := obA_len ps os
  have hRf := fun W => refused_any W ao none os.length co 0 0 fuel
  have hrf := rfs_ok (no := os.length) (ng := 0) (fuel := fuel)
  obtain ⟨xr, hxr⟩ : ∃ xr, rfs os.length 0 fuel = xr := ⟨_, rfl⟩
  rw [hxr] at hRf hrf
  have Hxr : Hid (rfs os.length 0 fuel = xr) := hxr
  clear hxr
  obtain ⟨n, hn⟩ : ∃ n, os.length = n := ⟨_, rfl⟩
  obtain ⟨N, hN⟩ : ∃ N, ps.length = N := ⟨_, rfl⟩
  rw [hN] at hps ⊢
  rw [hn] at hRf hrf ⊢
  have HObn : Hid (∀ f k, (obA ps os f k).length = n) := fun f k => (HObl.out f k).trans hn
  clear HObl
  have HN : Hid (ps.length = N) := hN
  have Hn : Hid (os.length = n) := hn
  clear hN hn
  have Hfa : Hid _ := hfa
  have Hfl : Hid _ := hfl
  have Hfz : Hid _ := hfz
  have Hrf : Hid _ := hrf
  clear hfa hfl hfz hrf
  obtain ⟨f, hf⟩ : ∃ f, fuel.toNat = f := ⟨_, rfl⟩
  have Hf : Hid (fuel.toNat = f) := hf
  clear hf
  have hN0 : (0 : Int) ≤ (N : Int) := by omega
  go_enter Tryz.func16, Tryz.ntmps16
  go_wp2
  go_loopw [19] (fun iv Wr => ∃ k : Nat, iv = .int .i64 (k : Int) ∧ k ≤ N ∧ Hid (∀ (j : Nat) (q : List Ins), j < k → ps[j]? = some q → (chk q).1 = 0) ∧ Keeps (fun _ => False) w Wr) (fun iv _ => N - (intOf iv).toNat)
  case atStart => exact ⟨0, rfl, Nat.zero_le _, fun j q h => absurd h (Nat.not_lt_zero _), Keeps.refl _ w⟩
  case round =>
    obtain ⟨k, rfl, hk, HZ, kr⟩ := hrel
    by_cases hlt : k < N
    · have hltI : decide ((k : Int) < (N : Int)) = true := decide_eq_true (by omega)
      have hltn : decide (k < N) = true := decide_eq_true hlt
      have hltJ : (k : Int) < (N : Int) := by omega
      have hk0 : (0 : Int) ≤ (k : Int) := by omega
      have hw1 : IntKind.i64.wrap ((k : Int) + 1) = (k : Int) + 1 := by rw [IntKind.wrap_i64]; omega
      obtain ⟨p, hp⟩ : ∃ p, ps[k]? = some p := ⟨_, List.getElem?_eq_getElem (by rw [HN.out]; exact hlt)⟩
      obtain ⟨b, off, ai, ci, rfl, hc, hI⟩ := hP k p hp
      have c1 := kr.cell hc (fun e => e)
      have hCh := check_any (cap := ci) (hT.keep kr) (hI.keep kr) (hlens p (List.mem_of_getElem? hp))
      have Hp : Hid (ps[k]? = some p) := hp
      clear hc hI hp
      have HC : Hid (∀ ce, (chk p).1 = ce → (chk p).1 = ce) := fun ce h => h
      obtain ⟨ce, hce⟩ : ∃ ce, (chk p).1 = ce := ⟨_, rfl⟩
      rw [hce] at hCh
      have Hce : Hid ((chk p).1 = ce) := hce
      clear hce HC
      generalize (chk p).2 = ci2 at *
      generalize p.length = P at *
      by_cases h0 : ce = 0
      · subst h0
        go_wp2_with (go_at_call 19; refine hCh.mono ?_; clear hCh; rintro e w1 ⟨rfl, k1⟩)
        go_roundw
        case rel => exact ⟨k + 1, by go_num, by omega, fun j q hj hq => by rcases Nat.lt_or_ge j k with h | h; exact HZ.out j q h hq; (obtain rfl : j = k := by omega); (rw [Hp.out] at hq); (injection hq with hq); (rw [← hq]; exact Hce.out), kr.trans k1⟩
        case measure => simp [intOf]; omega
      · have hb : (ce != 0) = true := by simpa using h0
        go_wp2_with (go_at_call 19; refine hCh.mono ?_; clear hCh; rintro e w1 ⟨rfl, k1⟩)
        go_ret2
        have hx := Hfa.out k p HZ.out Hp.out (by rw [Hce.out]; exact h0)
        rw [Hce.out] at hx
        exact ⟨_, _, rfl, .inl ⟨by rw [hx]; exact h0, hx.symm, rfl⟩, kr.trans k1⟩
    · have hltI : decide ((k : Int) < (N : Int)) = false := decide_eq_false (by omega)
      have hltn : decide (k < N) = false := decide_eq_false hlt
      have hfx : fcx ps = 0 := Hfl.out (fun j q hq => HZ.out j q (by have := (List.getElem?_eq_some_iff.1 hq).1; rw [HN.out] at this; omega) hq)
      have Hfx : Hid (fcx ps = 0) := hfx
      clear hfx
      have Hfz2 : Hid (∀ (j : Nat) (q : List Ins), ps[j]? = some q → (chk q).1 = 0) := Hfz.out Hfx.out
      clear Hfa Hfl Hfz HZ
      by_cases hx : xr = 0
      · subst hx
        obtain ⟨h16, _, hf0, hf1⟩ := Hrf.out rfl
        clear Hrf
        obtain rfl : fuel = (f : Int) := by have := Hf.out; omega
        clear Hf
        obtain ⟨wm, hmk, hom, km⟩ := make_al wr kr.size N (by omega)
        obtain ⟨gm, hgm⟩ : ∃ gm, wr.heap.size = gm := ⟨_, rfl⟩
        rw [hgm] at hmk hom
        have hgw : w.heap.size ≤ gm := by rw [← hgm]; exact kr.size
        clear hgm
        have KM := kr.trans km
        obtain ⟨wo, hwo⟩ : ∃ wo, wo = wr := ⟨_, rfl⟩
        subst wr
        go_wp2_with (go_at_call 22; refine (hRf _).mono ?_; clear hRf; rintro e w2 ⟨rfl, e2⟩; subst w2)
        go_loopw [1, 13, 43] (fun ov rv kv Wr => ∃ (k : Nat) (B : Nat → Nat) (ao' : Option Addr) (co' : Nat), kv = .int .i64 (k : Int) ∧ k ≤ N ∧ ov = .slice ao' n co' ∧ rv = .slice (some ⟨gm, 0, none⟩) k N ∧ NUM Wr ao' (obA ps os f k) ∧ SA w.heap.size Wr rv k n (grA ps os f) (obA ps os f) B ∧ Keeps (fun _ => False) w Wr) (fun _ _ kv _ => N - (intOf kv).toNat)
        case atStart => exact ⟨0, fun _ => 0, ao, co, rfl, Nat.zero_le _, rfl, rfl, hO.keep KM, SA.first hom _ _ _ _, KM⟩
        case round =>
          obtain ⟨k2, B, ao', co', rfl, hk2, rfl, rfl, hNU, hSA, kr2⟩ := hrel
          by_cases hlt2 : k2 < N
          · have hltI2 : decide ((k2 : Int) < (N : Int)) = true := decide_eq_true (by omega)
            have hltn2 : decide (k2 < N) = true := decide_eq_true hlt2
            have hltJ : (k2 : Int) < (N : Int) := by omega
            have hk0 : (0 : Int) ≤ (k2 : Int) := by omega
            have hw1 : IntKind.i64.wrap ((k2 : Int) + 1) = (k2 : Int) + 1 := by rw [IntKind.wrap_i64]; omega
            obtain ⟨p, hp⟩ : ∃ p, ps[k2]? = some p := ⟨_, List.getElem?_eq_getElem (by rw [HN.out]; exact hlt2)⟩
            obtain ⟨b, off, ai, ci, rfl, hc, hI⟩ := hP k2 p hp
            have c1 := kr2.cell hc (fun e => e)
            have hok := chk_ok (Hfz2.out k2 p hp)
            have hal := alone_any (cap := ci) (co := co') (cg := 0) (ag := none) (gs := []) (hI.keep kr2) hok.1 hok.2 hNU (fun i x hx => by simp at hx) (by rw [HObn.out]; exact h16) f (by omega)
            have hgp : ps.getD k2 [] = p := by rw [List.getD_eq_getElem?_getD, hp]; rfl
            have hob1 : obA ps os f (k2 + 1) = lft (obA ps os f k2) (gor p (obA ps os f k2) [] f 0 rs0).1 n := by
              show lft (obA ps os f k2) (gor (ps.getD k2 []) (obA ps os f k2) [] f 0 rs0).1 (obA ps os f k2).length = _
              rw [hgp, HObn.out]
            have hgr1 : grA ps os f k2 = gor p (obA ps os f k2) [] f 0 rs0 := by unfold grA; rw [hgp]
            rw [HObn.out, List.length_nil] at hal
            have hnx := fun W1 b (k1 : Keeps (fun _ => False) wr W1) (hb : wr.heap.size ≤ b) (hb1 : b < W1.heap.size) (hC : CL W1 b (nvs (obA ps os f (k2 + 1)))) => hSA.nextR kr2.size k1 hb hb1 hC (by omega)
            have hvb : gm < wr.heap.size := owns_lt' hSA.o gm rfl
            unfold AN at hal
            rw [HObn.out] at hal
            rw [hob1, hgr1] at hnx
            obtain ⟨⟨⟨rg, st, nm, rd, pl, oc, rs⟩, c⟩, hF⟩ : ∃ F, gor p (obA ps os f k2) [] f 0 rs0 = F := ⟨_, rfl⟩
            rw [hF] at hal hnx
            have HF : Hid (_ = _) := hF
            have Hob1 : Hid (_ = _) := hob1
            have Hnx : Hid _ := hnx
            have Hvb : Hid _ := hvb
            have HSA : Hid _ := hSA
            clear hF hob1 hgr1 hgp hp hc hI hnx hvb hNU hok hSA
            generalize p.length = P at *
            go_wp2_with (first | (go_at_call 23; refine hal.mono ?_; clear hal; rintro e w3 ⟨v3, rfl, ⟨b3, hb3, rfl, C3, hb3'⟩, k3⟩; obtain ⟨w4, r4, S4, k4⟩ := Hnx.out (w3.alloc (.cells #[.int .i64 oc, .int .i64 rs, .slice (some ⟨b3, 0, none⟩) n n, .int .i64 (c : Int)] 31)) b3 (k3.alloc _) hb3 (by simp; omega) (C3.keep0 ((Keeps.refl (fun _ => False) w3).alloc _) (fun _ e => e)); have y2 := k4.cell ((CL.made w3 [.int .i64 oc, .int .i64 rs, .slice (some ⟨b3, 0, none⟩) n n, .int .i64 (c : Int)] 31).c 2 _ rfl) (fun e => by have h1 : w3.heap.size = gm := e; have := Hvb.out; have := k3.size; omega); rw [show (w3.alloc (.cells #[.int .i64 oc, .int .i64 rs, .slice (some ⟨b3, 0, none⟩) n n, .int .i64 (c : Int)] 31)).heap.size = w3.heap.size + 1 by simp] at r4) | (at_builtin; refine wpList_append_q rfl _ _ _ rfl _ _ _ w4 rfl rfl r4 ?_; clear r4))
            go_roundw
            case rel => exact ⟨k2 + 1, _, _, _, by go_num, by omega, rfl, rfl, by have := S4.c k2 (by omega); rw [if_pos rfl] at this; exact NUM.ofCL this, S4, (kr2.trans (k3.alloc _)).trans' k4 (fun _ _ e => e) (fun i hi e => by have e : i = gm := e; omega)⟩
            case measure => simp [intOf]; omega
          · have hltI2 : decide ((k2 : Int) < (N : Int)) = false := decide_eq_false (by omega)
            have hltn2 : decide (k2 < N) = false := decide_eq_false hlt2
            obtain rfl : k2 = N := by omega
            go_wp2
            go_ret2
            exact ⟨_, _, rfl, .inr (.inr ⟨Hfx.out, Hxr.out, rfl, B, by rw [HN.out, Hn.out]; exact hSA⟩), kr2⟩
      · have hb : (xr != 0) = true := by simpa using hx
        go_wp2_with (go_at_call 22; refine (hRf _).mono ?_; clear hRf; rintro e w2 ⟨rfl, e2⟩; subst w2)
        go_ret2
        exact ⟨_, _, rfl, .inr (.inl ⟨Hfx.out, by rw [Hxr.out]; exact hx, Hxr.out.symm, rfl⟩), kr⟩
end Go.Proofs.YthchbcfecconbaaGreatDoor
