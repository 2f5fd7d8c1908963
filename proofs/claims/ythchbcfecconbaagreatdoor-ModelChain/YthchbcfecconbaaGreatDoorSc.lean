import Derived.Test.YthchbcfecconbaaGreatDoorSb
namespace Go.Proofs.YthchbcfecconbaaGreatDoor
open Go.RowKit Go.Deep Go.ChangeShapes Go.WideShapes Go.ChangeAt
attribute [local go_sem] Oper.semAt_some run_store_nf run_store_f
/-- The document's answers of the first k programs, in memory. -/
structure DA (base : Nat) (W : World) (v : Value) (k n : Nat) (F : Nat → Rs × Nat) (O : Nat → List Int) (A : Nat → Option Addr) (C : Nat → Nat) : Prop where
  o : W.ownsRow base 31 4 v k (alc F (fun i => .slice (A i) n (C i)) k)
  c : ∀ i, i < k → NUM W (A i) (O (i + 1))
  b : ∀ i, i < k → ∀ b off, A i = some ⟨b, off, none⟩ → b < W.heap.size ∧ v.ownBlock ≠ some b
theorem DA.keep {base k n : Nat} {W W' : World} {v : Value} {F : Nat → Rs × Nat} {O : Nat → List Int} {A : Nat → Option Addr} {C : Nat → Nat} (h : DA base W v k n F O A C) (kk : Keeps (fun _ => False) W W') : DA base W' v k n F O A C :=
  ⟨kk.owns h.o (fun _ _ e => e), fun i hi => (h.c i hi).keep kk, fun i hi b off e => ⟨Nat.lt_of_lt_of_le (h.b i hi b off e).1 kk.size, (h.b i hi b off e).2⟩⟩
theorem DA.first {base : Nat} {W : World} (n : Nat) (F : Nat → Rs × Nat) (O : Nat → List Int) (A : Nat → Option Addr) (C : Nat → Nat) : DA base W (.slice none 0 0) 0 n F O A C :=
  ⟨World.ownsRow_nil _ _ _ _, fun i hi => by omega, fun i hi => by omega⟩
theorem DA.next {base k n c : Nat} {W W1 : World} {a : Option Addr} {v : Value} {F : Nat → Rs × Nat} {O : Nat → List Int} {A : Nat → Option Addr} {C : Nat → Nat} (h : DA base W v k n F O A C) (hb0 : base ≤ W.heap.size) (k1 : Keeps (fun _ => False) W W1) (hb : ∀ b off, a = some ⟨b, off, none⟩ → W.heap.size ≤ b ∧ b < W1.heap.size) (hC : NUM W1 a (O (k + 1))) (hk : (k + 1) * 48 ≤ 140737488355328) :
    ∃ v' w', (Builtin.append_ #[46, 46] 46 #[v, .slice (some ⟨W1.heap.size, 0, none⟩) 1 1]).run Tryz.prog (W1.alloc (.cells #[.int .i64 (F k).1.oc, .int .i64 (F k).1.rs, .slice a n c, .int .i64 ((F k).2 : Int)] 31)) = .ok v' w' ∧ DA base w' v' (k + 1) n F O (fun i => if i = k then a else A i) (fun i => if i = k then c else C i) ∧ Keeps (fun i => v.ownBlock = some i) W1 w' := by
  have h1 := h.keep k1
  obtain ⟨v', w', hr, ho, kk, hbl⟩ := append_al h1.o (Nat.le_trans hb0 k1.size) hk [.int .i64 (F k).1.oc, .int .i64 (F k).1.rs, .slice a n c, .int .i64 ((F k).2 : Int)] rfl (fun u hu => by
    simp at hu
    rcases hu with rfl | rfl | rfl | rfl <;> rfl)
  have hvb : ∀ b off, a = some ⟨b, off, none⟩ → v.ownBlock ≠ some b := fun b off e e' => by have := owns_lt' h.o b e'; have := hb b off e; omega
  refine ⟨v', w', hr, ⟨?_, fun i hi => ?_, fun i hi => ?_⟩, kk⟩
  · rw [alc_succ, if_pos rfl, if_pos rfl, alc_congr (T := fun i => .slice (A i) n (C i)) (fun i hi => by rw [if_neg (by omega), if_neg (by omega)])]
    exact ho
  · by_cases e : i = k
    · subst e
      rw [if_pos rfl]
      exact hC.keepN kk hvb
    · rw [if_neg e]
      exact (h1.c i (by omega)).keepN kk (fun b off e => (h1.b i (by omega) b off e).2)
  · have hs := kk.size
    by_cases e : i = k
    · subst e
      rw [if_pos rfl]
      intro b off e
      refine ⟨by have := hb b off e; omega, fun e' => ?_⟩
      rcases hbl with hb' | hb'
      · exact hvb b off e (hb' ▸ e')
      · rw [hb'] at e'; injection e' with e'; have := hb b off e; omega
    · rw [if_neg e]
      intro b off e
      have := h1.b i (by omega) b off e
      refine ⟨by omega, fun e' => ?_⟩
      rcases hbl with hb' | hb'
      · exact this.2 (hb' ▸ e')
      · rw [hb'] at e'; injection e' with e'; omega
/-- What the document's Series answers. -/
def DSerP (w w' : World) (ps : List (List Ins)) (os : List Int) (fuel : Int) (v : Value) (x : Int) : Prop :=
  (¬ fcx ps = 0 ∧ x = fcx ps ∧ v = .slice none 0 0) ∨ (fcx ps = 0 ∧ ¬ rfs os.length 0 fuel = 0 ∧ x = rfs os.length 0 fuel ∧ v = .slice none 0 0) ∨ (fcx ps = 0 ∧ rfs os.length 0 fuel = 0 ∧ x = 0 ∧ ∃ A C, DA w.heap.size w' v ps.length os.length (grA ps os fuel.toNat) (obA ps os fuel.toNat) A C)
theorem chk_nil : (chk []).1 = 0 := by kernel_rfl
theorem drun_form {w w' : World} {os : List Int} {fuel : Int} {v : Value} {x : Int} (h : DRunP w w' [] os [] fuel v x) : x = rfs os.length 0 fuel ∧ ∃ oc rs a n c k, v = .agg #[.int .i64 oc, .int .i64 rs, .slice a n c, .int .i64 k] := by
  rcases h with ⟨h, _⟩ | ⟨_, _, rfl, rfl⟩ | ⟨_, h, rfl, a', c', rfl, _⟩
  · exact absurd chk_nil h
  · exact ⟨rfl, 0, 0, none, 0, 0, 0, rfl⟩
  · exact ⟨h.symm, _, _, _, _, _, _, rfl⟩
theorem drun_fine {w w' : World} {p : List Ins} {os : List Int} {fuel : Int} {v : Value} {x : Int} (h : DRunP w w' p os [] fuel v x) (h0 : (chk p).1 = 0) (h1 : rfs os.length 0 fuel = 0) : ∃ a c, v = .agg #[.int .i64 (gor p os [] fuel.toNat 0 rs0).1.oc, .int .i64 (gor p os [] fuel.toNat 0 rs0).1.rs, .slice a os.length c, .int .i64 ((gor p os [] fuel.toNat 0 rs0).2 : Int)] ∧ NUM w' a (lft os (gor p os [] fuel.toNat 0 rs0).1 os.length) ∧ (∀ b off, a = some ⟨b, off, none⟩ → w.heap.size ≤ b ∧ b < w'.heap.size) := by
  rcases h with ⟨h, _⟩ | ⟨_, h, _⟩ | ⟨_, _, _, h⟩
  · exact absurd h0 h
  · exact absurd h1 h
  · exact h
set_option maxHeartbeats 1000000 in
set_option maxRecDepth 1000000 in
theorem rseries_any {w : World} {a ao : Option Addr} {cap co : Nat} {ps : List (List Ins)} {os : List Int} (hP : PLL w a ps) (hlens : ∀ p ∈ ps, p.length ≤ 9223372036854775807) (hO : NUM w ao os) (hOB : ∀ b off, ao = some ⟨b, off, none⟩ → b < w.heap.size) (hos : ∀ i, In64 (os.getD i 0)) (hqs : ∀ p ∈ ps, ∀ i, i < p.length → In64 (p.getD i ins0).xN ∧ In64 (p.getD i ins0).yN) (hps : (ps.length + 1) * 48 ≤ 140737488355328) (fuel : Int) : Calls Tryz.prog 17 #[.slice a ps.length cap, .slice ao os.length co, .int .i64 fuel] w fun e w' => ∃ v x, e = .returned (.tuple #[v, .int .i64 x]) ∧ DSerP w w' ps os fuel v x ∧ Keeps (fun _ => False) w w' := by
  have hfa := fun k p => fcx_at (ps := ps) (k := k) (p := p)
  have hfl := fcx_all (ps := ps)
  have hfz := fcx_zero (ps := ps)
  have HObl : Hid (∀ f k, (obA ps os f k).length = os.length) := obA_len ps os
  have HOb6 : Hid (fcx ps = 0 → os.length ≤ 16 → ∀ f k, k ≤ ps.length → ∀ i, In64 ((obA ps os f k).getD i 0)) := fun h0 h16 f k hk => obA_in64 h16 hos h0 hqs k hk
  have hR0 := fun W (k : Keeps (fun _ => False) w W) => drun_any (w := W) (a := none) (cap := 0) (co := co) (cg := 0) (ag := none) (l := []) (gs := []) (fun i hi => by simp at hi) (by simp) (hO.keep k) (fun i x hx => by simp at hx) (fun b off e => Nat.lt_of_lt_of_le (hOB b off e) k.size) (fun b off e => by cases e) hos (fun i => by simp [In64]) (fun p hp => by simp at hp) fuel
  obtain ⟨xr, hxr⟩ : ∃ xr, rfs os.length 0 fuel = xr := ⟨_, rfl⟩
  have hrf := rfs_ok (no := os.length) (ng := 0) (fuel := fuel)
  rw [hxr] at hrf
  have Hxr : Hid (rfs os.length 0 fuel = xr) := hxr
  clear hxr
  obtain ⟨n, hn⟩ : ∃ n, os.length = n := ⟨_, rfl⟩
  obtain ⟨N, hN⟩ : ∃ N, ps.length = N := ⟨_, rfl⟩
  rw [hN] at hps ⊢
  rw [hn] at hrf ⊢
  simp only [hn, List.length_nil] at hR0
  have HObn : Hid (∀ f k, (obA ps os f k).length = n) := fun f k => (HObl.out f k).trans hn
  clear HObl
  have HN : Hid (ps.length = N) := hN
  have Hn : Hid (os.length = n) := hn
  clear hN hn
  have Hfa : Hid _ := hfa
  have Hfl : Hid _ := hfl
  have Hfz : Hid _ := hfz
  have Hrf : Hid _ := hrf
  have HR0 : Hid _ := hR0
  clear hfa hfl hfz hrf hR0
  obtain ⟨f, hf⟩ : ∃ f, fuel.toNat = f := ⟨_, rfl⟩
  have Hf : Hid (fuel.toNat = f) := hf
  clear hf
  have hN0 : (0 : Int) ≤ (N : Int) := by omega
  go_enter Tryz.func17, Tryz.ntmps17
  go_wp2
  go_loopw [8] (fun iv Wr => ∃ k : Nat, iv = .int .i64 (k : Int) ∧ k ≤ N ∧ Hid (∀ (j : Nat) (q : List Ins), j < k → ps[j]? = some q → (chk q).1 = 0) ∧ Keeps (fun _ => False) w Wr) (fun iv _ => N - (intOf iv).toNat)
  case atStart => exact ⟨0, rfl, Nat.zero_le _, fun j q h => absurd h (Nat.not_lt_zero _), Keeps.refl _ w⟩
  case round =>
    obtain ⟨k, rfl, hk, HZ, kr⟩ := hrel
    by_cases hlt : k < N
    · have hltI : decide ((k : Int) < (N : Int)) = true := decide_eq_true (by omega)
      have hltn : decide (k < N) = true := decide_eq_true hlt
      have hltJ : (k : Int) < (N : Int) := by omega
      have hk0 : (0 : Int) ≤ (k : Int) := by omega
      have hw1 : IntKind.i64.wrap ((k : Int) + 1) = (k : Int) + 1 := by rw [IntKind.wrap_i64]; omega
      obtain ⟨p, hp⟩ : ∃ p, ps[k]? = some p := ⟨_, List.getElem?_eq_getElem (by rw [HN.out]; exact hlt)⟩
      obtain ⟨b, off, ai, ci, rfl, hc, hI⟩ := hP k p hp
      have c1 := kr.cell hc (fun e => e)
      have hCh := rcheck_any (cap := ci) (hI.keep kr) (hlens p (List.mem_of_getElem? hp))
      have Hp : Hid (ps[k]? = some p) := hp
      clear hc hI hp
      obtain ⟨ce, hce⟩ : ∃ ce, (chk p).1 = ce := ⟨_, rfl⟩
      rw [hce] at hCh
      have Hce : Hid ((chk p).1 = ce) := hce
      clear hce
      generalize (chk p).2 = ci2 at *
      generalize p.length = P at *
      by_cases h0 : ce = 0
      · subst h0
        go_wp2_with (go_at_call 24; refine hCh.mono ?_; clear hCh; rintro e w1 ⟨rfl, k1⟩)
        go_roundw
        case rel => exact ⟨k + 1, by go_num, by omega, fun j q hj hq => by rcases Nat.lt_or_ge j k with h | h; exact HZ.out j q h hq; (obtain rfl : j = k := by omega); (rw [Hp.out] at hq); (injection hq with hq); (rw [← hq]; exact Hce.out), kr.trans k1⟩
        case measure => simp [intOf]; omega
      · have hb : (ce != 0) = true := by simpa using h0
        go_wp2_with (go_at_call 24; refine hCh.mono ?_; clear hCh; rintro e w1 ⟨rfl, k1⟩)
        go_ret2
        have hx := Hfa.out k p HZ.out Hp.out (by rw [Hce.out]; exact h0)
        rw [Hce.out] at hx
        exact ⟨_, _, rfl, .inl ⟨by rw [hx]; exact h0, hx.symm, rfl⟩, kr.trans k1⟩
    · have hltI : decide ((k : Int) < (N : Int)) = false := decide_eq_false (by omega)
      have hltn : decide (k < N) = false := decide_eq_false hlt
      have hfx : fcx ps = 0 := Hfl.out (fun j q hq => HZ.out j q (by have := (List.getElem?_eq_some_iff.1 hq).1; rw [HN.out] at this; omega) hq)
      have Hfx : Hid (fcx ps = 0) := hfx
      clear hfx
      have Hfz2 : Hid (∀ (j : Nat) (q : List Ins), ps[j]? = some q → (chk q).1 = 0) := Hfz.out Hfx.out
      clear Hfa Hfl Hfz HZ
      by_cases hx : xr = 0
      · subst hx
        obtain ⟨h16, _, hf0, hf1⟩ := Hrf.out rfl
        clear Hrf
        obtain rfl : fuel = (f : Int) := by have := Hf.out; omega
        clear Hf
        have HOb7 : Hid (∀ k, k ≤ N → ∀ i, In64 ((obA ps os f k).getD i 0)) := fun k hk => HOb6.out Hfx.out (by rw [Hn.out]; exact h16) f k (by rw [HN.out]; exact hk)
        clear HOb6
        obtain ⟨wo, hwo⟩ : ∃ wo, wo = wr := ⟨_, rfl⟩
        subst wr
        go_wp2_with (go_at_call 9; refine (HR0.out wo kr).mono ?_; clear HR0; rintro e w2 ⟨v2, x2, rfl, hP2, k2⟩; obtain ⟨hx2, oc0, rs0', a0, n0, c0, q0, rfl⟩ := drun_form hP2; rw [Hxr.out] at hx2; subst hx2; clear hP2; have KM := (kr.trans k2).alloc (.cells #[.int .i64 oc0, .int .i64 rs0', .slice a0 n0 c0, .int .i64 q0] 31))
        go_loopw [1, 13, 14] (fun ov rv kv Wr => ∃ (k : Nat) (A : Nat → Option Addr) (C : Nat → Nat) (ao' : Option Addr) (co' : Nat), kv = .int .i64 (k : Int) ∧ k ≤ N ∧ ov = .slice ao' n co' ∧ NUM Wr ao' (obA ps os f k) ∧ (∀ b off, ao' = some ⟨b, off, none⟩ → b < Wr.heap.size) ∧ DA w.heap.size Wr rv k n (grA ps os f) (obA ps os f) A C ∧ Keeps (fun _ => False) w Wr) (fun _ _ kv _ => N - (intOf kv).toNat)
        case atStart => exact ⟨0, fun _ => none, fun _ => 0, ao, co, rfl, Nat.zero_le _, rfl, hO.keep KM, fun b off e => Nat.lt_of_lt_of_le (hOB b off e) KM.size, DA.first _ _ _ _ _, KM⟩
        case round =>
          obtain ⟨k2, A, C, ao', co', rfl, hk2, rfl, hNU, hNB, hSA, kr2⟩ := hrel
          by_cases hlt2 : k2 < N
          · have hltI2 : decide ((k2 : Int) < (N : Int)) = true := decide_eq_true (by omega)
            have hltn2 : decide (k2 < N) = true := decide_eq_true hlt2
            have hltJ : (k2 : Int) < (N : Int) := by omega
            have hk0 : (0 : Int) ≤ (k2 : Int) := by omega
            have hw1 : IntKind.i64.wrap ((k2 : Int) + 1) = (k2 : Int) + 1 := by rw [IntKind.wrap_i64]; omega
            obtain ⟨p, hp⟩ : ∃ p, ps[k2]? = some p := ⟨_, List.getElem?_eq_getElem (by rw [HN.out]; exact hlt2)⟩
            obtain ⟨b, off, ai, ci, rfl, hc, hI⟩ := hP k2 p hp
            have c1 := kr2.cell hc (fun e => e)
            have hal := drun_any (cap := ci) (co := co') (cg := 0) (ag := none) (gs := []) (hI.keep kr2) (hlens p (List.mem_of_getElem? hp)) hNU (fun i x hx => by simp at hx) hNB (fun b off e => by cases e) (HOb7.out k2 hk2) (fun i => by simp [In64]) (hqs p (List.mem_of_getElem? hp)) (f : Int)
            have hgp : ps.getD k2 [] = p := by rw [List.getD_eq_getElem?_getD, hp]; rfl
            have hob1 : obA ps os f (k2 + 1) = lft (obA ps os f k2) (gor p (obA ps os f k2) [] f 0 rs0).1 n := by
              show lft (obA ps os f k2) (gor (ps.getD k2 []) (obA ps os f k2) [] f 0 rs0).1 (obA ps os f k2).length = _
              rw [hgp, HObn.out]
            have hgr1 : grA ps os f k2 = gor p (obA ps os f k2) [] f 0 rs0 := by unfold grA; rw [hgp]
            have hdf := fun w3 v3 x3 (h : DRunP wr w3 p (obA ps os f k2) [] (f : Int) v3 x3) => drun_fine h (Hfz2.out k2 p hp) (by rw [HObn.out, ← Hn.out]; exact Hxr.out)
            rw [HObn.out, List.length_nil] at hal
            have hnx := fun W1 a c (k1 : Keeps (fun _ => False) wr W1) (hb : ∀ b off, a = some ⟨b, off, none⟩ → wr.heap.size ≤ b ∧ b < W1.heap.size) (hC : NUM W1 a (obA ps os f (k2 + 1))) => hSA.next (c := c) kr2.size k1 hb hC (by omega)
            have hvb : ∀ {g}, Value.ownBlock _ = some g → g < wr.heap.size := fun {g} e => owns_lt' hSA.o g e
            simp only [HObn.out, Int.toNat_natCast] at hdf
            rw [hob1, hgr1] at hnx
            obtain ⟨⟨⟨rg, st, nm, rd, pl, oc, rs⟩, c⟩, hF⟩ : ∃ F, gor p (obA ps os f k2) [] f 0 rs0 = F := ⟨_, rfl⟩
            rw [hF] at hdf hnx
            have Hdf : Hid _ := hdf
            have Hnx : Hid _ := hnx
            have Hvb : Hid _ := @hvb
            have HSA : Hid _ := hSA
            have Hob1 : Hid (_ = _) := hob1
            have HF : Hid (_ = _) := hF
            clear hF hob1 hgr1 hgp hp hc hI hnx hvb hNU hSA hdf hNB
            generalize p.length = P at *
            go_wp2_with (first | (go_at_call 9; refine hal.mono ?_; clear hal; rintro e w3 ⟨v3, x3, rfl, hP3, k3⟩; obtain ⟨a3, c3, rfl, N3, B3⟩ := Hdf.out w3 v3 x3 hP3; clear hP3; obtain ⟨v4, w4, r4, S4, k4⟩ := Hnx.out (w3.alloc (.cells #[.int .i64 oc, .int .i64 rs, .slice a3 n c3, .int .i64 (c : Int)] 31)) a3 c3 (k3.alloc _) (fun b off e => ⟨(B3 b off e).1, by have := (B3 b off e).2; simp; omega⟩) (N3.keep ((Keeps.refl (fun _ => False) w3).alloc _)); have y2 := k4.cell ((CL.made w3 [.int .i64 oc, .int .i64 rs, .slice a3 n c3, .int .i64 (c : Int)] 31).c 2 _ rfl) (fun e => by have h1 : w3.heap.size < wr.heap.size := Hvb.out e; have := k3.size; omega); rw [show (w3.alloc (.cells #[.int .i64 oc, .int .i64 rs, .slice a3 n c3, .int .i64 (c : Int)] 31)).heap.size = w3.heap.size + 1 by simp] at r4) | (at_builtin; refine wpList_append_q rfl _ _ _ rfl _ _ _ w4 rfl rfl r4 ?_; clear r4))
            go_roundw
            case rel => exact ⟨k2 + 1, _, _, _, _, by go_num, by omega, rfl, by have := S4.c k2 (by omega); rw [if_pos rfl] at this; exact this, fun b off e => by have := (B3 b off e).2; have h5 := k4.size; simp at h5; omega, S4, (kr2.trans (k3.alloc _)).trans' k4 (fun _ _ e => e) (fun i hi e => by have := owns_baseD HSA.out.o i e; omega)⟩
            case measure => simp [intOf]; omega
          · have hltI2 : decide ((k2 : Int) < (N : Int)) = false := decide_eq_false (by omega)
            have hltn2 : decide (k2 < N) = false := decide_eq_false hlt2
            obtain rfl : k2 = N := by omega
            go_wp2
            go_ret2
            exact ⟨_, _, rfl, .inr (.inr ⟨Hfx.out, Hxr.out, rfl, A, C, by rw [HN.out, Hn.out]; exact hSA⟩), kr2⟩
      · have hb : (xr != 0) = true := by simpa using hx
        go_wp2_with (go_at_call 9; refine (HR0.out wr kr).mono ?_; clear HR0; rintro e w2 ⟨v2, x2, rfl, hP2, k2⟩; obtain ⟨hx2, oc0, rs0', a0, n0, c0, q0, rfl⟩ := drun_form hP2; rw [Hxr.out] at hx2; subst hx2; clear hP2)
        go_ret2
        exact ⟨_, _, rfl, .inr (.inl ⟨Hfx.out, by rw [Hxr.out]; exact hx, Hxr.out.symm, rfl⟩), (kr.trans k2).alloc _⟩
end Go.Proofs.YthchbcfecconbaaGreatDoor
