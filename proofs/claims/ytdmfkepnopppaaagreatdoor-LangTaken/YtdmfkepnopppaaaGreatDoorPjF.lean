import Derived.Test.YtdmfkepnopppaaaGreatDoorPjE
namespace Go.Proofs.YtdmfkepnopppaaaGreatDoor
open Go.RowKit Go.Deep Go.ChangeShapes Go.WideShapes Go.ChangeAt
attribute [local go_sem] Oper.semAt_some run_store_nf run_store_f
set_option maxHeartbeats 2000000 in
set_option maxRecDepth 1000000 in
theorem ins_mid {w0 w5 : World} {P : Ending → World → Prop} {R mb ib n b off cap c : Nat} {cv jv : Value} {qs : List Ins} {f : ByteArray → Option Nat} {js : List (Nat × Pc)} {q0 : Ins} {p0 : Pc} {r : List Pc} {RES : Except Flt (Ins × List Pc)} {x2 x3 x5 x6 x7 x8 x9 x10 x11 x12 x13 x14 x15 x16 x17 x18 x19 x20 x21 x22 x23 x24 x25 x26 x27 x28 x29 x30 x31 x32 x33 x34 x35 x36 x37 x38 x39 x40 x41 x42 x43 x44 x45 x46 x47 x48 x49 x50 x51 x52 x53 x54 x55 x56 x57 x58 x59 x60 x61 x62 x63 x64 x65 x66 x67 x68 x69 x70 x71 x72 x73 x74 x75 x76 x77 x78 : Value}
    (hT : PT w0) (k05 : Keeps (fun _ => False) w0 w5) (hI : RX w5 w0.heap.size R mb cv jv qs n f js) (hU : CL w5 ib q0.cells) (hcd : q0.code = (c : Int)) (hc1 : 1 ≤ c) (hc2 : c ≤ 10) (hw : PCL w5 (some ⟨b, off, none⟩) (p0 :: r)) (hsz : ∀ p ∈ (p0 :: r), p.t.size ≤ 4096 ∧ 0 ≤ p.col ∧ p.col ≤ 100000)
    (hF : fls q0 (slo c) p0 r [] = RES) (hibR : ib ≠ R) (hib0 : w0.heap.size ≤ ib) (hibl : ib < w5.heap.size) (hcI : cv.ownBlock ≠ some ib) (hjI : jv.ownBlock ≠ some ib) (hbR : b ≠ R) (hbj : jv.ownBlock ≠ some b) (hbi : b ≠ ib) (hq : qs.length < 64) (hjl : js.length ≤ 4000000)
    (hPe : ∀ fl w', RES = .error fl → Keeps (fun k => w0.heap.size ≤ k) w5 w' → P (pan fl) w')
    (hPo : ∀ q ps w' cv' jv', RES = .ok (q, ps) → RX w' w0.heap.size R mb cv' jv' (qs ++ [q]) n f (js ++ ps.map (fun p => (qs.length, p))) → Keeps (fun k => k = R ∨ cv.ownBlock = some k ∨ jv.ownBlock = some k ∨ k = ib) w5 w' → P (.returned (.tuple #[])) w') :
    (insT3 Tryz.f26).wp Tryz.prog (bodyPost Tryz.prog Tryz.f26 P) { tmps := #[.pointer (some ⟨R, 0, none⟩), .slice (some ⟨b, off, none⟩) (r.length + 1) cap, x2, x3, .pointer (some ⟨ib, 0, none⟩), x5, x6, x7, x8, x9, x10, x11, x12, x13, x14, x15, x16, x17, x18, x19, x20, x21, x22, x23, x24, x25, x26, x27, x28, x29, x30, x31, x32, x33, x34, x35, x36, x37, x38, x39, x40, x41, x42, x43, x44, x45, x46, x47, x48, x49, x50, x51, x52, x53, x54, x55, x56, x57, x58, x59, x60, x61, x62, x63, x64, x65, x66, x67, x68, x69, x70, x71, x72, x73, x74, x75, x76, x77, x78], defers := [] } w5 := by
  have HPE : Hid (∀ fl w', RES = .error fl → Keeps (fun k => w0.heap.size ≤ k) w5 w' → P (pan fl) w') := hPe
  have HPO : Hid (∀ q ps w' cv' jv', RES = .ok (q, ps) → RX w' w0.heap.size R mb cv' jv' (qs ++ [q]) n f (js ++ ps.map (fun p => (qs.length, p))) → Keeps (fun k => k = R ∨ cv.ownBlock = some k ∨ jv.ownBlock = some k ∨ k = ib) w5 w' → P (.returned (.tuple #[])) w') := hPo
  clear hPe hPo
  obtain ⟨sv, hsv, asl, capsl, rfl, hsl⟩ := hT.lt.sh c hc1 hc2
  obtain ⟨hs4, hs6⟩ := slo_le c
  have ic := hU.c 0 _ rfl
  rw [hcd] at ic
  have s5 := k05.cell hsv (fun e => e)
  have HF : Hid (fls q0 (slo c) p0 r [] = RES) := hF
  clear hF
  have hjb : ∀ g, jv.ownBlock = some g → w0.heap.size ≤ g := fun g hg => owns_base hI.j g hg
  dsimp only [insT3, Tryz.f26]
  refine wp_seq_k (fun KK hKK => ?_)
  have hKH : Hid _ := hKK
  clear hKK
  go_wp2_with fail
  clear s5 ic
  go_loopw [28] (fun iv Wr => ∃ (k : Nat) (u : Ins) (jv' : Value) (ps : List Pc), iv = .int .i64 (k : Int) ∧ k ≤ (slo c).length ∧ k ≤ r.length ∧ u.code = (c : Int) ∧ Hid (fls u ((slo c).drop k) ((p0 :: r).getD k p0) (r.drop k) ps = RES) ∧ RX Wr w0.heap.size R mb cv jv' qs n f (js ++ ps.map (fun p => (qs.length, p))) ∧ ps.length ≤ k ∧ CL Wr ib u.cells ∧ Keeps (fun k => k = R ∨ jv.ownBlock = some k ∨ k = ib) w5 Wr ∧ Hid (jv'.ownBlock = jv.ownBlock ∨ ∀ g, jv'.ownBlock = some g → w5.heap.size ≤ g)) (fun iv _ => (slo c).length - (intOf iv).toNat)
  case atStart => exact ⟨0, q0, jv, [], rfl, Nat.zero_le _, Nat.zero_le _, hcd, HF, by simpa using hI, Nat.le_refl _, hU, Keeps.refl _ _, Or.inl rfl⟩
  case round =>
    clear HF hcd
    obtain ⟨k, u, jv', ps, rfl, hk, hkr, hcd, HF, hI', hpl, hU', kr, HJ⟩ := hrel
    have Kr : Keeps (fun _ => False) w0 wr := k05.trans' kr (fun _ _ e => e) (fun i hi e => by
      have := hI.b.1
      rcases e with e | e | e
      · omega
      · have := hjb i e; omega
      · omega)
    have KB : Keeps (fun k => w0.heap.size ≤ k) w5 wr := kr.mono (fun i hi e => by
      have := hI.b.1
      rcases e with e | e | e
      · omega
      · exact hjb i e
      · omega)
    have hwr : PCL wr (some ⟨b, off, none⟩) (p0 :: r) := fun i p hi => by
      obtain ⟨b', off', e, hc⟩ := hw i p hi
      injection e with e; injection e with e1 e2 _; subst e1 e2
      exact ⟨_, _, rfl, fun j v hv => kr.cell (hc j v hv) (fun e => by rcases e with e | e | e; exact hbR e; exact hbj e; exact hbi e)⟩
    have hkn : k ≤ 10 := by omega
    by_cases hlt : k < (slo c).length
    · have hltI : decide ((k : Int) < ((slo c).length : Int)) = true := by simp; omega
      have hltJ : (k : Int) < ((slo c).length : Int) := by omega
      have hk0 : (0 : Int) ≤ (k : Int) := by omega
      have hk1 : (0 : Int) ≤ (k : Int) + 1 := by omega
      have hkw : (k : Int) < (r.length : Int) + 1 := by omega
      have hw1 : IntKind.i64.wrap ((k : Int) + 1) = (k : Int) + 1 := by rw [IntKind.wrap_i64]; omega
      obtain ⟨s, hs⟩ : ∃ s, (slo c)[k]? = some s := ⟨_, List.getElem?_eq_getElem hlt⟩
      have hs16 := hs6 s (List.mem_of_getElem? hs)
      obtain ⟨sb, so, ea, hsc⟩ := hsl k s hs
      cases ea
      have hsc' := Kr.cell hsc (fun e => e)
      have e1 : (slo c).drop k = s :: (slo c).drop (k + 1) := by
        obtain ⟨hk, e⟩ := List.getElem?_eq_some_iff.1 hs
        rw [List.drop_eq_getElem_cons hk, e]
      rw [e1] at HF
      obtain ⟨pv, hpv⟩ : ∃ p, (p0 :: r)[k]? = some p := ⟨_, List.getElem?_eq_getElem (by simp; omega)⟩
      have e2 : (p0 :: r).getD k p0 = pv := by rw [List.getD_eq_getElem?_getD, hpv]; rfl
      rw [e2] at HF
      have hpvm := hsz pv (List.mem_of_getElem? hpv)
      clear e1 e2 hsc hs
      by_cases hnw : k = r.length
      · have hne : (((k : Int) + 1) == ((r.length : Int) + 1)) = true := by simp; omega
        have e3 : r.drop k = [] := List.drop_eq_nil_of_le (by omega)
        rw [e3] at HF
        have hE : RES = .error (102, pv.ln, pv.col + (pv.t.size : Int)) := HF.out.symm
        obtain ⟨pt, pln, pcol⟩ := pv
        obtain ⟨b', off', e', hpc⟩ := hwr k _ hpv
        injection e' with e'
        injection e' with e1 e2 _
        subst e1 e2
        have hRk : (loadVar 76 ⟨b, off + k * 3, none⟩).run Tryz.prog wr = .ok (.agg #[.string pt, .int .i64 pln, .int .i64 pcol]) wr := run_pcAt (W := wr) (b := b) (o := off + k * 3) (p := ⟨pt, pln, pcol⟩) hpc
        have hBh := behind_any wr pt pln pcol (by rw [IntKind.wrap_i64]; simp only at hpvm; omega)
        have hLv := fun W => leave_any W ⟨#[]⟩ pln (pcol + (pt.size : Int)) 102
        clear hpc hwr hw hsl HF e3 hpv hI' hU' HJ
        have HE : Hid (RES = _) := hE
        clear hE hnw
        go_wp2_with (first | (refine wpList_load_run rfl 76 _ rfl ⟨b, off + k * 3, none⟩ rfl _ hRk ?_; clear hRk) | (go_at_call 42; refine hBh.mono ?_; clear hBh; rintro e w6 ⟨rfl, k6⟩) | (go_at_call 28; refine (hLv _).mono ?_; clear hLv; rintro e w7 ⟨rfl, k7⟩))
        exact ⟨rfl, HPE.out _ _ HE.out (KB.trans ((k6.trans k7).mono (fun _ _ e => e.elim)))⟩
      · have hne : (((k : Int) + 1) == ((r.length : Int) + 1)) = false := by simp; omega
        have hkr1 : (k : Int) + 1 < (r.length : Int) + 1 := by omega
        obtain ⟨p, hp⟩ : ∃ p, r[k]? = some p := ⟨_, List.getElem?_eq_getElem (by omega)⟩
        have e3 : r.drop k = p :: r.drop (k + 1) := by
          obtain ⟨hk, e⟩ := List.getElem?_eq_some_iff.1 hp
          rw [List.drop_eq_getElem_cons hk, e]
        rw [e3] at HF
        have e4 : (p0 :: r).getD (k + 1) p0 = p := by rw [List.getD_eq_getElem?_getD, List.getElem?_cons_succ, hp]; rfl
        have hpm := hsz p (List.mem_cons_of_mem _ (List.mem_of_getElem? hp))
        obtain ⟨b', off', e', hpc⟩ := hwr (k + 1) p (by rw [List.getElem?_cons_succ]; exact hp)
        injection e' with e'
        injection e' with e1 e2 _
        subst e1 e2
        obtain ⟨pt, pln, pcol⟩ := p
        have hRk : (loadVar 76 ⟨b, off + (k + 1) * 3, none⟩).run Tryz.prog wr = .ok (.agg #[.string pt, .int .i64 pln, .int .i64 pcol]) wr := run_pcAt (W := wr) (b := b) (o := off + (k + 1) * 3) (p := ⟨pt, pln, pcol⟩) hpc
        have hbw : w0.heap.size ≤ wr.heap.size := Kr.size
        have hls := kr.size
        clear hpc hwr hw hsl e3 hpv hpvm hp
        simp only at hpm
        by_cases h6 : s = 6
        · subst h6
          have HF2 : (if (6 : Int) = 6 then (if nmB pt = true then fls u ((slo c).drop (k + 1)) ⟨pt, pln, pcol⟩ (r.drop (k + 1)) (ps ++ [⟨pt, pln, pcol⟩]) else .error (103, pln, pcol)) else match fil u 6 pt with | none => .error (103, pln, pcol) | some u' => fls u' ((slo c).drop (k + 1)) ⟨pt, pln, pcol⟩ (r.drop (k + 1)) ps) = RES := HF.out
          rw [if_pos rfl] at HF2
          by_cases hnm : nmB pt = true
          · rw [if_pos hnm] at HF2
            have HF3 : Hid (fls u ((slo c).drop (k + 1)) ((p0 :: r).getD (k + 1) p0) (r.drop (k + 1)) (ps ++ [⟨pt, pln, pcol⟩]) = RES) := by rw [e4]; exact HF2
            have hfc := fill_6 (ib := ib) pt pln pcol hpm.1 hnm hI' hbw (by simp; omega)
            have hjI2 : jv'.ownBlock ≠ some ib := fun e => by
              rcases HJ.out with h | h
              · exact hjI (h.symm.trans e)
              · have := h ib e; omega
            clear HF HF2 hI' hnm e4
            go_wp2_with (refine wpList_load_run rfl 76 _ rfl ⟨b, off + (k + 1) * 3, none⟩ rfl _ hRk ?_; clear hRk)
            refine hfc.mono ?_
            clear hfc
            rintro e w6 ⟨rfl, jv6, hI6, hb6, k6⟩
            have hU6 := hU'.keep (by show 0 < 11; decide) k6 (fun e => e.elim hibR hjI2)
            have K6 : Keeps (fun k => k = R ∨ jv.ownBlock = some k ∨ k = ib) w5 w6 := kr.trans' k6 (fun _ _ e => e) (fun i hi e => by
              rcases e with e | e
              · exact .inl e
              · rcases HJ.out with h | h
                · exact .inr (.inl (h.symm.trans e))
                · have := h i e; omega)
            have HJ6 : Hid (jv6.ownBlock = jv.ownBlock ∨ ∀ g, jv6.ownBlock = some g → w5.heap.size ≤ g) := by
              rcases hb6 with h | h
              · rcases HJ.out with h2 | h2
                · exact .inl (h.trans h2)
                · exact .inr (fun g hg => h2 g (h.symm.trans hg))
              · exact .inr (fun g hg => by have := h g hg; omega)
            clear hb6 k6 hU' kr HJ
            go_wp2_with fail
            go_roundw
            case rel => exact ⟨k + 1, u, jv6, ps ++ [⟨pt, pln, pcol⟩], by go_num, by omega, by omega, hcd, HF3, by rw [List.map_append, ← List.append_assoc]; exact hI6, by simp; omega, hU6, K6, HJ6⟩
            case measure => simp [intOf]; omega
          · rw [if_neg hnm] at HF2
            have HE : Hid (RES = .error (103, pln, pcol)) := HF2.symm
            have hfc := filn_6 (w := wr) (r := .pointer (some ⟨R, 0, none⟩)) (ib := ib) pt pln pcol hpm.1 (by simpa using hnm)
            clear HF HF2 hI' hnm e4 hU' HJ
            go_wp2_with (refine wpList_load_run rfl 76 _ rfl ⟨b, off + (k + 1) * 3, none⟩ rfl _ hRk ?_; clear hRk)
            refine hfc.mono ?_
            rintro e w6 ⟨rfl, k6⟩
            exact ⟨rfl, HPE.out _ _ HE.out (KB.trans (k6.mono (fun _ _ e => e.elim)))⟩
        · have HF2 : (if s = 6 then (if nmB pt = true then fls u ((slo c).drop (k + 1)) ⟨pt, pln, pcol⟩ (r.drop (k + 1)) (ps ++ [⟨pt, pln, pcol⟩]) else .error (103, pln, pcol)) else match fil u s pt with | none => .error (103, pln, pcol) | some u' => fls u' ((slo c).drop (k + 1)) ⟨pt, pln, pcol⟩ (r.drop (k + 1)) ps) = RES := HF.out
          rw [if_neg h6] at HF2
          cases hfi : fil u s pt with
          | none =>
            rw [hfi] at HF2
            have HE : Hid (RES = .error (103, pln, pcol)) := HF2.symm
            have hfc := filn_any (w := wr) (r := .pointer (some ⟨R, 0, none⟩)) (ib := ib) (u := u) (s := s) (by omega) pt pln pcol hpm.1 (hT.keep Kr) hfi
            clear HF HF2 hI' hfi e4 hU' HJ
            go_wp2_with (refine wpList_load_run rfl 76 _ rfl ⟨b, off + (k + 1) * 3, none⟩ rfl _ hRk ?_; clear hRk)
            refine hfc.mono ?_
            rintro e w6 ⟨rfl, k6⟩
            exact ⟨rfl, HPE.out _ _ HE.out (KB.trans (k6.mono (fun _ _ e => e.elim)))⟩
          | some u' =>
            rw [hfi] at HF2
            have HF3 : Hid (fls u' ((slo c).drop (k + 1)) ((p0 :: r).getD (k + 1) p0) (r.drop (k + 1)) ps = RES) := by rw [e4]; exact HF2
            have hfc := fill_ok (w := wr) (r := .pointer (some ⟨R, 0, none⟩)) pt pln pcol hpm.1 (hT.keep Kr) hU' hfi
            have hcd' := (fil_code hfi).trans hcd
            have hjI2 : jv'.ownBlock ≠ some ib := fun e => by
              rcases HJ.out with h | h
              · exact hjI (h.symm.trans e)
              · have := h ib e; omega
            have hmI : mb ≠ ib := fun e => by
              obtain ⟨es, cc, hm⟩ := hI.m.isMap
              have hcI := hU.c 0 _ rfl
              rw [← e] at hcI
              unfold World.cell? at hcI
              rw [hm] at hcI
              cases hcI
            clear HF HF2 hfi e4
            go_wp2_with (refine wpList_load_run rfl 76 _ rfl ⟨b, off + (k + 1) * 3, none⟩ rfl _ hRk ?_; clear hRk)
            refine hfc.mono ?_
            clear hfc
            rintro e w6 ⟨rfl, hU6, k6⟩
            have hI6 : RX w6 w0.heap.size R mb cv jv' qs n f (js ++ ps.map (fun p => (qs.length, p))) := ⟨hI'.c.keep (by show 0 < 3; decide) k6 (fun e => hibR e.symm), k6.owns hI'.o (fun g hg e => hcI (e ▸ hg)), k6.owns hI'.j (fun g hg e => hjI2 (e ▸ hg)), hI'.m.keep k6 hmI, hI'.b, hI'.d1, hI'.d2, hI'.d3⟩
            have K6 : Keeps (fun k => k = R ∨ jv.ownBlock = some k ∨ k = ib) w5 w6 := kr.trans' k6 (fun _ _ e => e) (fun i hi e => .inr (.inr e))
            clear k6 hU' kr hI'
            go_wp2_with fail
            go_roundw
            case rel => exact ⟨k + 1, u', jv', ps, by go_num, by omega, by omega, hcd', HF3, hI6, by omega, hU6, K6, HJ⟩
            case measure => simp [intOf]; omega
    · obtain rfl : k = (slo c).length := by omega
      have hltI : decide (((slo c).length : Int) < ((slo c).length : Int)) = false := by simp
      rw [List.drop_eq_nil_of_le (Nat.le_refl _)] at HF
      have ic := hU'.c 0 _ rfl
      rw [hcd] at ic
      have s5 := Kr.cell hsv (fun e => e)
      have hw1 : IntKind.i64.wrap (1 + ((slo c).length : Int)) = 1 + ((slo c).length : Int) := by rw [IntKind.wrap_i64]; omega
      go_wp2_with fail
      refine hKH.out _ _ ?_
      refine wp_seq_k (fun K2 hK2 => ?_)
      have hKH2 : Hid _ := hK2
      clear hK2
      by_cases hex : (slo c).length < r.length
      · have hne : decide (1 + ((slo c).length : Int) < (r.length : Int) + 1) = true := by simp; omega
        have hk0 : (0 : Int) ≤ 1 + ((slo c).length : Int) := by omega
        have hk1 : 1 + ((slo c).length : Int) < (r.length : Int) + 1 := by omega
        obtain ⟨p, hp⟩ : ∃ p, r[(slo c).length]? = some p := ⟨_, List.getElem?_eq_getElem hex⟩
        have e3 : r.drop (slo c).length = p :: r.drop ((slo c).length + 1) := by
          obtain ⟨hk, e⟩ := List.getElem?_eq_some_iff.1 hp
          rw [List.drop_eq_getElem_cons hk, e]
        rw [e3] at HF
        obtain ⟨pt, pln, pcol⟩ := p
        have HE : Hid (RES = .error (104, pln, pcol)) := HF.out.symm
        obtain ⟨b', off', e', hpc⟩ := hwr ((slo c).length + 1) _ (by rw [List.getElem?_cons_succ]; exact hp)
        injection e' with e'
        injection e' with e1 e2 _
        subst e1 e2
        have hRk : (loadVar 76 ⟨b, off + ((slo c).length + 1) * 3, none⟩).run Tryz.prog wr = .ok (.agg #[.string pt, .int .i64 pln, .int .i64 pcol]) wr := run_pcAt (W := wr) (b := b) (o := off + ((slo c).length + 1) * 3) (p := ⟨pt, pln, pcol⟩) hpc
        have hLv := fun W => leave_any W pt pln pcol 104
        have ew : 1 + ((slo c).length : Int) = (((slo c).length + 1 : Nat) : Int) := by omega
        rw [ew] at hw1 hne hk0 hk1
        clear HF e3 hpc hp hwr hw hsl hI' hU' HJ
        go_wp2_with (first | (refine wpList_load_run rfl 76 _ rfl ⟨b, off + ((slo c).length + 1) * 3, none⟩ rfl _ hRk ?_; clear hRk) | (go_at_call 28; refine (hLv _).mono ?_; clear hLv; rintro e w7 ⟨rfl, k7⟩))
        exact ⟨rfl, HPE.out _ _ HE.out (KB.trans (k7.mono (fun _ _ e => e.elim)))⟩
      · have hne : decide (1 + ((slo c).length : Int) < (r.length : Int) + 1) = false := by simp; omega
        have e3 : r.drop (slo c).length = [] := List.drop_eq_nil_of_le (by omega)
        rw [e3] at HF
        have HE : Hid (RES = .ok (u, ps)) := HF.out.symm
        go_wp2_with fail
        refine hKH2.out _ _ ?_
        refine ins_end hI' hU' hcI hibR Kr.size hq (fun w' cv' hX kx => HPO.out u ps w' cv' jv' HE.out hX (kr.trans' kx (fun i _ e => ?_) (fun i hi e => ?_)))
        · rcases e with e | e | e
          · exact .inl e
          · exact .inr (.inr (.inl e))
          · exact .inr (.inr (.inr e))
        · rcases e with e | e
          · exact .inl e
          · exact .inr (.inl e)
end Go.Proofs.YtdmfkepnopppaaaGreatDoor
