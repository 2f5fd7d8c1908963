import Derived.Test.YtniogbghldkmjaaGreatDoorJJ
namespace Go.Proofs.YtniogbghldkmjaaGreatDoor
open Go.RowKit Go.Deep Go.ChangeShapes Go.WideShapes Go.ChangeAt
attribute [local go_sem] Oper.semAt_some run_store_nf run_store_f
theorem CL.keep0 {w w' : World} {b : Nat} {l : List Value} {S : Nat → Prop} (h : CL w b l) (k : Keeps S w w') (hS : 0 < l.length → ¬ S b) : CL w' b l := by
  by_cases hl : 0 < l.length
  · exact h.keep hl k (hS hl)
  · exact ⟨fun o v e => by have := (List.getElem?_eq_some_iff.1 e).1; omega, fun o ho => by omega⟩
theorem nvs_len (l : List Int) : (nvs l).length = l.length := by unfold nvs; simp
def putsTail (f : Func) : Code := match f.body with | some (.seq _ (.seq _ (.seq _ (.seq _ t)))) => t | _ => .skip
set_option maxHeartbeats 3200000 in
set_option maxRecDepth 1000000 in
theorem puts_tail {w1 : World} {R : Ending → World → Prop} {a ao : Option Addr} {cap co K N : Nat} {L : List (Int × Int)} {os : List Int} {x2 x3 x4 x5 x6 x7 x8 x9 x10 x11 x12 x13 x14 x15 x16 x17 x18 x19 x20 x21 x22 x23 x24 x25 x26 x27 x28 x29 x30 x31 x32 x33 x34 x35 x36 x37 x38 x39 x40 x41 x42 x43 x44 x45 x46 x47 x48 x49 x50 x51 x52 x53 x54 x55 x56 x57 x58 x59 x60 x61 x62 x63 x64 x65 x66 x67 x68 x69 x70 x71 x72 x73 x74 x75 x76 x77 x78 x79 x80 x81 x82 x83 x84 x85 x86 x87 x88 x89 x90 x91 x92 x93 x94 x95 x96 x97 x98 x99 x100 x101 x102 x103 x104 x105 x106 x107 x108 x109 x110 x111 x112 x113 x114 x115 x116 x117 x118 : Value} (hLT : LT w1) (hS1 : SETS w1 a L) (hLl : L.length = K) (hK : K ≤ 64) (hO1 : NUM w1 ao os) (hol : os.length = N) (hN : N ≤ 16) (hz : ao = none → co = 0)
    (hR : ∀ w', Keeps (fun _ => False) w1 w' → R (.returned (.bool true)) w') :
    (putsTail Tryz.f3).wp Tryz.prog (bodyPost Tryz.prog Tryz.f3 R) { tmps := #[.slice a K cap, .slice ao N co, x2, x3, x4, x5, x6, x7, x8, x9, x10, x11, x12, x13, x14, x15, x16, x17, x18, x19, x20, x21, x22, x23, x24, x25, x26, x27, x28, x29, x30, x31, x32, x33, x34, x35, x36, x37, x38, x39, x40, x41, x42, x43, x44, x45, x46, x47, x48, x49, x50, x51, x52, x53, x54, x55, x56, x57, x58, x59, x60, x61, x62, x63, x64, x65, x66, x67, x68, x69, x70, x71, x72, x73, x74, x75, x76, x77, x78, x79, x80, x81, x82, x83, x84, x85, x86, x87, x88, x89, x90, x91, x92, x93, x94, x95, x96, x97, x98, x99, x100, x101, x102, x103, x104, x105, x106, x107, x108, x109, x110, x111, x112, x113, x114, x115, x116, x117, x118], defers := [] } w1 := by
  have HR : Hid (∀ w', Keeps (fun _ => False) w1 w' → R (.returned (.bool true)) w') := hR
  clear hR
  obtain ⟨wv, w2, hcp, ho2, k2⟩ := copy_n co hO1 hz (by omega)
  rw [hol] at hcp ho2
  obtain ⟨aw, cw, g, rfl, hg, CW0, hgs⟩ := cl_of_owns ho2 hol
  clear ho2
  have k2s := k2.size
  dsimp only [putsTail, Tryz.f3]
  go_wp2_with (at_builtin; refine wpList_append_run rfl _ _ _ rfl _ _ _ w2 rfl rfl hcp ?_; clear hcp)
  go_loopw [6, 7, 8, 9] (fun pv cv bv iv Wr => ∃ k : Nat, k ≤ K ∧ iv = .int .i64 (k : Int) ∧ cv = .int .i64 ((ptk N L os k).2.1 : Int) ∧ bv = .bool (ptk N L os k).2.2 ∧ Wr.ownsRow w2.heap.size 34 11 pv k (icl ((L.take k).map putI)) ∧ CL Wr g (nvs (ptk N L os k).1) ∧ Keeps (fun _ => False) w1 Wr ∧ w2.heap.size ≤ Wr.heap.size) (fun _ _ _ iv _ => K - (intOf iv).toNat)
  case atStart => exact ⟨0, Nat.zero_le _, rfl, rfl, rfl, World.ownsRow_nil _ _ _ _, CW0, k2, Nat.le_refl _⟩
  case round =>
    obtain ⟨k, hk, rfl, rfl, rfl, hown, CW, kr, krs⟩ := hrel
    by_cases hlt : k < K
    · have hltI : decide ((k : Int) < (K : Int)) = true := decide_eq_true (by omega)
      have hltJ : (k : Int) < (K : Int) := by omega
      have hk0 : (0 : Int) ≤ (k : Int) := by omega
      obtain ⟨⟨x, v⟩, hqe⟩ : ∃ q, L.getD k (0, 0) = q := ⟨_, rfl⟩
      obtain ⟨b, off, ea, c1, c2⟩ := hS1 k (x, v) (by rw [← hqe, List.getD_eq_getElem?_getD, List.getElem?_eq_getElem (by omega)]; rfl)
      cases ea
      simp only at c1 c2
      have d1 := kr.cell c1 (fun e => e)
      have d2 := kr.cell c2 (fun e => e)
      have HTk : Hid ((L.take (k + 1)).map putI = (L.take k).map putI ++ [putI (x, v)]) := by
        show _ = _
        rw [List.take_add_one, List.map_append, ← hqe, List.getD_eq_getElem?_getD, List.getElem?_eq_getElem (by omega)]; rfl
      have e0 : ptk N L os (k + 1) = if (ptk N L os k).2.2 = true then ptk N L os k else if 0 ≤ (L.getD k (0, 0)).1 ∧ (L.getD k (0, 0)).1 < N then ((ptk N L os k).1.set (L.getD k (0, 0)).1.toNat (L.getD k (0, 0)).2, (ptk N L os k).2.1 + 1, false) else ((ptk N L os k).1, (ptk N L os k).2.1 + 1, true) := rfl
      rw [hqe] at e0
      have hpl := ptk_len (n := N) (L := L) (os := os) k
      obtain ⟨v', w', hr, ho, kk⟩ := append_i hown (by have := kr.size; have := k2s; have := krs; omega) (by omega) (putI (x, v))
      dsimp only [putI] at hr
      have K' : Keeps (fun _ => False) w1 w' := kr.trans' kk (fun _ _ e => e) (fun i hi e => by have := owns_base hown i e; have := k2s; omega)
      obtain ⟨⟨wt, c, bd⟩, hpt⟩ : ∃ t, ptk N L os k = t := ⟨_, rfl⟩
      rw [hpt] at e0 hpl CW ⊢
      simp only at e0 hpl CW ⊢
      have krs' : w2.heap.size ≤ w'.heap.size := Nat.le_trans krs kk.size
      have CW' : CL w' g (nvs wt) := CW.keep0 kk (fun hl e => by have := owns_base hown g e; have := hgs (by rw [nvs_len] at hl; omega); omega)
      have hcw : IntKind.i64.wrap ((c : Int) + 1) = (c : Int) + 1 := by rw [IntKind.wrap_i64]; omega
      have hwk : IntKind.i64.wrap ((k : Int) + 1) = (k : Int) + 1 := by rw [IntKind.wrap_i64]; omega
      clear hS1 hqe hown CW kk hO1 hLT hpt
      by_cases hx : x < 0
      · cases bd
        · have x1 : decide (x < 0) = true := decide_eq_true hx
          have e1 : ptk N L os (k + 1) = (wt, c + 1, true) := by rw [e0, if_neg (by decide), if_neg (by omega)]
          clear e0
          go_wp2_with (at_builtin; refine wpList_append_run rfl _ _ _ rfl _ _ _ w' rfl rfl hr ?_; clear hr)
          go_roundw
          case rel => exact ⟨k + 1, by omega, by go_num, by rw [e1]; go_num, by rw [e1], by rw [HTk.out]; exact ho, by rw [e1]; exact CW', K', krs'⟩
          case measure => simp [intOf]; omega
        · have x1 : decide (x < 0) = true := decide_eq_true hx
          have e1 : ptk N L os (k + 1) = (wt, c, true) := by rw [e0, if_pos rfl]
          clear e0
          go_wp2_with (at_builtin; refine wpList_append_run rfl _ _ _ rfl _ _ _ w' rfl rfl hr ?_; clear hr)
          go_roundw
          case rel => exact ⟨k + 1, by omega, by go_num, by rw [e1], by rw [e1], by rw [HTk.out]; exact ho, by rw [e1]; exact CW', K', krs'⟩
          case measure => simp [intOf]; omega
      · by_cases hx2 : (N : Int) ≤ x
        · cases bd
          · have x1 : decide (x < 0) = false := decide_eq_false (by omega)
            have x2 : decide ((N : Int) ≤ x) = true := decide_eq_true (by omega)
            have x3 : (N : Int) ≤ x := by omega
            have e1 : ptk N L os (k + 1) = (wt, c + 1, true) := by rw [e0, if_neg (by decide), if_neg (by omega)]
            clear e0
            go_wp2_with (at_builtin; refine wpList_append_run rfl _ _ _ rfl _ _ _ w' rfl rfl hr ?_; clear hr)
            go_roundw
            case rel => exact ⟨k + 1, by omega, by go_num, by rw [e1]; go_num, by rw [e1], by rw [HTk.out]; exact ho, by rw [e1]; exact CW', K', krs'⟩
            case measure => simp [intOf]; omega
          · have x1 : decide (x < 0) = false := decide_eq_false (by omega)
            have x2 : decide ((N : Int) ≤ x) = true := decide_eq_true (by omega)
            have x3 : (N : Int) ≤ x := by omega
            have e1 : ptk N L os (k + 1) = (wt, c, true) := by rw [e0, if_pos rfl]
            clear e0
            go_wp2_with (at_builtin; refine wpList_append_run rfl _ _ _ rfl _ _ _ w' rfl rfl hr ?_; clear hr)
            go_roundw
            case rel => exact ⟨k + 1, by omega, by go_num, by rw [e1], by rw [e1], by rw [HTk.out]; exact ho, by rw [e1]; exact CW', K', krs'⟩
            case measure => simp [intOf]; omega
        · cases bd
          · obtain ⟨xn, rfl⟩ : ∃ xn : Nat, x = (xn : Int) := ⟨x.toNat, by omega⟩
            have x1 : decide ((xn : Int) < 0) = false := decide_eq_false (by omega)
            have x2 : decide ((N : Int) ≤ (xn : Int)) = false := decide_eq_false (by omega)
            have x3 : ¬ (N : Int) ≤ (xn : Int) := by omega
            have x4 : (0 : Int) ≤ (xn : Int) := by omega
            have x5 : (xn : Int) < (N : Int) := by omega
            have x6 : decide (N ≤ xn) = false := decide_eq_false (by omega)
            have x7 : ¬ N ≤ xn := by omega
            have e1 : ptk N L os (k + 1) = (wt.set xn v, c + 1, false) := by rw [e0, if_neg (by decide), if_pos (by omega), Int.toNat_natCast]
            clear e0
            obtain ⟨rfl, hgl⟩ := hgs (by omega)
            have lw : xn < (nvs wt).length := by unfold nvs; rw [List.length_map]; omega
            have yz := CW'.z xn lw
            have yc := CW'.c xn _ (List.getElem?_eq_getElem lw)
            generalize (nvs wt)[xn] = old at *
            have CS := CW'.set lw (.int .i64 v)
            have es : (nvs wt).set xn (.int .i64 v) = nvs (wt.set xn v) := by unfold nvs; rw [List.map_set]
            rw [es] at CS
            have kS : Keeps (fun i => i = g) w' (w'.setCell ⟨g, xn, none⟩ (.int .i64 v)) := (Keeps.refl _ w').setA xn _
            have KS := K'.trans' kS (fun _ _ e => e) (fun i hi e => by have e : i = g := e; omega)
            have hoS := kS.owns ho (fun j hj e => by have e : j = g := e; have := owns_base ho j hj; omega)
            have f2 := K'.cell c2 (fun e => e)
            go_wp2_with (at_builtin; refine wpList_append_run rfl _ _ _ rfl _ _ _ w' rfl rfl hr ?_; clear hr)
            go_roundw
            case rel => exact ⟨k + 1, by omega, by go_num, by rw [e1]; go_num, by rw [e1], by rw [HTk.out]; exact hoS, by rw [e1]; exact CS, KS, by simpa using krs'⟩
            case measure => simp [intOf]; omega
          · obtain ⟨xn, rfl⟩ : ∃ xn : Nat, x = (xn : Int) := ⟨x.toNat, by omega⟩
            have x1 : decide ((xn : Int) < 0) = false := decide_eq_false (by omega)
            have x2 : decide ((N : Int) ≤ (xn : Int)) = false := decide_eq_false (by omega)
            have x3 : ¬ (N : Int) ≤ (xn : Int) := by omega
            have x4 : (0 : Int) ≤ (xn : Int) := by omega
            have x5 : (xn : Int) < (N : Int) := by omega
            have x6 : decide (N ≤ xn) = false := decide_eq_false (by omega)
            have x7 : ¬ N ≤ xn := by omega
            have e1 : ptk N L os (k + 1) = (wt, c, true) := by rw [e0, if_pos rfl]
            clear e0
            go_wp2_with (at_builtin; refine wpList_append_run rfl _ _ _ rfl _ _ _ w' rfl rfl hr ?_; clear hr)
            go_roundw
            case rel => exact ⟨k + 1, by omega, by go_num, by rw [e1], by rw [e1], by rw [HTk.out]; exact ho, by rw [e1]; exact CW', K', krs'⟩
            case measure => simp [intOf]; omega
    · obtain rfl : k = K := by omega
      have hltI : decide ((k : Int) < (k : Int)) = false := by simp
      have eT : L.take k = L := by rw [← hLl]; exact List.take_length
      rw [eT] at hown
      have gp := gor_puts (os := os) (L := L) L [] rfl os 0 1000 rs0 rfl rfl rfl (by omega) ⟨rfl, fun i hi => (if_neg (show ¬ (0 : Int) = 2 by decide)).symm⟩
      have lno := fun s => lft_no os s os.length
      rw [hol, ptk_end, hLl] at gp
      have hc := puts_chk (L := L) (by omega)
      obtain ⟨a', cap', rfl, hI⟩ := isl_of_owns hown (by rw [List.length_map]; exact hLl)
      obtain ⟨F, hF⟩ : ∃ F, gor (L.map putI) os [] 1000 0 rs0 = F := ⟨_, rfl⟩
      rw [hF] at gp
      obtain ⟨Lf, hLf⟩ : ∃ Lf, lft os F.1 os.length = Lf := ⟨_, rfl⟩
      have hpl := ptk_len (n := N) (L := L) (os := os) k
      have hRF := run_fine (cap := cap') (co := co) (cg := 0) (ag := none) (gs := []) (hLT.keep kr) hI (hO1.keep kr) (fun i x hx => by simp at hx) hc (by omega) (by simp) 1000 (by omega) hF hLf
      rw [show ((1000 : Nat) : Int) = 1000 from rfl, List.length_map, hLl, hol] at hRF
      have hRF : Calls Tryz.prog 6 #[.slice a' k cap', .slice ao N co, .slice none 0 0, .int .i64 1000] wr _ := hRF
      obtain ⟨⟨wt, c, bd⟩, hpt⟩ : ∃ t, ptk N L os k = t := ⟨_, rfl⟩
      rw [hpt] at gp hpl CW ⊢
      simp only at gp hpl CW ⊢
      obtain ⟨⟨rg, st, nm, rd, pl, oc, rs⟩, d⟩ := F
      simp only at gp hRF hLf
      rw [hol] at hLf lno
      obtain ⟨rfl, gt, gf⟩ := gp
      have hcw : IntKind.i64.wrap ((c : Int) + 1) = (c : Int) + 1 := by rw [IntKind.wrap_i64]; omega
      cases bd with
      | true =>
        obtain ⟨rfl, hdc⟩ := gt rfl
        rw [hdc] at hRF
        have hLf2 : os = Lf := (lno _ (show ¬ (3 : Int) = 1 by decide)).symm.trans hLf
        subst hLf2
        have hNO := hO1.keep kr
        clear gf hLT hO1 hS1 hown hpt hLf lno hF hdc gt
        go_wp2_with (first | (go_at_call 6; refine hRF.mono ?_; clear hRF; rintro e w3 ⟨b3, rfl, C3, k3⟩; obtain ⟨W3, hW3⟩ : ∃ W3, W3 = w3.alloc (.cells #[.int .i64 3, .int .i64 0, .slice (some ⟨b3, 0, none⟩) N N, .int .i64 (c : Int)] 36) := ⟨_, rfl⟩; have HW3 : Hid (_ = _) := hW3; clear hW3; have KA : Keeps (fun _ => False) w3 W3 := (by rw [HW3.out]; exact (Keeps.refl _ w3).alloc _); have CA : CL W3 w3.heap.size [.int .i64 3, .int .i64 0, .slice (some ⟨b3, 0, none⟩) N N, .int .i64 (c : Int)] := (by rw [HW3.out]; exact CL.made w3 _ _); have x0 := CA.c 0 _ rfl; have x1 := CA.c 1 _ rfl; have x2 := CA.c 2 _ rfl; have x3 := CA.c 3 _ rfl; have KF := (kr.trans k3).trans KA; have hsm := sameNums_ok (xs := os) N co ((NUM.ofCL C3).keep KA) (hNO.keep (k3.trans KA)) (by omega); rw [hol] at hsm) | (go_at_call 7; rw [← HW3.out]; refine (num11 _ _).mono ?_; rintro e wn ⟨rfl, en⟩; subst wn) | (go_at_call 8; refine hsm.mono ?_; clear hsm; rintro e w4 ⟨rfl, k4⟩))
        exact HR.out _ (KF.trans k4)
      | false =>
        obtain ⟨rfl, hd, hw⟩ := gf rfl
        have hLf2 : wt = Lf := hw.symm.trans hLf
        subst hLf2
        have hdI : (d : Int) = (c : Int) + 1 := by omega
        rw [hdI] at hRF
        have hNW : NUM wr aw wt := by
          by_cases hN0 : 0 < N
          · rw [(hgs hN0).1]; exact NUM.ofCL CW
          · intro i x hx; have := (List.getElem?_eq_some_iff.1 hx).1; omega
        have lwt : wt.length = N := by omega
        clear gt hLT hO1 hS1 hown hpt hLf lno hF hd hw hdI
        go_wp2_with (first | (go_at_call 6; refine hRF.mono ?_; clear hRF; rintro e w3 ⟨b3, rfl, C3, k3⟩; obtain ⟨W3, hW3⟩ : ∃ W3, W3 = w3.alloc (.cells #[.int .i64 1, .int .i64 0, .slice (some ⟨b3, 0, none⟩) N N, .int .i64 ((c : Int) + 1)] 36) := ⟨_, rfl⟩; have HW3 : Hid (_ = _) := hW3; clear hW3; have KA : Keeps (fun _ => False) w3 W3 := (by rw [HW3.out]; exact (Keeps.refl _ w3).alloc _); have CA : CL W3 w3.heap.size [.int .i64 1, .int .i64 0, .slice (some ⟨b3, 0, none⟩) N N, .int .i64 ((c : Int) + 1)] := (by rw [HW3.out]; exact CL.made w3 _ _); have x0 := CA.c 0 _ rfl; have x1 := CA.c 1 _ rfl; have x2 := CA.c 2 _ rfl; have x3 := CA.c 3 _ rfl; have KF := (kr.trans k3).trans KA; have hsm := sameNums_ok (xs := wt) N cw ((NUM.ofCL C3).keep KA) (hNW.keep (k3.trans KA)) (by omega); rw [lwt] at hsm) | (go_at_call 7; rw [← HW3.out]; refine (num11 _ _).mono ?_; rintro e wn ⟨rfl, en⟩; subst wn) | (go_at_call 8; refine hsm.mono ?_; clear hsm; rintro e w4 ⟨rfl, k4⟩))
        exact HR.out _ (KF.trans k4)
end Go.Proofs.YtniogbghldkmjaaGreatDoor
