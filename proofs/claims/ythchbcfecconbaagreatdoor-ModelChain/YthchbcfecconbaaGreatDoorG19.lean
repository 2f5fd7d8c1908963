import Derived.Test.YthchbcfecconbaaGreatDoorG18
import Derived.Test.YthchbcfecconbaaGreatDoorG04
import Derived.Test.YthchbcfecconbaaGreatDoorTie
import Derived.Test.YthchbcfecconbaaGreatDoorCards
import Derived.ProofKit
import Derived.LaidMore
import Derived.OpenShut
import Derived.ChangeArms
import Derived.ChangeSlices
import Derived.DataReads
import Derived.SizedLaws
import Derived.Deep.Slices
import Derived.Stop.Joined
import Derived.SevenTiedAt
import Derived.FnData
import Derived.ShutString
namespace Go.Proofs.YthchbcfecconbaaGreatDoor
open Go.RowKit Go.Deep Go.ChangeShapes Go.WideShapes Go.ChangeAt
attribute [local go_sem] Oper.semAt_some run_store_nf run_store_f
theorem cl_nil (w : World) (g : Nat) : CL w g (nvs []) := ⟨fun o v e => by simp [nvs] at e, fun o ho => absurd ho (Nat.not_lt_zero _)⟩
theorem runp_form {w w' : World} {l : List Ins} {os : List Int} {gs : List (Bool × Int)} {fuel : Int} {v : Value} {x : Int} (h : RunP w w' l os gs fuel v x) :
    ∃ oc rs c n, ∃ L : List Int, ∃ aa ca g, v = .agg #[.int .i64 oc, .int .i64 rs, .slice aa n ca, .int .i64 c] ∧ L.length = n ∧ n ≤ 16 ∧ CL w' g (nvs L) ∧ (0 < n → aa = some ⟨g, 0, none⟩ ∧ w.heap.size ≤ g ∧ g < w'.heap.size) ∧
      ∀ w3 w4 v' x', DRunP w3 w4 l os gs fuel v' x' → x' = x ∧ ∃ ab cb, v' = .agg #[.int .i64 oc, .int .i64 rs, .slice ab n cb, .int .i64 c] ∧ NUM w4 ab L := by
  rcases h with ⟨h0, rfl, rfl⟩ | ⟨h0, h1, rfl, rfl⟩ | ⟨h0, h1, rfl, b, hb, rfl, hC, hbl⟩
  · refine ⟨0, 0, 0, 0, [], none, 0, 0, rfl, rfl, by decide, cl_nil _ _, fun h => absurd h (Nat.lt_irrefl _), fun w3 w4 v' x' hd => ?_⟩
    rcases hd with ⟨_, rfl, rfl⟩ | ⟨h, _⟩ | ⟨h, _⟩
    · exact ⟨rfl, none, 0, rfl, fun i x hi => by simp at hi⟩
    · exact absurd h h0
    · exact absurd h h0
  · refine ⟨0, 0, 0, 0, [], none, 0, 0, rfl, rfl, by decide, cl_nil _ _, fun h => absurd h (Nat.lt_irrefl _), fun w3 w4 v' x' hd => ?_⟩
    rcases hd with ⟨h, _⟩ | ⟨_, _, rfl, rfl⟩ | ⟨_, h, _⟩
    · exact absurd h0 h
    · exact ⟨rfl, none, 0, rfl, fun i x hi => by simp at hi⟩
    · exact absurd h h1
  · refine ⟨_, _, _, os.length, _, _, _, b, rfl, lft_len _ _ _, (rfs_ok h1).1, hC, fun _ => ⟨rfl, hb, hbl⟩, fun w3 w4 v' x' hd => ?_⟩
    rcases hd with ⟨h, _⟩ | ⟨_, h, _⟩ | ⟨_, _, rfl, a', c', rfl, hN', _⟩
    · exact absurd h0 h
    · exact absurd h1 h
    · exact ⟨rfl, a', c', rfl, hN'⟩
theorem NUM11 {w w8 w9 : World} {n g : Nat} {aa : Option Addr} {L : List Int} (hL : L.length = n) (hg : 0 < n → aa = some ⟨g, 0, none⟩ ∧ w8.heap.size ≤ g ∧ g < w9.heap.size) (h : CL w g (nvs L)) : NUM w aa L := fun i x hx => by
  have hi := (List.getElem?_eq_some_iff.1 hx).1
  obtain ⟨rfl, _⟩ := hg (by omega)
  exact NUM.ofCL h i x hx
theorem CL.keep0 {w w' : World} {b : Nat} {l : List Value} {S : Nat → Prop} (h : CL w b l) (k : Keeps S w w') (hS : 0 < l.length → ¬ S b) : CL w' b l := by
  by_cases hl : 0 < l.length
  · exact h.keep hl k (hS hl)
  · exact ⟨fun o v e => by have := (List.getElem?_eq_some_iff.1 e).1; omega, fun o ho => by omega⟩
set_option maxHeartbeats 1000000 in
set_option maxRecDepth 1000000 in
theorem runs_any {w : World} {a ao ag : Option Addr} {cap co cg : Nat} {l : List Ins} {os : List Int} {gs : List (Bool × Int)} (hT : PT w) (hNT : NT w)
    (hl : ISL w a l) (hln : ∀ p, p < l.length → In64 (l.getD p ins0).xN ∧ In64 (l.getD p ins0).yN) (hlen : l.length * 88 ≤ 140737488355328)
    (hO : NUM w ao os) (hos : ∀ i, In64 (os.getD i 0)) (hob : (os.length + 2) * 8 ≤ 140737488355328) (hoz : ao = none → co = 0)
    (hG : GVN w ag gs) (hgs : ∀ i, In64 (gs.getD i (false, 0)).2) (hgb : (gs.length + 1) * 16 ≤ 140737488355328) (hgz : ag = none → cg = 0) (fuel : Int) :
    Calls Tryz.prog 3 #[.slice a l.length cap, .slice ao os.length co, .slice ag gs.length cg, .int .i64 fuel] w fun e w' => e = .returned (.bool true) ∧ Below w.heap.size w w' := by
  have hH := head11 hT hNT
  have hLT := hT.lt
  clear hT hNT
  have hPr := fun W (k : Keeps (fun _ => False) w W) => prog_any (cap := cap) (hl.keep k) hlen
  have hDrA := fun W (k : Keeps (fun _ => False) w W) ak ck aj cj (h1 : NUM W ak os) (h2 : GVN W aj gs) (b1 : ∀ b off, ak = some ⟨b, off, none⟩ → b < W.heap.size) (b2 : ∀ b off, aj = some ⟨b, off, none⟩ → b < W.heap.size) => drun_any (w := W) (cap := cap) (co := ck) (cg := cj) (hl.keep k) (by omega) h1 h2 b1 b2 hos hgs hln fuel
  have hRA := fun W (k : Keeps (fun _ => False) w W) ap cp a6 c6 a8 c8 (hI : ISL W ap l) (h1 : NUM W a6 os) (h2 : GVN W a8 gs) => run_any (w := W) (cap := cp) (co := c6) (cg := c8) (hLT.keep k) hI (by omega) h1 h2 fuel
  have hBA := fun W ap cp (hI : ISL W ap l) => backs_any (w := W) (cap := cp) hI hlen
  have hNA := fun W a1 c1 a2 c2 (h1 : NUM W a1 os) (h2 : NUM W a2 os) => sameNums_ok c1 c2 h1 h2 (by omega)
  have hGA := fun W a1 c1 a2 c2 (h1 : GVN W a1 gs) (h2 : GVN W a2 gs) => sameGiven_ok c1 c2 h1 h2 (by omega)
  have hSA := fun W a1 c1 a2 c2 (h1 : ISL W a1 l) (h2 : ISL W a2 l) => same_any (c1 := c1) (c2 := c2) h1 h2 (by omega)
  have hpre := fun W (k : Keeps (fun _ => False) w W) => preps (co := co) (cg := cg) rfl rfl (hO.keep k) (hG.keep k) hob hoz hgb hgz
  have hlk := fun W (k : Keeps (fun _ => False) w W) => hl.keep k
  obtain ⟨K, hK⟩ : ∃ K, l.length = K := ⟨_, rfl⟩
  obtain ⟨N, hN⟩ : ∃ N, os.length = N := ⟨_, rfl⟩
  obtain ⟨M, hM⟩ : ∃ M, gs.length = M := ⟨_, rfl⟩
  rw [hN] at hob
  rw [hM] at hgb
  simp only [hK] at hPr hDrA hRA hBA hSA
  simp only [hN] at hDrA hRA hNA hpre
  simp only [hM] at hDrA hRA hGA hpre
  rw [hK, hN, hM]
  have HpreA : Hid _ := hpre
  have HDrA : Hid _ := hDrA
  have HRA : Hid _ := hRA
  have HBA : Hid _ := hBA
  have HNA : Hid _ := hNA
  have HGA : Hid _ := hGA
  have HSA : Hid _ := hSA
  have HPr : Hid _ := hPr
  have HK : Hid (l.length = K) := hK
  have Hlk : Hid _ := hlk
  clear hpre hDrA hRA hBA hNA hGA hSA hPr hK hlk hN hM hl hO hG hln hos hgs hoz hgz hLT hlen
  have hN0 : (0 : Int) ≤ (N : Int) := by omega
  have hN2 : (N : Int) < ((N + 2 : Nat) : Int) := by omega
  have hN3 : (N : Int) < (N : Int) + 2 := by omega
  have hN4 : (N : Int) + 1 < (N : Int) + 2 := by omega
  have hN5 : (0 : Int) ≤ (N : Int) + 1 := by omega
  have hM0 : (0 : Int) ≤ (M : Int) := by omega
  have hM3 : (M : Int) < (M : Int) + 1 := by omega
  have hNw : IntKind.i64.wrap ((N : Int) + 1) = (N : Int) + 1 := by rw [IntKind.wrap_i64]; omega
  have hN1t : ((N : Int) + 1).toNat = N + 1 := by omega
  go_enter Tryz.func3, Tryz.ntmps3
  go_wp2_with (first | (go_at_call 6; refine hH.mono ?_; clear hH; rintro e w1 ⟨rfl, k1⟩) | (go_at_call 7; refine (HPr.out w1 k1).mono ?_; clear HPr; rintro e w2 ⟨vp, rfl, hown, k2⟩; obtain ⟨ap, cp, rfl, hI⟩ := isl_of_owns hown HK.out; clear hown; have K2 := k1.trans k2; obtain ⟨ak, ck, w3, aj, cj, w4, a5, c5, w5, g6, c6, w6, a7, c7, w7, g8, c8, w8, r1, r2, r3, r4, r5, r6, hp⟩ := HpreA.out w2 K2; clear HpreA; have h6 := hp.h6; have h8 := hp.h8; have h6a : N ≤ c6 := (by omega); have h8a : M ≤ c8 := (by omega); have K8 := K2.trans hp.k; have hI8 := hI.keep hp.k; clear hI) | (at_builtin; refine wpList_append_q rfl _ _ _ rfl _ _ _ w3 rfl rfl r1 ?_; clear r1) | (at_builtin; refine wpList_append_q rfl _ _ _ rfl _ _ _ w4 rfl rfl r2 ?_; clear r2) | (at_builtin; refine wpList_append_q rfl _ _ _ rfl _ _ _ w5 rfl rfl r3 ?_; clear r3) | (at_builtin; refine wpList_append_q rfl _ _ _ rfl _ _ _ w6 rfl rfl r4 ?_; clear r4) | (at_builtin; refine wpList_append_q rfl _ _ _ rfl _ _ _ w7 rfl rfl r5 ?_; clear r5) | (at_builtin; refine wpList_append_q rfl _ _ _ rfl _ _ _ w8 rfl rfl r6 ?_; clear r6) | (go_at_call 8; refine (HRA.out w8 K8 _ _ _ _ _ _ hI8 hp.nr hp.gr).mono ?_; clear HRA; rintro e w9 ⟨v9, x9, rfl, hP9, k9⟩; obtain ⟨oc, rs, c, n, L, aa, ca, g, rfl, hL, h16, C9, hg, hD9⟩ := runp_form hP9; clear hP9; have HD9 : Hid _ := hD9; clear hD9; have HL : Hid (L.length = n) := hL; clear hL; have Hg : Hid (0 < n → aa = some ⟨g, 0, none⟩ ∧ w8.heap.size ≤ g ∧ g < w9.heap.size) := hg; clear hg; obtain ⟨W9, hW9⟩ : ∃ W9, W9 = w9.alloc (.cells #[.int .i64 oc, .int .i64 rs, .slice aa n ca, .int .i64 c] 31) := ⟨_, rfl⟩; have HW9 : Hid (_ = _) := hW9; clear hW9; have KA9 : Keeps (fun _ => False) w9 W9 := (by rw [HW9.out]; exact (Keeps.refl _ w9).alloc _); have CA9 : CL W9 w9.heap.size [.int .i64 oc, .int .i64 rs, .slice aa n ca, .int .i64 c] := (by rw [HW9.out]; exact CL.made w9 _ _); have KW9 := k9.trans KA9) | (go_at_call 9; rw [← HW9.out]; refine (HDrA.out W9 (K8.trans KW9) _ _ _ _ (hp.nk.keep KW9) (hp.gk.keep KW9) (fun b off e => Nat.lt_of_lt_of_le (hp.bk b off e) KW9.size) (fun b off e => Nat.lt_of_lt_of_le (hp.bj b off e) KW9.size)).mono ?_; clear HDrA; rintro e w11 ⟨v11, x11, rfl, hP11, k11⟩; obtain ⟨rfl, ab, cb, rfl, hN11⟩ := HD9.out _ _ _ _ hP11; clear HD9 hP11; have KW11 := KW9.trans k11; have q7 := fun o => (KW11.alloc o).cell hp.e7 (fun e => e); have q8 := fun o => (KW11.alloc o).cell hp.e8 (fun e => e); have p0 := fun o => (KW11.alloc o).cell hp.d0 (fun e => e); have p1 := fun o => (KW11.alloc o).cell hp.d1 (fun e => e); obtain ⟨W11, hW11⟩ : ∃ W11, W11 = w11.alloc (.cells #[.int .i64 oc, .int .i64 rs, .slice ab n cb, .int .i64 c] 31) := ⟨_, rfl⟩; have HW11 : Hid (_ = _) := hW11; clear hW11; have KA11 : Keeps (fun _ => False) w11 W11 := (by rw [HW11.out]; exact (Keeps.refl _ w11).alloc _); have CA11 : CL W11 w11.heap.size [.int .i64 oc, .int .i64 rs, .slice ab n cb, .int .i64 c] := (by rw [HW11.out]; exact CL.made w11 _ _); have CB11 := CA9.keep (by show 0 < 4; decide) (k11.trans KA11) (fun e => e); have CD11 : CL W11 g (nvs L) := C9.keep0 ((KA9.trans k11).trans KA11) (fun _ e => e); have KX11 := KW11.trans KA11; have hs := same_ok (xs := L) ca cb oc rs c (NUM11 HL.out Hg.out CD11) (hN11.keep KA11) (by rw [HL.out]; omega); rw [HL.out] at hs; have y0 := CB11.c 0 _ rfl; have y1 := CB11.c 1 _ rfl; have y2 := CB11.c 2 _ rfl; have y3 := CB11.c 3 _ rfl; have z0 := CA11.c 0 _ rfl; have z1 := CA11.c 1 _ rfl; have z2 := CA11.c 2 _ rfl; have z3 := CA11.c 3 _ rfl) | (go_at_call 10; rw [← HW11.out]; clear HW11 q7 q8 p0 p1; refine (num11 _ _).mono ?_; rintro e wn ⟨rfl, en⟩; subst wn) | (go_at_call 11; refine hs.mono ?_; clear hs; rintro e w12 ⟨rfl, k12⟩; have CB12 := CB11.keep (by show 0 < 4; decide) k12 (fun e => e); have CD12 := CD11.keep0 k12 (fun _ e => e); have KX12 := KX11.trans k12))
  clear y0 y1 y2 y3 z0 z1 z2 z3 CA11 CB11 CD11 CA9 C9 hN11
  have Hhp : Hid _ := hp
  clear hp
  obtain ⟨q9, hq9⟩ : ∃ q9, w9.heap.size = q9 := ⟨_, rfl⟩
  rw [hq9] at CB12
  rw [hq9]
  have Hg2 : Hid (0 < n → aa = some ⟨g, 0, none⟩ ∧ w8.heap.size ≤ g ∧ g < q9) := hq9 ▸ Hg.out
  have hq8 : w8.heap.size ≤ q9 := by rw [← hq9]; exact k9.size
  clear hq9 Hg
  go_loopw [18] (fun iv Wr => ∃ (k : Nat) (L' : List Int), iv = .int .i64 (k : Int) ∧ k ≤ n ∧ L'.length = n ∧ CL Wr g (nvs L') ∧ CL Wr q9 [.int .i64 oc, .int .i64 rs, .slice aa n ca, .int .i64 c] ∧ Keeps (fun _ => False) w8 Wr) (fun iv _ => n - (intOf iv).toNat)
  case atStart => exact ⟨0, L, rfl, Nat.zero_le _, HL.out, CD12, CB12, KX12⟩
  case round =>
    obtain ⟨k, L', rfl, hk, hL', CDr, CBr, kr⟩ := hrel
    have HL' : Hid (L'.length = n) := hL'
    clear hL'
    clear CB12 CD12
    have y2 := CBr.c 2 _ rfl
    by_cases hlt : k < n
    · have hltI : decide ((k : Int) < (n : Int)) = true := decide_eq_true (by omega)
      have hltn : decide (k < n) = true := decide_eq_true hlt
      have hltJ : (k : Int) < (n : Int) := by omega
      have hk0 : (0 : Int) ≤ (k : Int) := by omega
      have hw1 : IntKind.i64.wrap ((k : Int) + 1) = (k : Int) + 1 := by rw [IntKind.wrap_i64]; omega
      obtain ⟨rfl, hg8, hgq⟩ := Hg2.out (by omega)
      obtain ⟨x, hx⟩ : ∃ x, L'[k]? = some x := ⟨_, List.getElem?_eq_getElem (by rw [HL'.out]; exact hlt)⟩
      have xk := CDr.c k (.int .i64 x) (by unfold nvs; rw [List.getElem?_map, hx]; rfl)
      have zk := CDr.z k (by unfold nvs; rw [List.length_map, HL'.out]; exact hlt)
      have hgne : g ≠ q9 := by omega
      have hgne' : ¬ q9 = g := by omega
      clear hx
      go_wp2_with fail
      refine wp_region_held_drew (S := fun w' => w'.cell? ⟨q9, 2, none⟩ = some (.slice (some ⟨g, 0, none⟩) n ca)) (by kernel_rfl) y2 (fun hHeld => ?_)
      refine wpAnyH_take (i := 0) (v := ?_) rfl (by kernel_rfl) (by kernel_rfl) (by kernel_rfl) (fun _ _ _ h => h) (Or.inl ⟨by rfl, ?_⟩) (by assumption) ?_
      rotate_left
      · intro wx hSw; (try dsimp only at hSw); go_simp <;> with_reducible rfl
      (try simp only [List.getElem_toArray]); (try simp only [List.getElem_cons_succ]); (try simp only [List.getElem_cons_zero]); (try simp only [Act.put]); (try simp only [List.setIfInBounds_toArray]); (repeat first | simp only [List.set_cons_succ] | simp only [List.set_cons_zero])
      refine wpAnyH_take (i := 1) (v := ?_) rfl (by kernel_rfl) (by kernel_rfl) (by kernel_rfl) (fun _ _ _ h => h) (Or.inl ⟨by rfl, ?_⟩) (by assumption) ?_
      rotate_left
      · intro wx hSw; (try dsimp only at hSw); go_simp <;> with_reducible rfl
      (try simp only [List.getElem_toArray]); (try simp only [List.getElem_cons_succ]); (try simp only [List.getElem_cons_zero]); (try simp only [Act.put]); (try simp only [List.setIfInBounds_toArray]); (repeat first | simp only [List.set_cons_succ] | simp only [List.set_cons_zero])
      refine wpAnyH_take (i := 2) (v := ?_) rfl (by kernel_rfl) (by kernel_rfl) (by kernel_rfl) (fun _ _ _ h => h) (Or.inl ⟨by rfl, ?_⟩) (by assumption) ?_
      rotate_left
      · intro wx hSw; (try dsimp only at hSw); go_simp <;> with_reducible rfl
      (try simp only [List.getElem_toArray]); (try simp only [List.getElem_cons_succ]); (try simp only [List.getElem_cons_zero]); (try simp only [Act.put]); (try simp only [List.setIfInBounds_toArray]); (repeat first | simp only [List.set_cons_succ] | simp only [List.set_cons_zero])
      refine wpAnyH_take (i := 3) (v := ?_) rfl (by kernel_rfl) (by kernel_rfl) (by kernel_rfl) (fun _ _ _ h => h) (Or.inl ⟨by rfl, ?_⟩) (by assumption) ?_
      rotate_left
      · intro wx hSw; (try dsimp only at hSw); go_simp <;> with_reducible rfl
      (try simp only [List.getElem_toArray]); (try simp only [List.getElem_cons_succ]); (try simp only [List.getElem_cons_zero]); (try simp only [Act.put]); (try simp only [List.setIfInBounds_toArray]); (repeat first | simp only [List.set_cons_succ] | simp only [List.set_cons_zero])
      refine wpAnyH_take (i := 4) (v := ?_) rfl (by kernel_rfl) (by kernel_rfl) (by kernel_rfl) (fun _ _ _ h => h) (Or.inl ⟨by rfl, ?_⟩) (by assumption) ?_
      rotate_left
      · intro wx hSw; (try dsimp only at hSw); go_simp <;> with_reducible rfl
      (try simp only [List.getElem_toArray]); (try simp only [List.getElem_cons_succ]); (try simp only [List.getElem_cons_zero]); (try simp only [Act.put]); (try simp only [List.setIfInBounds_toArray]); (repeat first | simp only [List.set_cons_succ] | simp only [List.set_cons_zero])
      refine wpAnyH_take (i := 5) (v := ?_) rfl (by kernel_rfl) (by kernel_rfl) (by kernel_rfl) (fun _ _ _ h => h) (Or.inl ⟨by rfl, ?_⟩) (by assumption) ?_
      rotate_left
      · intro wx hSw; (try dsimp only at hSw); go_simp <;> with_reducible rfl
      (try simp only [List.getElem_toArray]); (try simp only [List.getElem_cons_succ]); (try simp only [List.getElem_cons_zero]); (try simp only [Act.put]); (try simp only [List.setIfInBounds_toArray]); (repeat first | simp only [List.set_cons_succ] | simp only [List.set_cons_zero])
      refine wpAnyH_take (i := 6) (v := ?_) rfl (by kernel_rfl) (by kernel_rfl) (by kernel_rfl) (fun _ _ _ h => h) (Or.inl ⟨by rfl, ?_⟩) (by assumption) ?_
      rotate_left
      · intro wx hSw; (try dsimp only at hSw); go_simp <;> with_reducible rfl
      (try simp only [List.getElem_toArray]); (try simp only [List.getElem_cons_succ]); (try simp only [List.getElem_cons_zero]); (try simp only [Act.put]); (try simp only [List.setIfInBounds_toArray]); (repeat first | simp only [List.set_cons_succ] | simp only [List.set_cons_zero])
      refine wpAnyH_one 7 (by kernel_rfl) rfl rfl ?_
      go_simp
      (try simp only [List.getElem_toArray]); (try simp only [List.getElem_cons_succ]); (try simp only [List.getElem_cons_zero]); (try simp only [Act.put]); (try simp only [List.setIfInBounds_toArray]); (repeat first | simp only [List.set_cons_succ] | simp only [List.set_cons_zero])
      refine wpAnyH_take (i := 8) (v := ?_) rfl (by kernel_rfl) (by kernel_rfl) (by kernel_rfl) (fun _ _ _ h => h) (Or.inl ⟨by rfl, ?_⟩) (by assumption) ?_
      rotate_left
      · intro wx hSw; (try dsimp only at hSw); go_simp <;> with_reducible rfl
      (try simp only [List.getElem_toArray]); (try simp only [List.getElem_cons_succ]); (try simp only [List.getElem_cons_zero]); (try simp only [Act.put]); (try simp only [List.setIfInBounds_toArray]); (repeat first | simp only [List.set_cons_succ] | simp only [List.set_cons_zero])
      refine wpAnyH_take (i := 9) (v := ?_) rfl (by kernel_rfl) (by kernel_rfl) (by kernel_rfl) (fun _ _ _ h => h) (Or.inl ⟨by rfl, ?_⟩) (by assumption) ?_
      rotate_left
      · intro wx hSw; (try dsimp only at hSw); go_simp <;> with_reducible rfl
      (try simp only [List.getElem_toArray]); (try simp only [List.getElem_cons_succ]); (try simp only [List.getElem_cons_zero]); (try simp only [Act.put]); (try simp only [List.setIfInBounds_toArray]); (repeat first | simp only [List.set_cons_succ] | simp only [List.set_cons_zero])
      refine wpAnyH_one 10 (by kernel_rfl) rfl rfl ?_
      go_simp
      (try simp only [List.getElem_toArray]); (try simp only [List.getElem_cons_succ]); (try simp only [List.getElem_cons_zero]); (try simp only [Act.put]); (try simp only [List.setIfInBounds_toArray]); (repeat first | simp only [List.set_cons_succ] | simp only [List.set_cons_zero])
      refine wpAnyH_done (by kernel_rfl) ?_ _
      go_wp2_with fail
      go_roundw
      case rel =>
        refine ⟨k + 1, L'.set k (bits BinOp.xor IntKind.i64 (-1) x), by go_num, by omega, by rw [List.length_set]; exact HL'.out, ?_, ?_, ?_⟩
        · unfold nvs
          rw [List.map_set]
          first | exact (CDr.set (o := k) (by unfold nvs; rw [List.length_map, HL'.out]; exact hlt) _).drew | exact CDr.drew.set (o := k) (by unfold nvs; rw [List.length_map, HL'.out]; exact hlt) _
        · first | exact (CBr.other (p := ⟨g, k, none⟩) hgne _).drew | exact CBr.drew.other (p := ⟨g, k, none⟩) hgne _
        · first | exact (kr.setCell (p := ⟨g, k, none⟩) (fun h => absurd h (by show ¬ g < _; omega)) _).drew | exact kr.drew.setCell (p := ⟨g, k, none⟩) (fun h => absurd h (by show ¬ g < _; omega)) _
      case measure => simp [intOf]; omega
    · have hltI : decide ((k : Int) < (n : Int)) = false := decide_eq_false (by omega)
      have hltn : decide (k < n) = false := decide_eq_false hlt
      go_wp2_with (first | (go_at_call 12; refine (HBA.out wr _ _ (hI8.keep kr)).mono ?_; clear HBA; rintro e w13 ⟨v13, rfl, ho13, k13⟩; obtain ⟨a13, c13, rfl, hI13⟩ := isl_of_ownsd ho13 HK.out; clear ho13; have kr13 := kr.trans k13) | (go_at_call 13; refine (HNA.out w13 _ _ _ _ (Hhp.out.nr.keep kr13) (Hhp.out.nk.keep kr13)).mono ?_; clear HNA; rintro e w14 ⟨rfl, k14⟩; have kr14 := kr13.trans k14) | (go_at_call 14; refine (HGA.out w14 _ _ _ _ (Hhp.out.gr.keep kr14) (Hhp.out.gk.keep kr14)).mono ?_; clear HGA; rintro e w15 ⟨rfl, k15⟩; have kr15 := kr14.trans k15) | (go_at_call 15; refine (HSA.out w15 _ _ _ _ (hI13.keep (k14.trans k15)) (Hlk.out w15 (K8.trans kr15))).mono ?_; clear HSA; rintro e w16 ⟨rfl, k16⟩; have kr16 := kr15.trans k16))
      go_ret
      exact ⟨rfl, (K8.trans kr16).below (Nat.le_refl _) (fun _ _ e => e)⟩
end Go.Proofs.YthchbcfecconbaaGreatDoor

namespace Go.Proofs.YthchbcfecconbaaGreatDoor
open Go.RowKit Go.Deep Go.ChangeShapes Go.WideShapes Go.ChangeAt
theorem own : ownKnob Tryz.prog.godebug = none := by kernel_rfl
theorem gShp : Tryz.prog.globalNamed "braid/lang.shapes" = some 0 := by kernel_rfl
theorem gOps : Tryz.prog.globalNamed "braid/word.opNames" = some 1 := by kernel_rfl
theorem gRels : Tryz.prog.globalNamed "braid/word.relNames" = some 2 := by kernel_rfl
theorem tShp : (Tryz.prog.globals[0]?).map (·.type) = some 113 := by kernel_rfl
theorem tOps : (Tryz.prog.globals[1]?).map (·.type) = some 152 := by kernel_rfl
theorem tRels : (Tryz.prog.globals[2]?).map (·.type) = some 168 := by kernel_rfl
def laid1 : List (String × DataW Unit) := [("braid/word.opNames", Rows.laid_braid_word_opNames), ("braid/word.relNames", Rows.laid_braid_word_relNames), ("braid/lang.shapes", Rows.laid_braid_lang_shapes)]
theorem strs_cells {P : Program} {W : World} {H : Type} {enc : TypeId × Value → H} {spare : Nat → Bool} {held : Bool} {fuel : Nat} {t e : TypeId} {n g : Nat} {cs : Array Value} {name : String} {bs : List (List UInt8)} {q : List MemPlace}
    (ht : P.underlying t = some (.array n e)) (hs : P.underlying e = some .string) (ce : P.cellsOf e = 1) (hg : P.globalNamed name = some g) (hv : W.var? P name = some cs)
    (hd : DataW.trod enc P W 0 spare held fuel t cs.toList = some (.agg (bs.map fun b => .lit (.string b)), q)) (i : Nat) (hi : i < n) : W.cell? ⟨g, i, none⟩ = some (.string ⟨(bs.getD i []).toArray⟩) := by
  obtain ⟨xs, m, _, hx, hlen, hn, hel⟩ := DataW.trod_array ht hd
  simp only [Prod.mk.injEq, DataW.agg.injEq] at hx
  have h1 := hel i hi
  rw [ce, Nat.mul_one] at h1
  have hxi : i < xs.length := by omega
  rw [List.getElem?_eq_getElem hxi] at h1
  obtain ⟨s, e1, e2, _⟩ := DataW.trod_string hs h1
  rw [World.var?_cell hg hv i]
  have e3 : cs.toList[i]? = some (.string s) := by
    have : (cs.toList.drop i).take 1 = [.string s] := e1
    rw [List.take_one, List.head?_drop] at this
    cases h : cs.toList[i]? with
    | none => rw [h] at this; simp at this
    | some v => rw [h] at this; simpa using this
  have hb : (bs.map fun b => (DataW.lit (.string b) : DataW H))[i]? = some (.lit (.string s.data.toList)) := by
    rw [hx.1, List.getElem?_map, List.getElem?_eq_getElem hxi, e2]; rfl
  rw [List.getElem?_map] at hb
  cases hbi : bs[i]? with
  | none => rw [hbi] at hb; simp at hb
  | some b =>
    rw [hbi] at hb
    simp at hb
    have e4 : bs.getD i [] = s.data.toList := by rw [List.getD_eq_getElem?_getD, hbi, ← hb]; rfl
    rw [e4]
    simpa using e3
theorem sli_of {P : Program} {W : World} {H : Type} {enc : TypeId × Value → H} {spare : Nat → Bool} {held : Bool} {fuel : Nat} {t e : TypeId} {v : Value} {l : List Int} {ss : List (DataW H)} {q : List MemPlace}
    (ht : P.underlying t = some (.slice e)) (he : P.underlying e = some (.int .i64)) (ce : P.cellsOf e = 1) (h : DataW.trod enc P W 0 spare held fuel t [v] = some (.slice (l.map fun x => .lit (.int .i64 x)) ss, q)) : SLI W v l := by
  rcases open_slice ht h with ⟨_, hx⟩ | ⟨a, len, cap, m, n, D, Pl, hcs, _, hl, _, hmm, hx, hel⟩
  · cases hx
  · simp at hcs
    subst hcs
    simp only [Prod.mk.injEq, DataW.slice.injEq] at hx
    obtain ⟨⟨hD, _⟩, _⟩ := hx
    have hlen : l.length = len := by simpa using congrArg List.length hD
    refine ⟨_, cap, by rw [hlen], fun j x hj => ?_⟩
    have hjl : j < l.length := (List.getElem?_eq_some_iff.1 hj).1
    have hjm : j < m := by rw [hmm]; split <;> omega
    obtain ⟨cs', h1, h2⟩ := hel j hjm
    rw [ce] at h1
    obtain ⟨_, hlc, hcell⟩ := World.cells?_some h1
    obtain ⟨n', r1, r2, _⟩ := DataW.trod_int he h2
    have hDj : D j = .lit (.int .i64 x) := by
      have := congrArg (fun k => k[j]?) hD
      simp [hj, show j < len by omega] at this
      exact this.symm
    have e2 : D j = .lit (.int .i64 n') := (show D j = .lit (.int .i64 n') ∧ Pl j = [] by simpa using r2).1
    have en : n' = x := by
      rw [hDj] at e2
      simpa using e2.symm
    subst r1
    have c0 := hcell 0 (by omega)
    rw [add_add] at c0
    simp at c0
    obtain ⟨cs0, g1, g2⟩ := hel 0 (by omega)
    rw [ce] at g1
    obtain ⟨_, _, hcell0⟩ := World.cells?_some g1
    obtain ⟨n0, s1, _, _⟩ := DataW.trod_int he g2
    subst s1
    have c00 := hcell0 0 (by omega)
    rw [add_add] at c00
    simp at c00
    obtain ⟨b, off, spot⟩ := a
    have hspot : spot = none := by simpa [Addr.add] using World.cell?_spot c00
    subst hspot
    rw [add_at] at c0
    exact ⟨b, off, rfl, by rw [c0, en]⟩
theorem sli_nil {P : Program} {W : World} {H : Type} {enc : TypeId × Value → H} {spare : Nat → Bool} {held : Bool} {fuel : Nat} {t e : TypeId} {v : Value} {q : List MemPlace}
    (ht : P.underlying t = some (.slice e)) (h : DataW.trod enc P W 0 spare held fuel t [v] = some (.nil, q)) : SLI W v [] := by
  rcases open_slice ht h with ⟨hv, _⟩ | ⟨a, len, cap, m, n, D, Pl, hcs, _, _, _, _, hx, _⟩
  · simp at hv
    subst hv
    exact ⟨none, 0, rfl, fun j x hj => by simp at hj⟩
  · cases hx
theorem shp_cells {P : Program} {W : World} {H : Type} {enc : TypeId × Value → H} {spare : Nat → Bool} {held : Bool} {fuel : Nat} {t e : TypeId} {n g : Nat} {cs : Array Value} {name : String} {bs : List (DataW H)} {f0 f1 : Field} {q : List MemPlace}
    (ht : P.underlying t = some (.array n e)) (hs : P.underlying e = some (.struct #[f0, f1])) (ce : P.cellsOf e = 2) (o1 : f1.offset = 1) (c1 : P.cellsOf f1.type = 1) (hg : P.globalNamed name = some g) (hv : W.var? P name = some cs)
    (hd : DataW.trod enc P W 0 spare held fuel t cs.toList = some (.agg bs, q)) (i : Nat) (hi : i < n) {d0 d1 : DataW H} (hb : bs[i]? = some (.agg [d0, d1])) : ∃ v k p, W.cell? ⟨g, i * 2 + 1, none⟩ = some v ∧ DataW.trod enc P W 0 spare held k f1.type [v] = some (d1, p) := by
  obtain ⟨xs, m, _, hx, hlen, hn, hel⟩ := DataW.trod_array ht hd
  simp only [Prod.mk.injEq, DataW.agg.injEq] at hx
  have h1 := hel i hi
  rw [ce] at h1
  have hxi : i < xs.length := by omega
  rw [List.getElem?_eq_getElem hxi] at h1
  obtain ⟨y0, y1, k, e1, e2, _, e4⟩ := trod_struct2 hs h1
  rw [o1, c1] at e4
  have ed : y1.1 = d1 := by
    have hb2 := hb
    rw [hx.1, List.getElem?_map, List.getElem?_eq_getElem hxi, e1] at hb2
    simp at hb2
    exact hb2.2
  have e5 : (((cs.toList.drop (i * 2)).take 2).drop 1).take 1 = (cs.toList.drop (i * 2 + 1)).take 1 := by
    rw [List.drop_take, List.drop_drop, List.take_take]; simp
  rw [e5, List.take_one, List.head?_drop] at e4
  cases hc : cs.toList[i * 2 + 1]? with
  | none =>
    exfalso
    rw [ce] at e2
    have : cs.toList.length ≤ i * 2 + 1 := List.getElem?_eq_none_iff.1 hc
    simp at e2 this
    omega
  | some v =>
    rw [hc] at e4
    refine ⟨v, k, y1.2, ?_, ?_⟩
    · rw [World.var?_cell hg hv (i * 2 + 1)]
      simpa using hc
    · rw [← ed]; simpa using e4
end Go.Proofs.YthchbcfecconbaaGreatDoor

namespace Go.Proofs.YthchbcfecconbaaGreatDoor
open Go.RowKit Go.Deep Go.ChangeShapes Go.WideShapes Go.ChangeAt
theorem ins_cells_get (q : Ins) (j : Nat) (v : Value) (h : q.cells[j]? = some v) : (j = 0 ∧ v = .int .i64 q.code) ∨ (j = 1 ∧ v = .int .i64 q.dst) ∨ (j = 2 ∧ v = .bool q.oR) ∨ (j = 3 ∧ v = .int .i64 q.oN) ∨ (j = 4 ∧ v = .bool q.xR) ∨ (j = 5 ∧ v = .int .i64 q.xN) ∨ (j = 6 ∧ v = .bool q.yR) ∨ (j = 7 ∧ v = .int .i64 q.yN) ∨ (j = 8 ∧ v = .int .i64 q.op) ∨ (j = 9 ∧ v = .int .i64 q.rel) ∨ (j = 10 ∧ v = .int .i64 q.to) := by
  have hj : j < 11 := (List.getElem?_eq_some_iff.1 h).1
  rcases (by omega : j = 0 ∨ j = 1 ∨ j = 2 ∨ j = 3 ∨ j = 4 ∨ j = 5 ∨ j = 6 ∨ j = 7 ∨ j = 8 ∨ j = 9 ∨ j = 10) with rfl | rfl | rfl | rfl | rfl | rfl | rfl | rfl | rfl | rfl | rfl <;> (simp [Ins.cells] at h; simp [h])
end Go.Proofs.YthchbcfecconbaaGreatDoor

namespace Go.Proofs.YthchbcfecconbaaGreatDoor
open Go.RowKit Go.Deep Go.ChangeShapes Go.WideShapes Go.ChangeAt
def n64 (q : Ins) : Prop := In64 q.oN ∧ In64 q.xN ∧ In64 q.yN
theorem open_opd64 {H : Type} {enc : TypeId × Value → H} {P : Program} {W : World} {spare : Nat → Bool} {held : Bool} {e : TypeId} {g0 g1 : Field} {fuel : Nat} {v0 v1 : Value} {x : DataW H × List MemPlace}
    (hs : P.underlying e = some (.struct #[g0, g1])) (o0 : g0.offset = 0) (o1 : g1.offset = 1) (c0 : P.cellsOf g0.type = 1) (c1 : P.cellsOf g1.type = 1) (u0 : P.underlying g0.type = some .bool) (u1 : P.underlying g1.type = some (.int .i64))
    (h : DataW.trod enc P W 0 spare held fuel e [v0, v1] = some x) : ∃ (r : Bool) (n : Int), v0 = .bool r ∧ v1 = .int .i64 n ∧ In64 n := by
  obtain ⟨y0, y1, k, _, _, G0, G1⟩ := trod_struct2 hs h
  simp [o0, o1, c0, c1] at G0 G1
  obtain ⟨b, r0, _⟩ := DataW.trod_bool u0 G0
  obtain ⟨q, r1, _, wq⟩ := DataW.trod_int u1 G1
  simp at r0 r1
  exact ⟨b, q, r0, r1, i64_of_wf wq⟩
theorem open_ins64 {H : Type} {enc : TypeId × Value → H} {P : Program} {W : World} {spare : Nat → Bool} {held : Bool} {t e eo : TypeId} {f0 f1 f2 f3 f4 f5 f6 f7 g0 g1 : Field} {fuel : Nat} {a : Option Addr} {len cap : Nat} {x : DataW H × List MemPlace}
    (ht : P.underlying t = some (.slice e)) (hs : P.underlying e = some (.struct #[f0, f1, f2, f3, f4, f5, f6, f7])) (ho : P.underlying eo = some (.struct #[g0, g1])) (ce : P.cellsOf e = 11)
    (o0 : f0.offset = 0) (o1 : f1.offset = 1) (o2 : f2.offset = 2) (o3 : f3.offset = 4) (o4 : f4.offset = 6) (o5 : f5.offset = 8) (o6 : f6.offset = 9) (o7 : f7.offset = 10) (c0 : P.cellsOf f0.type = 1) (c1 : P.cellsOf f1.type = 1) (c2 : P.cellsOf f2.type = 2) (c3 : P.cellsOf f3.type = 2) (c4 : P.cellsOf f4.type = 2) (c5 : P.cellsOf f5.type = 1) (c6 : P.cellsOf f6.type = 1) (c7 : P.cellsOf f7.type = 1) (t2 : f2.type = eo) (t3 : f3.type = eo) (t4 : f4.type = eo) (u0 : P.underlying f0.type = some (.int .i64)) (u1 : P.underlying f1.type = some (.int .i64)) (u5 : P.underlying f5.type = some (.int .i64)) (u6 : P.underlying f6.type = some (.int .i64)) (u7 : P.underlying f7.type = some (.int .i64))
    (p0 : g0.offset = 0) (p1 : g1.offset = 1) (d0 : P.cellsOf g0.type = 1) (d1 : P.cellsOf g1.type = 1) (v0 : P.underlying g0.type = some .bool) (v1 : P.underlying g1.type = some (.int .i64))
    (h : DataW.trod enc P W 0 spare held fuel t [.slice a len cap] = some x) : ∃ l : List Ins, l.length = len ∧ ISL W a l ∧ (∀ q ∈ l, n64 q) ∧ (len = 0 ∨ ∃ es ss, x.1 = .slice es ss ∧ len ≤ es.length + ss.length) := by
  by_cases h0 : len = 0
  · subst h0
    exact ⟨[], rfl, fun i hi => (by simp at hi), fun q hq => absurd hq (by simp), .inl rfl⟩
  rcases open_slice ht h with ⟨hcs, _⟩ | ⟨a', len', cap', m, n, D, Pl, hcs, hb, hl, hm, hmm, rfl, hx⟩
  · simp at hcs; omega
  simp at hcs
  obtain ⟨rfl, rfl, rfl⟩ := hcs
  have hlm : len ≤ m := by rw [hmm]; split <;> omega
  have each : ∀ i, i < len → ∃ q : Ins, n64 q ∧ ∀ j v, q.cells[j]? = some v → W.cell? (a'.add (i * 11 + j)) = some v := by
    intro i hi
    obtain ⟨cs', h1, h2⟩ := hx i (by omega)
    rw [ce] at h1
    obtain ⟨_, hlen, hcell⟩ := World.cells?_some h1
    obtain ⟨xs, k, hk, hxy, _, hxl, hf⟩ := DataW.trod_struct hs h2
    match xs, hxl, cs', hlen with
    | [y0, y1, y2, y3, y4, y5, y6, y7], _, [z0, z1, z2, z3, z4, z5, z6, z7, z8, z9, z10], _ =>
      have G0 := hf 0 f0 rfl
      have G1 := hf 1 f1 rfl
      have G2 := hf 2 f2 rfl
      have G3 := hf 3 f3 rfl
      have G4 := hf 4 f4 rfl
      have G5 := hf 5 f5 rfl
      have G6 := hf 6 f6 rfl
      have G7 := hf 7 f7 rfl
      simp [o0, o1, o2, o3, o4, o5, o6, o7, c0, c1, c2, c3, c4, c5, c6, c7] at G0 G1 G2 G3 G4 G5 G6 G7
      rw [t2] at G2
      rw [t3] at G3
      rw [t4] at G4
      obtain ⟨q0, r0, _, _⟩ := DataW.trod_int u0 G0
      obtain ⟨q1, r1, _, _⟩ := DataW.trod_int u1 G1
      obtain ⟨b2, q2, r2, r3, m2⟩ := open_opd64 ho p0 p1 d0 d1 v0 v1 G2
      obtain ⟨b4, q4, r4, r5, m4⟩ := open_opd64 ho p0 p1 d0 d1 v0 v1 G3
      obtain ⟨b6, q6, r6, r7, m6⟩ := open_opd64 ho p0 p1 d0 d1 v0 v1 G4
      obtain ⟨q8, r8, _, _⟩ := DataW.trod_int u5 G5
      obtain ⟨q9, r9, _, _⟩ := DataW.trod_int u6 G6
      obtain ⟨q10, r10, _, _⟩ := DataW.trod_int u7 G7
      simp at r0 r1 r8 r9 r10
      refine ⟨⟨q0, q1, b2, q2, b4, q4, b6, q6, q8, q9, q10⟩, ⟨m2, m4, m6⟩, fun j v hv => ?_⟩
      have hj : j < 11 := (List.getElem?_eq_some_iff.1 hv).1
      have cj := hcell j (by omega)
      rw [add_add] at cj
      rw [cj]
      have g := ins_cells_get _ j v hv
      simp only at g
      rcases g with ⟨rfl, rfl⟩ | ⟨rfl, rfl⟩ | ⟨rfl, rfl⟩ | ⟨rfl, rfl⟩ | ⟨rfl, rfl⟩ | ⟨rfl, rfl⟩ | ⟨rfl, rfl⟩ | ⟨rfl, rfl⟩ | ⟨rfl, rfl⟩ | ⟨rfl, rfl⟩ | ⟨rfl, rfl⟩ <;> simp [r0, r1, r2, r3, r4, r5, r6, r7, r8, r9, r10]
  obtain ⟨b, off, spot⟩ := a'
  obtain ⟨q00, _, z00⟩ := each 0 (by omega)
  have z0 := z00 1 _ rfl
  have z0' := z00 0 _ rfl
  have hspot : spot = none := by simpa [Addr.add] using World.cell?_spot z0'
  subst hspot
  obtain ⟨V, hV⟩ := choose_lt each
  have ha : ∀ i, i < len → ((List.range len).map V).getD i ins0 = V i := fun i hi => by simp [List.getD_eq_getElem?_getD, hi]
  refine ⟨(List.range len).map V, by simp, fun i hi => ⟨b, off, rfl, fun j v hv => ?_⟩, fun q hq => by obtain ⟨i, hi, rfl⟩ := List.mem_map.1 hq; exact (hV i (List.mem_range.1 hi)).1, .inr ⟨_, _, rfl, by simp⟩⟩
  simp at hi
  rw [ha i hi] at hv
  have := (hV i hi).2 j v hv
  rw [add_at] at this
  rw [Nat.add_assoc]
  exact this
theorem n64_get {l : List Ins} (h : ∀ q ∈ l, n64 q) : ∀ p, p < l.length → In64 (l.getD p ins0).xN ∧ In64 (l.getD p ins0).yN := fun p hp => by
  have e : l.getD p ins0 = l[p] := by rw [List.getD_eq_getElem?_getD, List.getElem?_eq_getElem hp]; rfl
  rw [e]
  exact ⟨(h _ (List.getElem_mem hp)).2.1, (h _ (List.getElem_mem hp)).2.2⟩
theorem open_cap2 {H : Type} {enc : TypeId × Value → H} {P : Program} {W : World} {spare : Nat → Bool} {held : Bool} {t e : TypeId} {fuel : Nat} {a : Option Addr} {len cap : Nat} {x : DataW H × List MemPlace}
    (ht : P.underlying t = some (.slice e)) (h : DataW.trod enc P W 0 spare held fuel t [.slice a len cap] = some x) : len ≤ cap ∧ (a = none → cap = 0) := by
  rcases open_slice ht h with ⟨hcs, _⟩ | ⟨a', len', cap', m, n, D, Pl, hcs, hb, hl, hm, hmm, rfl, hx⟩
  · simp at hcs
    obtain ⟨rfl, rfl, rfl⟩ := hcs
    exact ⟨Nat.le_refl _, fun _ => rfl⟩
  · simp at hcs
    obtain ⟨rfl, rfl, rfl⟩ := hcs
    exact ⟨hl, fun e => by cases e⟩
theorem open_nums64 {H : Type} {enc : TypeId × Value → H} {P : Program} {W : World} {spare : Nat → Bool} {held : Bool} {t e : TypeId} {fuel : Nat} {a : Option Addr} {len cap : Nat} {x : DataW H × List MemPlace}
    (ht : P.underlying t = some (.slice e)) (he : P.underlying e = some (.int .i64)) (ce : P.cellsOf e = 1)
    (h : DataW.trod enc P W 0 spare held fuel t [.slice a len cap] = some x) : ∃ l : List Int, l.length = len ∧ NUM W a l ∧ (∀ i, In64 (l.getD i 0)) ∧ (len = 0 ∨ ∃ es ss, x.1 = .slice es ss ∧ len ≤ es.length + ss.length) := by
  by_cases h0 : len = 0
  · subst h0
    exact ⟨[], rfl, fun i x hi => by simp at hi, fun i => by simp [In64], .inl rfl⟩
  rcases open_slice ht h with ⟨hcs, _⟩ | ⟨a', len', cap', m, n, D, Pl, hcs, hb, hl, hm, hmm, rfl, hx⟩
  · simp at hcs; omega
  simp at hcs
  obtain ⟨rfl, rfl, rfl⟩ := hcs
  have hlm : len ≤ m := by rw [hmm]; split <;> omega
  have each : ∀ i, i < len → ∃ v : Int, In64 v ∧ W.cell? (a'.add i) = some (.int .i64 v) := by
    intro i hi
    obtain ⟨cs', h1, h2⟩ := hx i (by omega)
    rw [ce] at h1
    obtain ⟨_, hlen, hcell⟩ := World.cells?_some h1
    obtain ⟨v, rfl, _, wv⟩ := DataW.trod_int he h2
    have cj := hcell 0 (by omega)
    rw [add_add] at cj
    exact ⟨v, i64_of_wf wv, by simpa using cj⟩
  obtain ⟨b, off, spot⟩ := a'
  obtain ⟨v0, _, z0⟩ := each 0 (by omega)
  have hspot : spot = none := by simpa [Addr.add] using World.cell?_spot z0
  subst hspot
  obtain ⟨V, hV⟩ := choose_lt each
  refine ⟨(List.range len).map V, by simp, fun i x hi => ?_, fun i => ?_, .inr ⟨_, _, rfl, by simp⟩⟩
  · have hil : i < len := by have := (List.getElem?_eq_some_iff.1 hi).1; simpa using this
    have : x = V i := by simpa [hil] using hi.symm
    subst this
    have hv := (hV i hil).2
    rw [add_at] at hv
    exact ⟨b, off, rfl, hv⟩
  · by_cases hi : i < len
    · rw [List.getD_eq_getElem?_getD, List.getElem?_map, List.getElem?_range hi]
      exact (hV i hi).1
    · rw [List.getD_eq_getElem?_getD, List.getElem?_eq_none (by simp; omega)]
      show In64 0
      unfold In64
      omega
theorem open_givs64 {H : Type} {enc : TypeId × Value → H} {P : Program} {W : World} {spare : Nat → Bool} {held : Bool} {t e : TypeId} {g0 g1 : Field} {fuel : Nat} {a : Option Addr} {len cap : Nat} {x : DataW H × List MemPlace}
    (ht : P.underlying t = some (.slice e)) (hs : P.underlying e = some (.struct #[g0, g1])) (ce : P.cellsOf e = 2) (o0 : g0.offset = 0) (o1 : g1.offset = 1) (c0 : P.cellsOf g0.type = 1) (c1 : P.cellsOf g1.type = 1) (u0 : P.underlying g0.type = some .bool) (u1 : P.underlying g1.type = some (.int .i64))
    (h : DataW.trod enc P W 0 spare held fuel t [.slice a len cap] = some x) : ∃ l : List (Bool × Int), l.length = len ∧ GVN W a l ∧ (∀ i, In64 (l.getD i (false, 0)).2) ∧ (len = 0 ∨ ∃ es ss, x.1 = .slice es ss ∧ len ≤ es.length + ss.length) := by
  by_cases h0 : len = 0
  · subst h0
    exact ⟨[], rfl, fun i x hi => by simp at hi, fun i => by simp [In64], .inl rfl⟩
  rcases open_slice ht h with ⟨hcs, _⟩ | ⟨a', len', cap', m, n, D, Pl, hcs, hb, hl, hm, hmm, rfl, hx⟩
  · simp at hcs; omega
  simp at hcs
  obtain ⟨rfl, rfl, rfl⟩ := hcs
  have hlm : len ≤ m := by rw [hmm]; split <;> omega
  have each : ∀ i, i < len → ∃ q : Bool × Int, In64 q.2 ∧ W.cell? (a'.add (i * 2)) = some (.bool q.1) ∧ W.cell? (a'.add (i * 2 + 1)) = some (.int .i64 q.2) := by
    intro i hi
    obtain ⟨cs', h1, h2⟩ := hx i (by omega)
    rw [ce] at h1
    obtain ⟨_, hlen, hcell⟩ := World.cells?_some h1
    match cs', hlen with
    | [z0, z1], _ =>
      obtain ⟨b, q, rfl, rfl, hq⟩ := open_opd64 hs o0 o1 c0 c1 u0 u1 h2
      have cj := hcell 0 (by omega)
      have ck := hcell 1 (by omega)
      rw [add_add] at cj ck
      refine ⟨(b, q), hq, ?_, ?_⟩
      · simpa using cj
      · simpa using ck
  obtain ⟨b, off, spot⟩ := a'
  obtain ⟨q0, _, z0, _⟩ := each 0 (by omega)
  have hspot : spot = none := by simpa [Addr.add] using World.cell?_spot z0
  subst hspot
  obtain ⟨V, hV⟩ := choose_lt each
  refine ⟨(List.range len).map V, by simp, fun i x hi => ?_, fun i => ?_, .inr ⟨_, _, rfl, by simp⟩⟩
  · have hil : i < len := by have := (List.getElem?_eq_some_iff.1 hi).1; simpa using this
    have : x = V i := by simpa [hil] using hi.symm
    subst this
    obtain ⟨_, hv, hu⟩ := hV i hil
    rw [add_at] at hv hu
    exact ⟨b, off, rfl, hv, by rw [← Nat.add_assoc] at hu; exact hu⟩
  · by_cases hi : i < len
    · rw [List.getD_eq_getElem?_getD, List.getElem?_map, List.getElem?_range hi]
      exact (hV i hi).1
    · rw [List.getD_eq_getElem?_getD, List.getElem?_eq_none (by simp; omega)]
      show In64 0
      unfold In64
      omega
end Go.Proofs.YthchbcfecconbaaGreatDoor

