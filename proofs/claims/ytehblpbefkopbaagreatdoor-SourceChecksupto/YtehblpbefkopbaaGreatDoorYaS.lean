import Derived.Test.YtehblpbefkopbaaGreatDoorYaQ
import Derived.Test.YtehblpbefkopbaaGreatDoorYaR
import Derived.Test.YtehblpbefkopbaaGreatDoorXbI
import Derived.Test.YtehblpbefkopbaaGreatDoorXgD
namespace Go.Proofs.YtehblpbefkopbaaGreatDoor
open Go.RowKit Go.ChangeShapes Go.WideShapes Go.ChangeAt Go.Deep
attribute [local go_sem] Oper.semAt_some run_store_nf run_store_f
/-! The document's Check and Names. -/
theorem wr_chk {l : List St} (h : wrSL l = true) : chk l = 235 := by unfold chk; rw [h]; rfl
theorem Rm.small {l : List St} (h : bgSL l < 1048576) : Rm (bgSL l) 1 (0, 0, []) := by
  exact ⟨by show 0 + _ ≤ _; omega, by show 0 ≤ _; omega, by show 0 + _ ≤ _; omega, by omega⟩
/-- A new count. -/
theorem CN.new (W : World) : CN (W.alloc (.cells #[.int .i64 0, .int .i64 0, .slice none 0 0] 48)) W.heap.size W.heap.size (0, 0, []) none 0 :=
  ⟨CL.made W [.int .i64 0, .int .i64 0, .slice none 0 0] 48, ⟨⟨by simp, .inl ⟨rfl, rfl⟩⟩, fun x hx => by cases hx⟩, Nat.le_refl _⟩
theorem CNT.keep0 {W W1 : World} {p : Option Addr} {cap : Nat} {c c1 : Ct} {g : Nat} (V : CN (W.alloc (.cells #[.int .i64 0, .int .i64 0, .slice none 0 0] 48)) W.heap.size g c p cap) (h : CNT (W.alloc (.cells #[.int .i64 0, .int .i64 0, .slice none 0 0] 48)) W.heap.size g p c cap W1 c1) : Keeps (fun _ => False) W W1 :=
  ((Keeps.refl (fun _ => False) W).alloc _).trans' (h.keepB V) (fun _ _ e => e) (fun i hi e => by have e : W.heap.size ≤ i := e; omega)
set_option maxHeartbeats 1500000 in
set_option maxRecDepth 100000 in
theorem rCheck_any {w : World} {l : List St} {p : Option Addr} {c : Nat} {xs : List Value} (hA : AllS l) (hb : bgSL l < 1048576) (hR : Rd w p xs) (hI : ISL w l xs) : Calls Tryz.prog 11 #[.slice p l.length c] w fun e w' => e = .returned (.int .i64 (chk l)) ∧ Keeps (fun _ => False) w w' := by
  have hAl := hA w p c xs hR hI
  have hS := fun W (k : Keeps (fun _ => False) w W) => cstmts_all (bgSL l + 1) l (by omega) W _ W.heap.size (0, 0, []) none 0 p c xs 1 (hR.keep k) (hI.keep k) ((Keeps.refl _ W).alloc _) (CN.new W) (Rm.small hb)
  have hC := chR_eq l
  unfold chR at hC
  have hle := ctSL_le l 1 (0, 0, [])
  have hct : ctSL 1 l (0, 0, []) = ct0 l := rfl
  rw [hct] at hle
  simp only [hct] at hS
  clear hct hA
  obtain ⟨n, hn⟩ : ∃ n, n = l.length := ⟨_, rfl⟩
  rw [← hn] at hAl ⊢
  simp only [← hn] at hS
  clear hn
  cases hw : wrSL l
  · rw [hw] at hAl hC
    rw [if_neg (by simp)] at hC
    rw [← hC]
    clear hC hw hI hR
    generalize ct0 l = ct at *
    obtain ⟨cn, cd, ns⟩ := ct
    have l3 : ns.length ≤ 0 + bgSL l := hle.2.2
    have l1 : cn ≤ 0 + bgSL l := hle.1
    have l2 : cd ≤ max 0 (1 + bgSL l) := hle.2.1
    clear hle
    suffices H : ∀ PP : Int → World → Prop, (∀ w' , Keeps (fun _ => False) w w' → PP (if 8 < ns.length then 232 else if 24 < cd then 233 else if 512 < cn then 234 else 0) w') → Calls Tryz.prog 11 #[.slice p n c] w fun e w' => ∃ r, e = .returned (.int .i64 r) ∧ PP r w' from (H (fun r w' => r = (if 8 < ns.length then 232 else if 24 < cd then 233 else if 512 < cn then 234 else 0) ∧ Keeps (fun _ => False) w w') (fun _ h => ⟨rfl, h⟩)).mono (fun e w' ⟨r, h1, h2, h3⟩ => ⟨by rw [h1, h2], h3⟩)
    intro PP hPP
    have HP : Hid _ := hPP
    clear hPP
    have g1 : decide ((8 : Int) < (ns.length : Int)) = decide (8 < ns.length) := by by_cases h : 8 < ns.length <;> simp [h] <;> omega
    have g2 : decide ((24 : Int) < (cd : Int)) = decide (24 < cd) := by by_cases h : 24 < cd <;> simp [h] <;> omega
    have g3 : decide ((512 : Int) < (cn : Int)) = decide (512 < cn) := by by_cases h : 512 < cn <;> simp [h] <;> omega
    go_enter Tryz.func11, Tryz.ntmps11
    refine wp_seq_k (fun KK hKK => ?_)
    have hKH : Hid _ := hKK
    clear hKK
    go_wp2_with fail
    refine hKH.out _ _ ?_
    clear hKH KK
    refine wp_seq_k (fun KK hKK => ?_)
    have hKH : Hid _ := hKK
    clear hKK
    go_wp2_with (go_at_call 17; refine hAl.mono ?_; clear hAl; rintro e w1 ⟨rfl, k1⟩)
    refine hKH.out _ _ ?_
    clear hKH KK
    have hS1 := hS w1 k1
    have V1 := CN.new w1
    have hK1 := fun W2 (T : CNT _ w1.heap.size w1.heap.size none (0, 0, []) 0 W2 (cn, cd, ns)) => CNT.keep0 V1 T
    clear hS
    refine wp_seq_k (fun KK hKK => ?_)
    have hKH : Hid _ := hKK
    clear hKK
    go_wp2_with fail
    refine hKH.out _ _ ?_
    clear hKH KK
    generalize w1.alloc (.cells #[.int .i64 0, .int .i64 0, .slice none 0 0] 48) = w2 at *
    refine wp_seq_k (fun KK hKK => ?_)
    have hKH : Hid _ := hKK
    clear hKK
    go_wp2_with (go_at_call 12; refine hS1.mono ?_; clear hS1; rintro e w3 ⟨rfl, T3⟩)
    refine hKH.out _ _ ?_
    clear hKH KK
    have k3 := k1.trans (hK1 _ T3)
    obtain ⟨p', cap', V3, -, -⟩ := T3
    have C3 : CL w3 w1.heap.size [.int .i64 (cn : Int), .int .i64 (cd : Int), .slice p' ns.length cap'] := V3.cl
    have y0 := C3.c 0 _ rfl
    have y1 := C3.c 1 _ rfl
    have y2 := C3.c 2 _ rfl
    clear V1 V3 C3 hK1
    by_cases h8 : 8 < ns.length
    · rw [decide_eq_true h8] at g1
      have b1 := decide_eq_true h8
      go_wp2_with fail
      go_ret
      exact ⟨_, rfl, by have := HP.out _ k3; rw [if_pos h8] at this; exact this⟩
    · rw [decide_eq_false h8] at g1
      have b1 := decide_eq_false h8
      by_cases h24 : 24 < cd
      · rw [decide_eq_true h24] at g2
        have b2 := decide_eq_true h24
        go_wp2_with fail
        go_ret
        exact ⟨_, rfl, by have := HP.out _ k3; rw [if_neg h8, if_pos h24] at this; exact this⟩
      · rw [decide_eq_false h24] at g2
        have b2 := decide_eq_false h24
        by_cases h5 : 512 < cn
        · rw [decide_eq_true h5] at g3
          have b3 := decide_eq_true h5
          go_wp2_with fail
          go_ret
          exact ⟨_, rfl, by have := HP.out _ k3; rw [if_neg h8, if_neg h24, if_pos h5] at this; exact this⟩
        · rw [decide_eq_false h5] at g3
          have b3 := decide_eq_false h5
          go_wp2_with fail
          go_ret
          exact ⟨_, rfl, by have := HP.out _ k3; rw [if_neg h8, if_neg h24, if_neg h5] at this; exact this⟩
  · rw [hw] at hAl
    rw [wr_chk hw]
    clear hS hC hw hle hI hR
    go_enter Tryz.func11, Tryz.ntmps11
    go_wp2_with (go_at_call 17; refine hAl.mono ?_; clear hAl; rintro e w1 ⟨rfl, k1⟩)
    go_ret
    exact ⟨rfl, k1⟩
/-- Names, of a list that may be. -/
def NmR (l : List St) (w : World) (e : Ending) (w' : World) : Prop := ∃ (p : Option Addr) (m c : Nat), e = .returned (.tuple #[.slice p m c, .int .i64 (chk l)]) ∧ (chk l ≠ 0 → m = 0) ∧ (chk l = 0 → m = (nmSL l []).length ∧ OwnP w' (fun g => w.heap.size ≤ g) 9 1 (.slice p (nmSL l []).length c) (nmSL l []).length (stl (nmSL l []))) ∧ Keeps (fun _ => False) w w'
set_option maxHeartbeats 1500000 in
set_option maxRecDepth 100000 in
theorem rNames_any {w : World} {l : List St} {p : Option Addr} {c : Nat} {xs : List Value} (hA : AllS l) (hb : bgSL l < 1048576) (hR : Rd w p xs) (hI : ISL w l xs) : Calls Tryz.prog 7 #[.slice p l.length c] w (NmR l w) := by
  have hC := rCheck_any (c := c) hA hb hR hI
  have hS := fun W (k : Keeps (fun _ => False) w W) => cstmts_all (bgSL l + 1) l (by omega) W _ W.heap.size (0, 0, []) none 0 p c xs 1 (hR.keep k) (hI.keep k) ((Keeps.refl _ W).alloc _) (CN.new W) (Rm.small hb)
  have hct : ctSL 1 l (0, 0, []) = ct0 l := rfl
  simp only [hct] at hS
  clear hct hA
  by_cases h0 : chk l = 0
  · obtain ⟨-, hnm, -⟩ := nm_ct0 h0
    have hN : ∀ (PP : Ending → World → Prop), (∀ (p' : Option Addr) (c' : Nat) (w' : World), OwnP w' (fun g => w.heap.size ≤ g) 9 1 (.slice p' (ct0 l).2.2.length c') (ct0 l).2.2.length (stl (ct0 l).2.2) → Keeps (fun _ => False) w w' → PP (.returned (.tuple #[.slice p' (ct0 l).2.2.length c', .int .i64 0])) w') → Calls Tryz.prog 7 #[.slice p l.length c] w (fun e w' => PP e w' ∧ True) := by
      rw [h0] at hC
      clear hnm
      obtain ⟨n, hn⟩ : ∃ n, n = l.length := ⟨_, rfl⟩
      rw [← hn] at hC ⊢
      simp only [← hn] at hS
      clear hn hI hR h0
      generalize ct0 l = ct at *
      obtain ⟨cn, cd, ns⟩ := ct
      intro PP hPP
      have HP : Hid _ := hPP
      clear hPP
      go_enter Tryz.func7, Tryz.ntmps7
      refine wp_seq_k (fun KK hKK => ?_)
      have hKH : Hid _ := hKK
      clear hKK
      go_wp2_with fail
      refine hKH.out _ _ ?_
      clear hKH KK
      refine wp_seq_k (fun KK hKK => ?_)
      have hKH : Hid _ := hKK
      clear hKK
      go_wp2_with (go_at_call 11; refine hC.mono ?_; clear hC; rintro e w1 ⟨rfl, k1⟩)
      refine hKH.out _ _ ?_
      clear hKH KK
      have hS1 := hS w1 k1
      have V1 := CN.new w1
      have hK1 := fun W2 (T : CNT _ w1.heap.size w1.heap.size none (0, 0, []) 0 W2 (cn, cd, ns)) => CNT.keep0 V1 T
      clear hS
      refine wp_seq_k (fun KK hKK => ?_)
      have hKH : Hid _ := hKK
      clear hKK
      go_wp2_with fail
      refine hKH.out _ _ ?_
      clear hKH KK
      refine wp_seq_k (fun KK hKK => ?_)
      have hKH : Hid _ := hKK
      clear hKK
      go_wp2_with fail
      refine hKH.out _ _ ?_
      clear hKH KK
      generalize w1.alloc (.cells #[.int .i64 0, .int .i64 0, .slice none 0 0] 48) = w2 at *
      refine wp_seq_k (fun KK hKK => ?_)
      have hKH : Hid _ := hKK
      clear hKK
      go_wp2_with (go_at_call 12; refine hS1.mono ?_; clear hS1; rintro e w3 ⟨rfl, T3⟩)
      refine hKH.out _ _ ?_
      clear hKH KK
      have k3 := k1.trans (hK1 _ T3)
      have z1 := k1.size
      obtain ⟨p', cap', V3, -, -⟩ := T3
      have C3 : CL w3 w1.heap.size [.int .i64 (cn : Int), .int .i64 (cd : Int), .slice p' ns.length cap'] := V3.cl
      have O3 : OwnP w3 (fun g => w.heap.size ≤ g) 9 1 (.slice p' ns.length cap') ns.length (stl ns) := V3.nm.mono (fun g hg => by have := hg.1; omega)
      have y2 := C3.c 2 _ rfl
      clear V1 V3 C3 hK1
      go_wp2_with fail
      go_ret2
      exact ⟨HP.out _ _ _ O3 k3, trivial⟩
    refine (hN (NmR l w) (fun p' c' w' ho k => ⟨p', _, c', by rw [h0], fun e => absurd h0 e, fun _ => ?_, k⟩)).mono (fun _ _ h => h.1)
    rw [hnm] at ho ⊢
    exact ⟨rfl, ho⟩
  · clear hS
    have hN : ∀ (PP : Ending → World → Prop), (∀ (w' : World), Keeps (fun _ => False) w w' → PP (.returned (.tuple #[.slice none 0 0, .int .i64 (chk l)])) w') → Calls Tryz.prog 7 #[.slice p l.length c] w (fun e w' => PP e w' ∧ True) := by
      have e0 : (chk l != 0) = true := bne_iff_ne.2 h0
      have e1 : (chk l == 0) = false := beq_eq_false_iff_ne.2 h0
      clear h0 hI hR
      generalize chk l = C at *
      generalize l.length = n at *
      intro PP hPP
      have HP : Hid _ := hPP
      clear hPP
      go_enter Tryz.func7, Tryz.ntmps7
      go_wp2_with (go_at_call 11; refine hC.mono ?_; clear hC; rintro e w1 ⟨rfl, k1⟩)
      go_ret2
      exact ⟨HP.out _ k1, trivial⟩
    exact (hN (NmR l w) (fun w' k => ⟨none, 0, 0, rfl, fun _ => rfl, fun e => absurd e h0, k⟩)).mono (fun _ _ h => h.1)
end Go.Proofs.YtehblpbefkopbaaGreatDoor
namespace Go.Proofs.YtehblpbefkopbaaGreatDoor
open Go.RowKit Go.ChangeShapes Go.WideShapes Go.ChangeAt Go.Deep Go.Maps Go.ChangeMaps Go.MapKept
attribute [local go_sem] Oper.semAt_some run_store_nf run_store_f
/-! The program's Names, in full. -/
set_option maxHeartbeats 2000000 in
set_option maxRecDepth 100000 in
theorem names_N {w : World} {q : Option Addr} {cq : Nat} {ps : List St} {xs : List Value} (hG : SG w) (h12 : 12 ≤ w.heap.size) (ho : OwnP w (fun g => g < w.heap.size) 37 12 (.slice q ps.length cq) ps.length xs) (hl : SL w (fun g => g < w.heap.size) 35 37 ps xs) (hF : FtSL ps) (hb : ps.length * 184 ≤ 140737488355327) :
    Calls Tryz.prog 9 #[.slice q ps.length cq] w fun e w' => ∃ (pn : Option Addr) (n c : Nat), e = .returned (.tuple #[.slice pn n c, .int .i64 (chkM ps)]) ∧ (chkM ps ≠ 0 → n = 0) ∧ (chkM ps = 0 → n = (nmSL ps []).length ∧ OwnP w' (fun g => w.heap.size ≤ g) 9 1 (.slice pn (nmSL ps []).length c) (nmSL ps []).length (stl (nmSL ps []))) ∧ Keeps (fun _ => False) w w' := by
  obtain ⟨W1, hW1⟩ : ∃ W1, W1 = w.alloc (.map #[] 0) := ⟨_, rfl⟩
  have hmm1 : (Instr.makeMap 56 none).run Tryz.prog w = .ok (.map (some w.heap.size)) W1 := by rw [hW1]; exact run_makeMap _ _
  obtain ⟨W2, hW2⟩ : ∃ W2, W2 = W1.alloc (.map #[] 0) := ⟨_, rfl⟩
  have hmm2 : (Instr.makeMap 57 none).run Tryz.prog W1 = .ok (.map (some W1.heap.size)) W2 := by rw [hW2]; exact run_makeMap _ _
  have k1 : Keeps (fun _ => False) w W1 := by rw [hW1]; exact (Keeps.refl _ w).alloc _
  have k2 : Keeps (fun _ => False) W1 W2 := by rw [hW2]; exact (Keeps.refl _ W1).alloc _
  have z1 : W1.heap.size = w.heap.size + 1 := by rw [hW1]; simp
  have z2 : W2.heap.size = w.heap.size + 1 + 1 := by rw [hW2, ← z1]; simp
  have m1 : W1.heap[w.heap.size]? = some (.map #[] 0) := by rw [hW1]; exact (show (w.heap.push (.map #[] 0))[w.heap.size]? = some _ from by simp)
  have M1 : Hid (W2.heap[w.heap.size]? = some (.map #[] 0)) := by show _ = _; rw [k2.block _ (by omega) (fun e => e)]; exact m1
  have M2 : Hid (W2.heap[W1.heap.size]? = some (.map #[] 0)) := by show _ = _; rw [hW2]; exact (show (W1.heap.push (.map #[] 0))[W1.heap.size]? = some _ from by simp)
  have K02 : Hid (Keeps (fun _ => False) w W2) := k1.trans k2
  clear hW1 hW2 k1 k2 m1
  unfold chkM
  go_enter Tryz.func9, Tryz.ntmps9
  refine wp_seq_k (fun K0 h0 => ?_)
  have H0 : Hid _ := h0
  clear h0
  go_wp2_with fail
  refine H0.out _ _ ?_
  clear H0 K0
  refine wp_seq_k (fun K0 h0 => ?_)
  have H0 : Hid _ := h0
  clear h0
  go_wp2_with fail
  refine H0.out _ _ ?_
  clear H0 K0
  obtain ⟨w3, hw3⟩ : ∃ w3, w3 = W2.alloc (.cells ([.bool false, .slice none 0 0, .map (some w.heap.size), .map (some (w.heap.size + 1))] : List Value).toArray 59) := ⟨_, rfl⟩
  have hw4 : W2.alloc (.cells #[.bool false, .slice none 0 0, .map (some w.heap.size), .map (some (w.heap.size + 1))] 59) = w3 := hw3.symm
  rw [hw4]
  clear hw4
  have c3 : CL w3 (w.heap.size + 1 + 1) [.bool false, .slice none 0 0, .map (some w.heap.size), .map (some (w.heap.size + 1))] := by rw [hw3, ← z2]; exact CL.made W2 _ _
  have K3 : Keeps (fun _ => False) W2 w3 := by rw [hw3]; exact (Keeps.refl (fun _ => False) W2).alloc _
  clear hw3
  rw [z1] at M2
  have K03 : Keeps (fun _ => False) w w3 := K02.out.trans K3
  have st3 : Stay (fun g => g < w.heap.size) w w3 := K03.stay (fun _ _ _ e => e)
  have V3 : SV w3 w.heap.size (w.heap.size + 1 + 1) w.heap.size (w.heap.size + 1) false [] none 0 := ⟨c3, ownP_nil _ _ _ _, mmap_new (by rw [K3.block _ (by omega) (fun e => e)]; exact M1.out), mmap_new (by rw [K3.block _ (by omega) (fun e => e)]; exact M2.out), hG.keep K03 (fun _ _ e => e), by omega, by omega, by omega, by omega, (fun g e => by cases e), by simp, h12⟩
  have hS := css_of (cxs_all (bgSL ps)) ps (Nat.le_refl _) hF hb w3 w.heap.size (w.heap.size + 1 + 1) w.heap.size (w.heap.size + 1) false [] none 0 q cq xs V3 (ho.stay st3) (hl.stay st3)
  have hlw := V3.low
  clear K3 c3 hmm1 hmm2 st3 K02 M1 M2 V3 z1 z2 ho hl hG
  rw [Bool.false_or] at hS
  generalize hwq : wrSL ps = wq at *
  generalize hnq : nmSL ps [] = nq at *
  generalize hs1 : (mzSL ps).1 = s1 at *
  generalize hs2 : (mzSL ps).2 = s2 at *
  clear hwq hnq hs1 hs2
  refine wp_seq_k (fun K0 h0 => ?_)
  have H0 : Hid _ := h0
  clear h0
  go_wp2_with (go_at_call 16; refine hS.mono ?_; rintro e w4 ⟨rfl, T4⟩; clear hS)
  refine H0.out _ _ ?_
  clear H0 K0
  obtain ⟨p4, c4, V4, n4, k4⟩ := T4
  obtain ⟨w5, hw5⟩ : ∃ w5, w5 = w4.alloc (.cells ([.int .i64 (s1 : Int), .int .i64 (s2 : Int)] : List Value).toArray 61) := ⟨_, rfl⟩
  have hw6 : w4.alloc (.cells #[.int .i64 (s1 : Int), .int .i64 (s2 : Int)] 61) = w5 := hw5.symm
  rw [hw6]
  clear hw6
  have c5 : CL w5 w4.heap.size [.int .i64 (s1 : Int), .int .i64 (s2 : Int)] := by rw [hw5]; exact CL.made w4 _ _
  have K5 : Keeps (fun _ => False) w4 w5 := by rw [hw5]; exact (Keeps.refl (fun _ => False) w4).alloc _
  clear hw5
  have V5 := V4.keep0 K5
  have x0 := V5.cl.c 0 _ rfl
  have x1 := V5.cl.c 1 _ rfl
  have y0 := c5.c 0 _ rfl
  have y1 := c5.c 1 _ rfl
  have FIN : Hid (Keeps (fun _ => False) w w5) := ((K03.trans' k4 (U := fun i => w.heap.size ≤ i) (fun _ _ e => e.elim) (fun i hi e => by have := hlw i e; omega)).trans (K5.mono (fun _ _ e => e.elim))).mono (fun i hi e => by omega)
  have ON : Hid (OwnP w5 (fun g => w.heap.size ≤ g) 9 1 (.slice p4 nq.length c4) nq.length (stl nq)) := V5.nm
  clear V5 V4 c5 K5 k4 n4 K03 hlw
  cases wq with
  | true =>
    rw [if_pos rfl]
    go_wp2_with fail
    go_ret2
    exact ⟨_, _, _, rfl, fun _ => rfl, fun e => absurd e (by decide), FIN.out⟩
  | false =>
    rw [if_neg (by decide)]
    by_cases h1 : 8 < nq.length
    · rw [if_pos h1]
      have d1 : decide ((8 : Int) < (nq.length : Int)) = true := decide_eq_true (by omega)
      have e1 : decide (8 < nq.length) = true := decide_eq_true h1
      go_wp2_with fail
      go_ret2
      exact ⟨_, _, _, rfl, fun _ => rfl, fun e => absurd e (by decide), FIN.out⟩
    · rw [if_neg h1]
      have d1 : decide ((8 : Int) < (nq.length : Int)) = false := decide_eq_false (by omega)
      have e1 : decide (8 < nq.length) = false := decide_eq_false h1
      by_cases h2 : 24 < s1
      · rw [if_pos h2]
        have d2 : decide ((24 : Int) < (s1 : Int)) = true := decide_eq_true (by omega)
        have e2 : decide (24 < s1) = true := decide_eq_true h2
        go_wp2_with fail
        go_ret2
        exact ⟨_, _, _, rfl, fun _ => rfl, fun e => absurd e (by decide), FIN.out⟩
      · rw [if_neg h2]
        have d2 : decide ((24 : Int) < (s1 : Int)) = false := decide_eq_false (by omega)
        have e2 : decide (24 < s1) = false := decide_eq_false h2
        by_cases h3 : 512 < s2
        · rw [if_pos h3]
          have d3 : decide ((512 : Int) < (s2 : Int)) = true := decide_eq_true (by omega)
          have e3 : decide (512 < s2) = true := decide_eq_true h3
          go_wp2_with fail
          go_ret2
          exact ⟨_, _, _, rfl, fun _ => rfl, fun e => absurd e (by decide), FIN.out⟩
        · rw [if_neg h3]
          have d3 : decide ((512 : Int) < (s2 : Int)) = false := decide_eq_false (by omega)
          have e3 : decide (512 < s2) = false := decide_eq_false h3
          go_wp2_with fail
          go_ret2
          exact ⟨_, _, _, rfl, ⟨rfl, ON.out⟩, FIN.out⟩
/-- The program's Names. -/
def NmP (l : List St) (w : World) (e : Ending) (w' : World) : Prop := ∃ (p : Option Addr) (m c : Nat), e = .returned (.tuple #[.slice p m c, .int .i64 (chk l)]) ∧ (chk l ≠ 0 → m = 0) ∧ (chk l = 0 → m = (nmSL l []).length ∧ OwnP w' (fun g => w.heap.size ≤ g) 9 1 (.slice p (nmSL l []).length c) (nmSL l []).length (stl (nmSL l []))) ∧ Keeps (fun _ => False) w w'
set_option maxHeartbeats 1000000 in
set_option maxRecDepth 100000 in
theorem pNames_any {w : World} {q : Option Addr} {cq : Nat} {ps : List St} {xs : List Value} (hG : SG w) (h12 : 12 ≤ w.heap.size) (ho : OwnP w (fun g => g < w.heap.size) 37 12 (.slice q ps.length cq) ps.length xs) (hl : SL w (fun g => g < w.heap.size) 35 37 ps xs) (hb : bgSL ps ≤ 549755813888) :
    Calls Tryz.prog 6 #[.slice q ps.length cq] w (NmP ps w) := by
  have hN := names_N hG h12 ho hl (ftSL_of ps hb) (by have := bgSL_len ps; omega)
  rw [chkM_eq (by omega)] at hN
  suffices H : ∀ PP : Ending → World → Prop, (∀ (p : Option Addr) (m c : Nat) (w' : World), (chk ps ≠ 0 → m = 0) → (chk ps = 0 → m = (nmSL ps []).length ∧ OwnP w' (fun g => w.heap.size ≤ g) 9 1 (.slice p (nmSL ps []).length c) (nmSL ps []).length (stl (nmSL ps []))) → Keeps (fun _ => False) w w' → PP (.returned (.tuple #[.slice p m c, .int .i64 (chk ps)])) w') → Calls Tryz.prog 6 #[.slice q ps.length cq] w (fun e w' => PP e w' ∧ True) from (H (NmP ps w) (fun p m c w' h1 h2 h3 => ⟨p, m, c, rfl, h1, h2, h3⟩)).mono (fun _ _ h => h.1)
  intro PP hPP
  have HP : Hid _ := hPP
  clear hPP ho hl hb
  generalize chk ps = C at *
  generalize ps.length = n at *
  go_enter Tryz.func6, Tryz.ntmps6
  go_wp2_with (go_at_call 9; refine hN.mono ?_; clear hN; rintro e w1 ⟨p1, m1, c1, rfl, h1, h2, k1⟩)
  go_ret2
  exact ⟨HP.out _ _ _ _ h1 h2 k1, trivial⟩
end Go.Proofs.YtehblpbefkopbaaGreatDoor
namespace Go.Proofs.YtehblpbefkopbaaGreatDoor
open Go.RowKit Go.ChangeShapes Go.WideShapes Go.ChangeAt Go.Deep
attribute [local go_sem] Oper.semAt_some run_store_nf run_store_f
/-! The law SourceChecks. -/
/-- Names in memory, to be read and written. -/
def NC (W : World) (B : Nat) (p : Option Addr) (L : List Bs) : Prop := L = [] ∨ ∃ g, p = some ⟨g, 0, none⟩ ∧ B ≤ g ∧ CL W g (stl L)
theorem nc_of {W : World} {B c : Nat} {p : Option Addr} {L : List Bs} (h : OwnP W (fun g => B ≤ g) 9 1 (.slice p L.length c) L.length (stl L)) : NC W B p L := by
  by_cases h0 : L = []
  · exact .inl h0
  right
  have hl : 0 < L.length := List.length_pos_iff.2 h0
  obtain ⟨a, cap, e, hc, -, ho⟩ := own_slice h.1
  injection e with e1 _ _
  subst e1
  obtain ⟨g, rfl, -⟩ := hc 0 (.string (bs (L[0]'hl))) (by rw [List.getElem?_map, List.getElem?_eq_getElem hl]; rfl)
  have hg := (ho g 0 rfl).2
  refine ⟨g, rfl, h.2 g hg, fun j u e => ?_, fun j hj => ?_⟩
  · obtain ⟨g', e1, e2⟩ := hc j u e
    injection e1 with e1
    injection e1 with e1 _ _
    subst e1
    exact e2
  · rcases h.1.2 with ⟨q, _⟩ | ⟨g', cap', cur, q, _, hx, _⟩
    · cases q
    · injection q with q _ _
      injection q with q
      injection q with q _ _
      subst q
      simp [World.frozen?, hx]
theorem NC.keep {W W' : World} {B : Nat} {p : Option Addr} {L : List Bs} {S : Nat → Prop} (h : NC W B p L) (k : Keeps S W W') (hS : ∀ i, B ≤ i → i < W.heap.size → ¬ S i) : NC W' B p L := by
  rcases h with h | ⟨g, h1, h2, h3⟩
  · exact .inl h
  · by_cases h0 : L = []
    · exact .inl h0
    · have hl : 0 < (stl L).length := by rw [List.length_map]; exact List.length_pos_iff.2 h0
      exact .inr ⟨g, h1, h2, h3.keep hl k (hS g h2 (h3.lt hl))⟩
theorem NC.keep0 {W W' : World} {B : Nat} {p : Option Addr} {L : List Bs} (h : NC W B p L) (k : Keeps (fun _ => False) W W') : NC W' B p L := h.keep k (fun _ _ _ e => e)
/-- A name's place. -/
theorem NC.at {W : World} {B : Nat} {p : Option Addr} {L : List Bs} (h : NC W B p L) {i : Nat} (hi : i < L.length) : ∃ g, p = some ⟨g, 0, none⟩ ∧ B ≤ g ∧ g < W.heap.size ∧ CL W g (stl L) := by
  rcases h with h | ⟨g, h1, h2, h3⟩
  · subst h; cases hi
  · exact ⟨g, h1, h2, h3.lt (by rw [List.length_map]; omega), h3⟩
def nls (l : List St) : List Bs := if chk l = 0 then nmSL l [] else []
theorem nls_len (l : List St) : (nls l).length ≤ 8 := by
  unfold nls
  split
  · rename_i h
    obtain ⟨-, h1, h2⟩ := nm_ct0 h
    rw [← h1]; exact h2
  · simp
theorem nm_get {l : List St} {w w' : World} {e : Ending} (h : NmR l w e w') : ∃ (p : Option Addr) (c : Nat), e = .returned (.tuple #[.slice p (nls l).length c, .int .i64 (chk l)]) ∧ NC w' w.heap.size p (nls l) ∧ Keeps (fun _ => False) w w' := by
  obtain ⟨p, m, c, h1, h2, h3, h4⟩ := h
  unfold nls
  by_cases h0 : chk l = 0
  · obtain ⟨rfl, ho⟩ := h3 h0
    rw [if_pos h0]
    exact ⟨p, c, h1, nc_of ho, h4⟩
  · obtain rfl := h2 h0
    rw [if_neg h0]
    exact ⟨p, c, h1, .inl rfl, h4⟩
theorem run_store_str {w : World} {b o : Nat} (hc : (w.cell? ⟨b, o, none⟩).isSome = true) (hz : w.frozen? ⟨b, o, none⟩ = false) (x : ByteArray) : (storeVar 9 ⟨b, o, none⟩ (.string x)).run Tryz.prog w = .ok () (w.setCell ⟨b, o, none⟩ (.string x)) := by
  obtain ⟨u, hu⟩ := Option.isSome_iff_exists.1 hc
  go_simp
theorem wpList_store_str {w : World} {ops : Array Oper} {rest : List Oper} {o : Oper} {a : Act} {Q : Exit → Act → World → Prop} (hgd : o.guard = none) (hd : o.dst = none) (x y : Operand) (ho : o.op = .store 9 x y) (b off : Nat) (hx : a.eval x = .pointer (some ⟨b, off, none⟩)) (z : ByteArray) (hy : a.eval y = .string z)
    {l : List Value} (hB : CL w b l) (hl : off < l.length) (h : ∀ w1, CL w1 b (l.set off (.string z)) → Keeps (fun k => k = b) w w1 → w1.heap.size = w.heap.size → wpList Tryz.prog ops Q rest a w1) : wpList Tryz.prog ops Q (o :: rest) a w :=
  wpList_plain hgd fun _ hK => by
    unfold Oper.wp execOp
    simp only [ho, hx, hy, Instr.storeAt, Instr.sureAddr, Sem.run_bind, Sem.run_pure, Result.andThen_ok, run_store_str (by rw [hB.c off _ (List.getElem?_eq_getElem hl)]; rfl) (hB.z off hl) z]
    refine hK _ _ ?_
    have e : a.put o.dst undef = a := by rw [hd]; rfl
    rw [e]
    exact h _ (hB.set hl _) ((Keeps.refl (fun k => k = b) w).setCell (p := ⟨b, off, none⟩) (fun _ => rfl) _) (by simp)
def T9 : List St := [.mk 1 [98] (.mk 2 0 [97] []) tr0 [] []]
theorem chk_T9 : chk T9 = 0 := by kernel_rfl
theorem nls_T9 : nls T9 = [[98], [97]] := by kernel_rfl
theorem bg_T9 : bgSL T9 = 3 := by kernel_rfl
set_option maxHeartbeats 4000000 in
set_option maxRecDepth 100000 in
theorem checks_law {w : World} (hG : SG w) (h12 : 12 ≤ w.heap.size) {l : List St} {p : Option Addr} {c : Nat} {xs : List Value} (hR : Rd w p xs) (hI : ISL w l xs) (hA : AllS l) (hb : bgSL l < 1048576) : Calls Tryz.prog 3 #[.slice p l.length c] w fun e w' => e = .returned (.bool true) ∧ Below w.heap.size w w' := by
  have hF := ftSL_of l (by omega)
  have hN := bgSL_len l
  have HFx : Hid (∀ W, Keeps (fun _ => False) w W → Calls Tryz.prog 8 #[] W fun e w' => e = .returned (.bool true) ∧ Keeps (fun _ => False) W w') := fun W k => fixed_ok (hG.keep k (fun _ _ e => e)) (Nat.le_trans h12 k.size)
  have HPg : Hid _ := fun W (k : Keeps (fun _ => False) w W) => pg_all (bgSL l + 1) l (by omega) hF (by omega) W p c xs (hR.keep k) (hI.keep k)
  have HCk : Hid _ := fun W (k : Keeps (fun _ => False) w W) (p : Option Addr) (c : Nat) (xs : List Value) (ho : OwnP W (fun g => g < W.heap.size) 37 12 (.slice p l.length c) l.length xs) (hx : SL W (fun g => g < W.heap.size) 35 37 l xs) => check_any (w := W) (hG.keep k (fun _ _ e => e)) (Nat.le_trans h12 k.size) ho hx (by omega)
  have HNm : Hid _ := fun W (k : Keeps (fun _ => False) w W) (p : Option Addr) (c : Nat) (xs : List Value) (ho : OwnP W (fun g => g < W.heap.size) 37 12 (.slice p l.length c) l.length xs) (hx : SL W (fun g => g < W.heap.size) 35 37 l xs) => (pNames_any (w := W) (hG.keep k (fun _ _ e => e)) (Nat.le_trans h12 k.size) ho hx (by omega)).mono (fun e w' (h : NmR l W e w') => nm_get h)
  have HRn : Hid _ := fun W (k : Keeps (fun _ => False) w W) => (rNames_any (w := W) (c := c) hA hb (hR.keep k) (hI.keep k)).mono (fun e w' (h : NmR l W e w') => nm_get h)
  have HGG : Hid (SG w ∧ 12 ≤ w.heap.size) := ⟨hG, h12⟩
  have hn8 := nls_len l
  clear hG h12 hR hI hA hb hF hN
  obtain ⟨NL, hNL⟩ : ∃ NL, nls l = NL := ⟨_, rfl⟩
  obtain ⟨C, hC⟩ : ∃ C, chk l = C := ⟨_, rfl⟩
  obtain ⟨m0, hm0⟩ : ∃ m, l.length = m := ⟨_, rfl⟩
  simp only [hNL, hC, hm0] at HNm HRn HCk HPg hn8 ⊢
  clear hNL hC hm0
  obtain ⟨n, hn⟩ : ∃ n, NL.length = n := ⟨_, rfl⟩
  simp only [hn] at HNm HRn hn8
  have Hn : Hid (NL.length = n) := hn
  clear hn
  have eC : (C != C) = false := by simp
  have eN : ((n : Int) != (n : Int)) = false := by simp
  go_enter Tryz.func3, Tryz.ntmps3
  refine wp_seq_k (fun KK hKK => ?_)
  have hKH : Hid _ := hKK
  clear hKK
  go_wp2_with fail
  refine hKH.out _ _ ?_
  clear hKH KK
  have hg1 := HPg.out w (Keeps.refl _ w)
  refine wp_seq_k (fun KK hKK => ?_)
  have hKH : Hid _ := hKK
  clear hKK
  go_wp2_with (first | (go_at_call 5; refine hg1.mono ?_; clear hg1; rintro e w1 ⟨p1, c1, x1, rfl, O1, X1, k1⟩; have hc1 := HCk.out w1 k1 p1 c1 x1 (O1.lt.mono (fun _ hg => hg.2)) (X1.lt.mono (fun _ hg => hg.2)); clear O1 X1) | (go_at_call 4; refine hc1.mono ?_; clear hc1; rintro e w2 ⟨rfl, k2⟩))
  refine hKH.out _ _ ?_
  clear hKH KK
  have k02 := k1.trans k2
  clear k1 k2 HCk
  have hg2 := HPg.out w2 k02
  refine wp_seq_k (fun KK hKK => ?_)
  have hKH : Hid _ := hKK
  clear hKK
  go_wp2_with (first | (go_at_call 5; refine hg2.mono ?_; clear hg2; rintro e w3 ⟨p3, c3, x3, rfl, O3, X3, k3⟩; have hc3 := HNm.out w3 (k02.trans k3) p3 c3 x3 (O3.lt.mono (fun _ hg => hg.2)) (X3.lt.mono (fun _ hg => hg.2)); clear O3 X3) | (go_at_call 6; refine hc3.mono ?_; clear hc3; rintro e w4 ⟨pl, cl, rfl, N4, k4⟩))
  refine hKH.out _ _ ?_
  clear hKH KK
  have k04 := (k02.trans k3).trans k4
  have z3 := (k02.trans k3).size
  clear k02 k3 k4
  have hg3 := HRn.out w4 k04
  refine wp_seq_k (fun KK hKK => ?_)
  have hKH : Hid _ := hKK
  clear hKK
  go_wp2_with (go_at_call 7; refine hg3.mono ?_; clear hg3; rintro e w5 ⟨pm, cm, rfl, N5, k5⟩)
  refine hKH.out _ _ ?_
  clear hKH KK HRn
  have k05 := k04.trans k5
  have hx5 := HFx.out w5 k05
  refine wp_seq_k (fun KK hKK => ?_)
  have hKH : Hid _ := hKK
  clear hKK
  go_wp2_with (go_at_call 8; refine hx5.mono ?_; clear hx5; rintro e w6 ⟨rfl, k6⟩)
  refine hKH.out _ _ ?_
  clear hKH KK HFx
  have k06 := k05.trans k6
  have N4' := N4.keep0 (k5.trans k6)
  have N5' := N5.keep0 k6
  have lo4 : ∀ i, i < NL.length → ∀ g, pl = some ⟨g, 0, none⟩ → g < w4.heap.size := fun i hi g e => by
    obtain ⟨g', h1, -, h3, -⟩ := N4.at hi
    rw [h1] at e; injection e with e; injection e with e _ _; omega
  have z5 := k5.size
  have z6 := k6.size
  clear N4 N5 k5 k6 k05 k04
  refine wp_seq_k (fun KK hKK => ?_)
  have hKH : Hid _ := hKK
  clear hKK
  go_wp2_with fail
  go_loopw [8] (fun iv Wr => ∃ k : Nat, iv = .int .i64 (k : Int) ∧ k ≤ n ∧ Keeps (fun _ => False) w6 Wr) (fun iv _ => n + 1 - (intOf iv).toNat)
  case atStart => exact ⟨0, rfl, by omega, Keeps.refl _ _⟩
  case round =>
    obtain ⟨k, rfl, hk1, kR⟩ := hrel
    by_cases hk : k < n
    · have d1 : decide ((k : Int) < (n : Int)) = true := decide_eq_true (by omega)
      have d2 : decide (k < n) = true := decide_eq_true hk
      have i0 : (0 : Int) ≤ (k : Int) := by omega
      have i1 : (k : Int) < (n : Int) := by omega
      have i2 : (k : Int) + 1 ≤ 9223372036854775807 := by omega
      have hkL : k < NL.length := by rw [Hn.out]; exact hk
      obtain ⟨gl, rfl, -, -, Cl⟩ := (N4'.keep0 kR).at hkL
      obtain ⟨gm, rfl, -, -, Cm⟩ := (N5'.keep0 kR).at hkL
      have X1 := ks_cell (Cl.c k (.string (bs NL[k])) (by rw [List.getElem?_map, List.getElem?_eq_getElem hkL]; rfl))
      have X2 := ks_cell (Cm.c k (.string (bs NL[k])) (by rw [List.getElem?_map, List.getElem?_eq_getElem hkL]; rfl))
      generalize bs NL[k] = s at *
      have eS : (s.toList != s.toList) = false := by simp
      have hNE : Nonempty (KS wr) := ⟨⟨wr, Keeps.refl _ wr⟩⟩
      clear Cl Cm hkL
      go_wp2_with fail
      refine wp_region_ks (by kernel_rfl) (by kernel_rfl) ?_
      (repeat (first | go_big_quiet_skip | go_big_quiet_step (fail)))
      refine wpQuiet_nil ?_
      rintro _ ⟨U, rfl⟩
      have ku := U.property
      clear X1 X2 hNE
      generalize U.val = wu at *
      go_wp2_with fail
      go_roundw
      case rel => exact ⟨k + 1, by go_num, by omega, kR.trans ku⟩
      case measure => simp [intOf]; omega
    · obtain rfl : n = k := by omega
      have d1 : decide ((n : Int) < (n : Int)) = false := decide_eq_false (by omega)
      have d2 : decide (n < n) = false := decide_eq_false (by omega)
      go_wp2_with fail
      refine hKH.out _ _ ?_
      clear hKH d1 d2 hk hk1
      have k07 := k06.trans kR
      have N4w := N4'.keep0 kR
      have N5w := N5'.keep0 kR
      have z7 := kR.size
      clear N4' N5' kR k06
      generalize wr = w7 at *
      have hg7 := HPg.out w7 k07
      refine wp_seq_k (fun KK hKK => ?_)
      have hKH : Hid _ := hKK
      clear hKK
      go_wp2_with (first | (go_at_call 5; refine hg7.mono ?_; clear hg7; rintro e w8 ⟨p8, c8, x8, rfl, O8, X8, k8⟩; have hc8 := HNm.out w8 (k07.trans k8) p8 c8 x8 (O8.lt.mono (fun _ hg => hg.2)) (X8.lt.mono (fun _ hg => hg.2)); clear O8 X8) | (go_at_call 6; refine hc8.mono ?_; clear hc8; rintro e w9 ⟨pa, ca, rfl, N9, k9⟩))
      refine hKH.out _ _ ?_
      clear hKH
      have k79 := k8.trans k9
      have k09 := k07.trans k79
      have N4v := N4w.keep0 k79
      have N5v := N5w.keep0 k79
      have z8 := k8.size
      have z9 := k9.size
      clear N4w N5w k8 k9 k79 k07 HPg HNm
      refine wp_seq_k (fun K9 hK9 => ?_)
      have hKJ : Hid _ := hK9
      clear hK9
      go_wp2_with fail
      go_loopw [11] (fun iv Wr => ∃ k : Nat, iv = .int .i64 (k : Int) ∧ k ≤ n ∧ Keeps (fun i => w3.heap.size ≤ i ∧ i < w4.heap.size) w9 Wr ∧ (∀ g, pl = some ⟨g, 0, none⟩ → 0 < n → ∃ L, L.length = n ∧ CL Wr g L)) (fun iv _ => n + 1 - (intOf iv).toNat)
      case atStart =>
        refine ⟨0, rfl, by omega, Keeps.refl _ _, fun g e h0 => ?_⟩
        obtain ⟨g', h1, -, -, h4⟩ := N4v.at (i := 0) (by rw [Hn.out]; exact h0)
        rw [h1] at e; injection e with e; injection e with e _ _; subst e
        exact ⟨_, by rw [List.length_map]; exact Hn.out, h4⟩
      case round =>
        obtain ⟨k, rfl, hk1, kR, HC⟩ := hrel
        by_cases hk : k < n
        · have d1 : decide ((k : Int) < (n : Int)) = true := decide_eq_true (by omega)
          have d2 : decide (k < n) = true := decide_eq_true hk
          have i0 : (0 : Int) ≤ (k : Int) := by omega
          have i1 : (k : Int) < (n : Int) := by omega
          have i2 : (k : Int) + 1 ≤ 9223372036854775807 := by omega
          have hkL : k < NL.length := by rw [Hn.out]; exact hk
          obtain ⟨gl, e1, lo1, -, -⟩ := N4v.at hkL
          have hi1 := lo4 k hkL gl e1
          obtain ⟨L, hLn, CL1⟩ := HC gl e1 (by omega)
          have HC2 : Hid (∀ g, pl = some ⟨g, 0, none⟩ → g = gl) := fun g e => by rw [e1] at e; injection e with e; injection e with e _ _; exact e.symm
          clear HC hkL
          subst e1
          go_wp2_with (refine wpList_store_str rfl rfl _ _ rfl gl k rfl _ rfl CL1 (by rw [hLn]; exact hk) ?_; intro v1 cv kv zv)
          go_roundw
          case rel => exact ⟨k + 1, by go_num, by omega, kR.trans (kv.mono (fun i _ e => by have e : i = gl := e; omega)), fun g e _ => by obtain rfl := HC2.out g e; exact ⟨_, by rw [List.length_set]; exact hLn, cv⟩⟩
          case measure => simp [intOf]; omega
        · obtain rfl : n = k := by omega
          have d1 : decide ((n : Int) < (n : Int)) = false := decide_eq_false (by omega)
          have d2 : decide (n < n) = false := decide_eq_false (by omega)
          go_wp2_with fail
          refine hKJ.out _ _ ?_
          clear hKJ d1 d2 hk hk1 HC
          have N5u := N5v.keep kR (fun i h1 h2 e => by omega)
          have N9u := N9.keep kR (fun i h1 h2 e => by omega)
          have K0 : Keeps (fun i => w.heap.size ≤ i) w wr := k09.trans' kR (fun _ _ e => e.elim) (fun i hi e => by omega)
          clear N5v N9 N4v kR k09 lo4
          generalize wr = wA at *
          refine wp_seq_k (fun KB hKB => ?_)
          have hKL : Hid _ := hKB
          clear hKB
          go_wp2_with fail
          go_loopw [12] (fun iv Wr => ∃ j : Nat, iv = .int .i64 (j : Int) ∧ j ≤ n ∧ Keeps (fun _ => False) wA Wr) (fun iv _ => n + 1 - (intOf iv).toNat)
          case atStart => exact ⟨0, rfl, by omega, Keeps.refl _ _⟩
          case round =>
            obtain ⟨j, rfl, hj1, kR⟩ := hrel
            by_cases hj : j < n
            · have d1 : decide ((j : Int) < (n : Int)) = true := decide_eq_true (by omega)
              have d2 : decide (j < n) = true := decide_eq_true hj
              have i0 : (0 : Int) ≤ (j : Int) := by omega
              have i1 : (j : Int) < (n : Int) := by omega
              have i2 : (j : Int) + 1 ≤ 9223372036854775807 := by omega
              have hjL : j < NL.length := by rw [Hn.out]; exact hj
              obtain ⟨ga, rfl, -, -, Ca⟩ := (N9u.keep0 kR).at hjL
              obtain ⟨gm, rfl, -, -, Cm⟩ := (N5u.keep0 kR).at hjL
              have X1 := ks_cell (Ca.c j (.string (bs NL[j])) (by rw [List.getElem?_map, List.getElem?_eq_getElem hjL]; rfl))
              have X2 := ks_cell (Cm.c j (.string (bs NL[j])) (by rw [List.getElem?_map, List.getElem?_eq_getElem hjL]; rfl))
              generalize bs NL[j] = s at *
              have eS : (s.toList != s.toList) = false := by simp
              have hNE : Nonempty (KS wr) := ⟨⟨wr, Keeps.refl _ wr⟩⟩
              clear Ca Cm hjL
              go_wp2_with fail
              refine wp_region_ks (by kernel_rfl) (by kernel_rfl) ?_
              (repeat (first | go_big_quiet_skip | go_big_quiet_step (fail)))
              refine wpQuiet_nil ?_
              rintro _ ⟨U, rfl⟩
              have ku := U.property
              clear X1 X2 hNE
              generalize U.val = wu at *
              go_wp2_with fail
              go_roundw
              case rel => exact ⟨j + 1, by go_num, by omega, kR.trans ku⟩
              case measure => simp [intOf]; omega
            · obtain rfl : n = j := by omega
              have d1 : decide ((n : Int) < (n : Int)) = false := decide_eq_false (by omega)
              have d2 : decide (n < n) = false := decide_eq_false (by omega)
              go_wp2_with fail
              refine hKL.out _ _ ?_
              clear hKL d1 d2 hj hj1
              have KA : Keeps (fun i => w.heap.size ≤ i) w wr := K0.trans (kR.mono (fun _ _ e => e.elim))
              clear N5u N9u K0 kR
              generalize wr = wC at *
              obtain ⟨wD, hD⟩ : ∃ wD, wD = wC.alloc (.cells #[.int .i64 2, .int .i64 0, .string ⟨#[97]⟩, .slice none 0 0] 35) := ⟨_, rfl⟩
              obtain ⟨Vb, hVb⟩ : ∃ Vb, Vb = wC.alloc (.cells #[.int .i64 1, .string ⟨#[98]⟩, .int .i64 2, .int .i64 0, .string ⟨#[97]⟩, .slice none 0 0, .int .i64 0, .int .i64 0, .string ⟨#[]⟩, .slice none 0 0, .slice none 0 0, .slice none 0 0] 37) := ⟨_, rfl⟩
              have kVb : Keeps (fun _ => False) wC Vb := by rw [hVb]; exact (Keeps.refl _ wC).alloc _
              have oVb : OwnP Vb (fun _ => True) 37 12 (.slice (some ⟨wC.heap.size, 0, none⟩) 1 1) 1 [.int .i64 1, .string ⟨#[98]⟩, .int .i64 2, .int .i64 0, .string ⟨#[97]⟩, .slice none 0 0, .int .i64 0, .int .i64 0, .string ⟨#[]⟩, .slice none 0 0, .slice none 0 0, .slice none 0 0] := by rw [hVb]; exact ⟨own_lit wC _ _ _ _ rfl (by decide), fun _ _ => trivial⟩
              have xVb : SL Vb (fun _ => True) 35 37 T9 [.int .i64 1, .string ⟨#[98]⟩, .int .i64 2, .int .i64 0, .string ⟨#[97]⟩, .slice none 0 0, .int .i64 0, .int .i64 0, .string ⟨#[]⟩, .slice none 0 0, .slice none 0 0, .slice none 0 0] := SL.snoc (SC.join (w := Vb) (P := fun _ => True) (k := 1) (wd := [98]) (th := []) (el := []) i64d (by decide) (TC.leafF (wd := [97]) i64d i64d (by decide)) (tr0_cells _ _ _) (ownP_nil _ _ _ _) (SL.nil _ _ _ _) (ownP_nil _ _ _ _) (SL.nil _ _ _ _)) (SL.nil Vb (fun _ => True) 35 37)
              have KVb : Keeps (fun i => w.heap.size ≤ i) w Vb := KA.trans (kVb.mono (fun _ _ e => e.elim))
              have gVb := HGG.out.1.keep KVb (fun i hi e => by have e : w.heap.size ≤ i := e; have := HGG.out.2; omega)
              have hC9 := (pNames_any (w := Vb) (ps := T9) gVb (Nat.le_trans HGG.out.2 KVb.size) (oVb.lt.mono (fun g hg => hg.2)) (xVb.lt.mono (fun g hg => hg.2)) (by rw [bg_T9]; decide)).mono (fun e w' (h : NmR T9 Vb e w') => nm_get h)
              rw [nls_T9, chk_T9] at hC9
              refine wp_seq_k (fun KD hKD => ?_)
              have hKM : Hid _ := hKD
              clear hKD wD hD
              go_wp2_with (first | (refine wpList_build1L uSt inSt (by decide) (by decide) rfl _  rfl [.int .i64 1, .string ⟨#[98]⟩, .int .i64 2, .int .i64 0, .string ⟨#[97]⟩, .slice none 0 0, .int .i64 0, .int .i64 0, .string ⟨#[]⟩, .slice none 0 0, .slice none 0 0, .slice none 0 0] rfl rfl ?_; (try simp only [Act.put, List.setIfInBounds_toArray, List.set_cons_zero, List.set_cons_succ])) | (go_at_call 6; rw [← hVb]; refine hC9.mono ?_; clear hC9; rintro e wE ⟨pn, cn, rfl, NE, kE⟩))
              refine hKM.out _ _ ?_
              clear hKM
              have KE : Keeps (fun i => w.heap.size ≤ i) w wE := KVb.trans (kE.mono (fun _ _ e => e.elim))
              obtain ⟨gn, rfl, -, -, Cn⟩ := NE.at (i := 0) (by decide)
              have y0 : wE.cell? ⟨gn, 0, none⟩ = some (.string ⟨#[98]⟩) := Cn.c 0 _ rfl
              have y1 : wE.cell? ⟨gn, 1, none⟩ = some (.string ⟨#[97]⟩) := Cn.c 1 _ rfl
              clear hVb kVb oVb xVb KVb gVb kE NE Cn KA
              go_wp2_with fail
              go_ret
              exact ⟨rfl, KE.below (Nat.le_refl _) (fun i hi e => by have e : w.heap.size ≤ i := e; omega)⟩
end Go.Proofs.YtehblpbefkopbaaGreatDoor
