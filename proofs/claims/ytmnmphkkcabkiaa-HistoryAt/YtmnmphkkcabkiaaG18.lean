import Derived.Test.YtmnmphkkcabkiaaG17
import Derived.Test.YtmnmphkkcabkiaaG15
import Derived.Test.YtmnmphkkcabkiaaG14
namespace Go.Proofs.Ytmnmphkkcabkiaa
open Go.RowKit
attribute [local go_sem] Oper.semAt_some run_store_nf run_store_f
theorem stamp_step {l : List Rw} (h : fstP l 0 (f0 6) = none) {k i : Nat} (hk : k < l.length) (hi : i < (txK l k).1.length) : ((txK l (k + 1)).1.getD i tv0).stamp = ((txK l k).1.getD i tv0).stamp := by
  have hro := txK_ro h hk
  show ((stT (txK l k) (l.getD k rw0)).1.getD i tv0).stamp = _
  generalize l.getD k rw0 = r at *
  generalize txK l k = s at *
  unfold stT
  by_cases h1 : r.kind = 1
  · rw [if_pos h1]
    dsimp only
    rw [getD_app_left hi]
  rw [if_neg h1]
  by_cases h2 : r.kind = 2
  · rw [if_pos h2]
    dsimp only
    rw [getD_app_left hi]
  rw [if_neg h2]
  by_cases hof : ofD r.kind = true
  · rw [if_pos hof]
    dsimp only
    have hno := hro.o hof
    by_cases e : i = (r.no - 1).toNat
    · subst e
      rw [getD_set_eq (by omega), addD_stamp]
    · rw [getD_set_ne e]
  · rw [if_neg hof]
theorem stamp_stays {l : List Rw} (h : fstP l 0 (f0 6) = none) {k i : Nat} (hi : i < (txK l k).1.length) : ∀ d, k + d ≤ l.length → ((txK l (k + d)).1.getD i tv0).stamp = ((txK l k).1.getD i tv0).stamp
  | 0, _ => rfl
  | d + 1, hd => by
    have ih := stamp_stays h hi d (by omega)
    have hm := txK_mono l k d
    have := stamp_step h (k := k + d) (i := i) (by omega) (by omega)
    rw [← ih, ← this]
    rfl
theorem txD_stamp {l : List Rw} (h : fstP l 0 (f0 6) = none) {k th : Nat} (hk : k < l.length) (ht : th < 6) (hl : fAt l k (th * 5) ≠ 0) : ((txD l).getD (fAt l k (th * 5 + 3) - 1).toNat tv0).stamp = (txK l k).2 th ∧ (fAt l k (th * 5 + 3) - 1).toNat < (txD l).length ∧ 1 ≤ fAt l k (th * 5 + 3) := by
  have hb := (txK_vi h k (by omega)).t th ht hl
  have hs := stamp_inv h k (by omega) th ht hl
  have hlen : (txD l).length = (txK l l.length).1.length := rlK_len _ _ _
  have hm := txK_mono l k (l.length - k)
  rw [show k + (l.length - k) = l.length by omega] at hm
  have e2 := stamp_stays h (k := k) (i := (fAt l k (th * 5 + 3) - 1).toNat) (by omega) (l.length - k) (by omega)
  rw [show k + (l.length - k) = l.length by omega] at e2
  have e3 : (txD l).getD (fAt l k (th * 5 + 3) - 1).toNat tv0 = _ := rlK_saws (ts := (txK l l.length).1) (n := l.length) (fun k hk h4 => rel_entry h k hk h4) l.length (Nat.le_refl _) (fAt l k (th * 5 + 3) - 1).toNat (by omega)
  refine ⟨?_, by omega, hb.1⟩
  rw [e3]
  dsimp only
  rw [e2, hs]
theorem f30_le {l : List Rw} (h : fstP l 0 (f0 6) = none) : ∀ k, k ≤ l.length → 0 ≤ fAt l k 30 ∧ fAt l k 30 ≤ (k : Int)
  | 0, _ => ⟨by show 0 ≤ f0 6 30; unfold f0; decide, by show f0 6 30 ≤ 0; unfold f0; decide⟩
  | k + 1, hk => by
    have ih := f30_le h k (by omega)
    cases os_row h (show k < l.length by omega) with
    | idle _ _ _ _ hn => omega
    | beg _ _ _ _ _ _ _ _ _ _ _ hn => omega
    | fin _ _ _ _ _ _ _ _ _ _ hn => omega
theorem uBl : Try.prog.underlying 75 = some (.slice 4) := by kernel_rfl
theorem bls_succ (st : Nat → Bool) (n : Nat) : bls st (n + 1) = bls st n ++ [.bool (st n)] := by
  unfold bls
  rw [List.range_succ, List.map_append]
  rfl
theorem bls_congr {st st' : Nat → Bool} {n : Nat} (h : ∀ i, i < n → st i = st' i) : bls st n = bls st' n := by
  unfold bls
  exact List.map_congr_left (fun i hi => by rw [h i (List.mem_range.1 hi)])
set_option maxHeartbeats 1000000 in
set_option maxRecDepth 100000 in
theorem rold_no {w : World} {a : Option Addr} {cap i : Nat} {s : Int} {l : List Rw} (hl : RSL w a l) (hlen : l.length ≤ 980000000000) (hf : fstP l 0 (f0 6) = some i) : Calls Try.prog 17 #[.slice a l.length cap, .int .i64 s] w fun e w' => e = .returned (.tuple #[.int .i64 0, .int .i64 150]) ∧ Keeps (fun _ => False) w w' := by
  have hck := rtxs_no (cap := cap) hl hlen hf
  clear hl hf
  generalize l.length = N at *
  go_enter Try.func17, Try.ntmps17
  go_wp2_with (go_at_call 19; refine hck.mono ?_; clear hck; rintro e w1 ⟨rfl, k1⟩)
  go_ret2
  exact ⟨rfl, k1⟩
set_option maxHeartbeats 1000000 in
set_option maxRecDepth 100000 in
theorem rold_when {w : World} {a : Option Addr} {cap : Nat} {s : Int} {l : List Rw} (hl : RSL w a l) (hlen : l.length ≤ 980000000000) (hf : fstP l 0 (f0 6) = none) (hs : s < -1 ∨ (l.length : Int) ≤ s) : Calls Try.prog 17 #[.slice a l.length cap, .int .i64 s] w fun e w' => e = .returned (.tuple #[.int .i64 0, .int .i64 151]) ∧ Keeps (fun _ => False) w w' := by
  have hck := rtxs_ok (cap := cap) hl hlen hf
  clear hl hf
  generalize l.length = N at *
  by_cases h1 : s < -1
  · have m1 : decide (s < -1) = true := decide_eq_true h1
    go_enter Try.func17, Try.ntmps17
    go_wp2_with (go_at_call 19; refine hck.mono ?_; clear hck; rintro e w1 ⟨_, lv, _, _, _, rfl, -, -, k1⟩)
    go_ret2
    exact ⟨rfl, k1⟩
  · have m1 : decide (s < -1) = false := decide_eq_false h1
    have m2 : decide ((N : Int) ≤ s) = true := decide_eq_true (by omega)
    have m3 : (N : Int) ≤ s := by omega
    go_enter Try.func17, Try.ntmps17
    go_wp2_with (go_at_call 19; refine hck.mono ?_; clear hck; rintro e w1 ⟨_, lv, _, _, _, rfl, -, -, k1⟩)
    go_ret2
    exact ⟨rfl, k1⟩
set_option maxHeartbeats 1000000 in
set_option maxRecDepth 100000 in
theorem rold_ok {w : World} {a : Option Addr} {cap K : Nat} {s : Int} {l : List Rw} (hl : RSL w a l) (hlen : l.length ≤ 980000000000) (hf : fstP l 0 (f0 6) = none) (hs : -1 ≤ s ∧ s < (l.length : Int)) (hK : s + 1 = (K : Int)) :
    Calls Try.prog 17 #[.slice a l.length cap, .int .i64 s] w fun e w' => e = .returned (.tuple #[.int .i64 (oldS (fAt l K) (txK l K).2 (fAt l K 30).toNat), .int .i64 0]) ∧ Keeps (fun _ => False) w w' := by
  have hck := rtxs_ok (cap := cap) hl hlen hf
  have m1 : decide (s < -1) = false := decide_eq_false (by omega)
  have m2 : decide ((l.length : Int) ≤ s) = false := decide_eq_false (by omega)
  have HTL : Hid ((txD l).length ≤ l.length) := by
    show _ ≤ _
    have : (txD l).length = (txK l l.length).1.length := rlK_len _ _ _
    have := txK_le l l.length
    omega
  have HTS : Hid (∀ k th, k < l.length → th < 6 → fAt l k (th * 5) ≠ 0 → ((txD l).getD (fAt l k (th * 5 + 3) - 1).toNat tv0).stamp = (txK l k).2 th ∧ (fAt l k (th * 5 + 3) - 1).toNat < (txD l).length ∧ 1 ≤ fAt l k (th * 5 + 3)) := fun k th hk ht h => txD_stamp hf hk ht h
  have HOI : Hid (∀ k, k ≤ l.length → OI (fAt l k) (txK l k).2) := oi_inv hf
  have HOS : Hid (∀ k, k < l.length → OS (fAt l k) (txK l k).2 (fAt l (k + 1)) (txK l (k + 1)).2 (l.getD k rw0)) := fun k hk => os_row hf hk
  have H30 : Hid (∀ k, k ≤ l.length → 0 ≤ fAt l k 30 ∧ fAt l k 30 ≤ (k : Int)) := f30_le hf
  have HL : Hid (RSL w a l) := hl
  clear hl hf
  generalize txD l = ts at *
  generalize hN : l.length = N at *
  go_enter Try.func17, Try.ntmps17
  go_wp2_with (go_at_call 19; refine hck.mono ?_; clear hck; rintro e w1 ⟨bT, lv, sv, wv, ρ, rfl, -, hT, k1⟩; obtain ⟨al, cl, rfl⟩ := hT.sl)
  have HT : Hid (TL bT w1 (.slice al ts.length cl) ts sv wv ρ N) := hT
  have z1 := k1.size
  have h00 : (fAt l 0 30).toNat = 0 := by show (f0 6 30).toNat = 0; unfold f0; decide
  clear hT
  go_loopw [8, 9] (fun ov kv Wr => ∃ (k : Nat), kv = .int .i64 (k : Int) ∧ k ≤ K ∧ Wr.ownsRow w1.heap.size 4 1 ov (fAt l k 30).toNat (bls (opS (fAt l k) (txK l k).2) (fAt l k 30).toNat) ∧ Keeps (fun _ => False) w Wr ∧ Keeps (fun b => w1.heap.size ≤ b) w1 Wr) (fun _ kv _ => K - (intOf kv).toNat)
  case atStart => exact ⟨0, rfl, Nat.zero_le _, by rw [h00]; exact World.ownsRow_nil _ _ _ _, k1, (Keeps.refl _ _)⟩
  case round =>
    obtain ⟨k, rfl, hk, hO, kr, kt⟩ := hrel
    clear k1 h00
    by_cases hlt : k < K
    · have l1 : decide ((k : Int) ≤ s) = true := decide_eq_true (by omega)
      have l0 : (0 : Int) ≤ (k : Int) := by omega
      have l2 : (k : Int) < (N : Int) := by omega
      have hwk : IntKind.i64.wrap ((k : Int) + 1) = (k : Int) + 1 := by rw [IntKind.wrap_i64]; omega
      obtain ⟨b, off, rfl, hc⟩ := HL.out k (by omega)
      have hR := run_rwAt (W := wr) (fun j v e => kr.cell (hc j v e) (fun e => e))
      have hos := HOS.out k (by omega)
      have hoi := HOI.out k (by omega)
      have h30 := H30.out k (by omega)
      have hts := HTS.out k
      clear hc
      generalize l.getD k rw0 = r at *
      obtain ⟨nb, hnb⟩ : ∃ nb : Nat, fAt l k 30 = (nb : Int) := ⟨(fAt l k 30).toNat, by omega⟩
      rw [hnb, show ((nb : Int)).toNat = nb by omega] at hO
      obtain ⟨W4, hW4⟩ : ∃ W4, W4 = wr.alloc (.cells rw0.cells.toArray 50) := ⟨_, rfl⟩
      have k4 : Keeps (fun _ => False) wr W4 := by rw [hW4]; exact (Keeps.refl _ wr).alloc _
      have hU4 : CL W4 wr.heap.size rw0.cells := by rw [hW4]; exact CL.made wr rw0.cells _
      have HW4 : Hid (W4 = wr.alloc (.cells rw0.cells.toArray 50)) := hW4
      have hOC := all_oneCell_rw r
      have hdc := fun W => outcome_any (w := W) r.fin
      have zt := kt.size
      clear hW4
      unfold rw0 Rw.cells at HW4
      dsimp only at HW4
      obtain ⟨ao, co, rfl, -⟩ := own_slice hO
      cases hos with
      | idle hk1 hd h1 hg hn =>
        have e1 : (r.kind == 1) = false := by simp [hk1]
        have e3 : bls (opS (fAt l (k + 1)) (txK l (k + 1)).2) nb = bls (opS (fAt l k) (txK l k).2) nb := bls_congr (fun i _ => opS_idle h1 hg)
        rw [hd] at hdc
        have HO2 : Hid (wr.ownsRow w1.heap.size 4 1 (.slice ao nb co) (fAt l (k + 1) 30).toNat (bls (opS (fAt l (k + 1)) (txK l (k + 1)).2) (fAt l (k + 1) 30).toNat)) := by
          rw [hn, hnb, show ((nb : Int)).toNat = nb by omega, e3]
          exact hO
        clear h1 hg hk1 hd hn hnb e3 hO
        go_wp2_with (first | (refine wpList_load_run rfl 50 _ rfl ⟨b, off + k * 26, none⟩ rfl _ hR ?_; clear hR) | (rw [← HW4.out]; clear HW4; refine wpList_store_cl rfl 50 _ _ rfl wr.heap.size 0 26 _ rfl rfl rfl hU4 (by show 26 ≤ 26; decide) iRw hOC ?_; intro w5 hc5 k5 hsz5; clear hsz5; have hI5 : CL w5 wr.heap.size r.cells := hc5; clear hc5; have K45 : Keeps (fun _ => False) wr w5 := k4.trans' k5 (fun _ _ e => e) (fun i hi e => (by have e : i = wr.heap.size := e; omega)); have c5 := hI5.c 5 _ rfl; have c25 := hI5.c 25 _ rfl) | (go_at_call 28; refine (hdc _).mono ?_; clear hdc; rintro e w8 ⟨rfl, ew⟩; subst w8))
        go_roundw
        case rel => exact ⟨k + 1, by go_num, by omega, K45.owns HO2.out (fun _ _ e => e), kr.trans K45, kt.trans' K45 (fun _ _ e => e) (fun _ _ e => e.elim)⟩
        case measure => simp [intOf]; omega
      | beg th ht et hk1 hd ho hs1 h1 h2 g1 hg hn =>
        have e1 : (r.kind == 1) = true := by simp [hk1]
        rw [hd] at hdc
        have e3 : bls (opS (fAt l (k + 1)) (txK l (k + 1)).2) (nb + 1) = bls (opS (fAt l k) (txK l k).2) nb ++ [.bool true] := by
          rw [bls_succ, opS_beg ht ho h1 h2 (by rw [g1, hs1]) hg, if_pos (by rw [hnb])]
          rw [bls_congr (fun i hi => by rw [opS_beg (s := i) ht ho h1 h2 (by rw [g1, hs1]) hg, if_neg (by rw [hnb]; omega)])]
        have HAP : Hid (∀ W, Keeps (fun _ => False) wr W → ∃ a' c' W', (Builtin.append_ #[75, 75] 75 #[.slice ao nb co, .slice (some ⟨W.heap.size, 0, none⟩) 1 1]).run Try.prog (W.alloc (.cells #[.bool true] 4)) = .ok (.slice a' (nb + 1) c') W' ∧ W'.ownsRow w1.heap.size 4 1 (.slice a' (nb + 1) c') (fAt l (k + 1) 30).toNat (bls (opS (fAt l (k + 1)) (txK l (k + 1)).2) (fAt l (k + 1) 30).toNat) ∧ Keeps (fun i => (Value.slice ao nb co).ownBlock = some i) W W') := fun W kW => by
          have hz := kW.size
          obtain ⟨v', W', q1, q2, q3, -⟩ := append_sz uBl bInfo rfl (by decide) (kW.owns hO (fun _ _ e => e)) (by omega) (by decide) (by omega) [.bool true] rfl (fun u hu => by simp at hu; rw [hu]; rfl)
          obtain ⟨a', c', ev, -⟩ := own_slice q2
          subst ev
          refine ⟨a', c', W', q1, ?_, q3⟩
          rw [hn, hnb, show ((nb : Int) + 1).toNat = nb + 1 by omega, e3]
          exact q2
        have hob : ∀ i, (Value.slice ao nb co).ownBlock = some i → w1.heap.size ≤ i ∧ i < wr.heap.size := fun i e => ⟨owns_baseT hO i e, owns_lt' hO i e⟩
        clear h1 h2 hg hk1 hd hn hnb e3 hO et ho hs1 g1
        go_wp2_with (first | (refine wpList_load_run rfl 50 _ rfl ⟨b, off + k * 26, none⟩ rfl _ hR ?_; clear hR) | (rw [← HW4.out]; clear HW4; refine wpList_store_cl rfl 50 _ _ rfl wr.heap.size 0 26 _ rfl rfl rfl hU4 (by show 26 ≤ 26; decide) iRw hOC ?_; intro w5 hc5 k5 hsz5; clear hsz5; have hI5 : CL w5 wr.heap.size r.cells := hc5; clear hc5; have K45 : Keeps (fun _ => False) wr w5 := k4.trans' k5 (fun _ _ e => e) (fun i hi e => (by have e : i = wr.heap.size := e; omega)); have c5 := hI5.c 5 _ rfl; have c25 := hI5.c 25 _ rfl; obtain ⟨a', c', W', hr', hO9, k9⟩ := HAP.out w5 K45; clear HAP; have c25 := k9.cell c25 (fun e => by have := hob wr.heap.size e; omega)) | (at_builtin; refine wpList_append_t rfl _ _ _ rfl _ _ _ W' rfl rfl hr' ?_; clear hr') | (go_at_call 28; refine (hdc _).mono ?_; clear hdc; rintro e w8 ⟨rfl, ew⟩; subst w8))
        have K9 : Keeps (fun _ => False) w W' := (kr.trans K45).trans' k9 (fun _ _ e => e) (fun i hi e => by have := hob i e; omega)
        go_roundw
        case rel => exact ⟨k + 1, by go_num, by omega, hO9, K9, (kt.trans' K45 (fun _ _ e => e) (fun _ _ e => e.elim)).trans' k9 (fun _ _ e => e) (fun i _ e => (hob i e).1)⟩
        case measure => simp [intOf]; omega
      | fin th ht et hk1 hd ho hno h1 h2 hg hn =>
        have e1 : (r.kind == 1) = false := by simp [hk1]
        rw [hd] at hdc
        obtain ⟨q1, q2, q3⟩ := hts th (by omega) ht (by rcases OPn_iff.1 ho with e | e <;> rw [e] <;> decide)
        obtain ⟨i0, en⟩ : ∃ i0 : Nat, r.no = (i0 : Int) + 1 := ⟨(r.no - 1).toNat, by omega⟩
        rw [← hno, en, show ((i0 : Int) + 1 - 1).toNat = i0 by omega] at q1 q2
        have hgb := hoi.b th ht ho
        obtain ⟨si, es⟩ : ∃ si : Nat, (txK l k).2 th = (si : Int) := ⟨((txK l k).2 th).toNat, by omega⟩
        have hsi : si < nb := by omega
        rw [es] at q1
        have hTL := HTL.out
        have n1 : (0 : Int) ≤ (i0 : Int) := by omega
        have n2 : (i0 : Int) < (ts.length : Int) := by omega
        have hw : IntKind.i64.wrap ((i0 : Int) + 1 - 1) = (i0 : Int) := by rw [IntKind.wrap_i64]; omega
        have hw2 : IntKind.i64.wrap (i0 : Int) = (i0 : Int) := by rw [IntKind.wrap_i64]; omega
        have s1 : (0 : Int) ≤ (si : Int) := by omega
        have s2 : (si : Int) < (nb : Int) := by omega
        obtain ⟨g6, rfl⟩ : ∃ g6, al = some ⟨g6, 0, none⟩ := by
          rcases HT.out.o.2 with ⟨_, h0⟩ | ⟨g', _, _, e, _⟩
          · omega
          · injection e with e _ _
            exact ⟨g', e⟩
        obtain ⟨go, rfl⟩ : ∃ go, ao = some ⟨go, 0, none⟩ := by
          rcases hO.2 with ⟨_, h0⟩ | ⟨g', _, _, e, _⟩
          · omega
          · injection e with e _ _
            exact ⟨g', e⟩
        have hlt6 := owns_lt' HT.out.o g6 rfl
        have x4 := kt.cell ((own_cl HT.out.o).c _ _ (gcl_get (c := fun i => (ts.getD i tv0).cells (sv i) (wv i)) (fun _ _ => rfl) q2 4 (.int .i64 (si : Int)) (by rw [← q1]; rfl))) (fun e => by have e : w1.heap.size ≤ g6 := e; omega)
        have hgo := owns_baseT hO go rfl
        have hgl := owns_lt' hO go rfl
        have hcS := (own_cl hO).c si _ (bls_get hsi)
        have hzS := (own_cl hO).z si (by rw [bls_len]; exact hsi)
        have e3 : bls (fun j => if j = si then false else opS (fAt l k) (txK l k).2 j) nb = bls (opS (fAt l (k + 1)) (txK l (k + 1)).2) nb := bls_congr (fun i _ => by
          rw [opS_fin (s := i) hoi ht ho h1 h2 hg, es]
          by_cases e : i = si
          · rw [if_pos e, if_pos (by omega)]
          · rw [if_neg e, if_neg (by omega)])
        have HO2 : Hid (∀ W, Keeps (fun _ => False) wr W → (W.setCell ⟨go, si, none⟩ (.bool false)).ownsRow w1.heap.size 4 1 (.slice (some ⟨go, 0, none⟩) nb co) (fAt l (k + 1) 30).toNat (bls (opS (fAt l (k + 1)) (txK l (k + 1)).2) (fAt l (k + 1) 30).toNat)) := fun W kW => by
          have q := ((kW.owns hO (fun _ _ e => e)).stored si (.bool false)).1
          rw [bls_set, e3] at q
          rw [hn, hnb, show ((nb : Int)).toNat = nb by omega]
          exact q
        have HEN : Hid (r.no = (i0 : Int) + 1) := en
        clear h1 h2 hg hk1 hd hn hnb e3 hO et ho hno q1 q2 q3 en es hgb
        generalize opS (fAt l k) (txK l k).2 si = ob at hcS
        go_wp2_with (first | (refine wpList_load_run rfl 50 _ rfl ⟨b, off + k * 26, none⟩ rfl _ hR ?_; clear hR) | (rw [← HW4.out]; clear HW4; refine wpList_store_cl rfl 50 _ _ rfl wr.heap.size 0 26 _ rfl rfl rfl hU4 (by show 26 ≤ 26; decide) iRw hOC ?_; intro w5 hc5 k5 hsz5; clear hsz5; have hI5 : CL w5 wr.heap.size r.cells := hc5; clear hc5; have K45 : Keeps (fun _ => False) wr w5 := k4.trans' k5 (fun _ _ e => e) (fun i hi e => (by have e : i = wr.heap.size := e; omega)); have c5 := hI5.c 5 _ rfl; have c25 := hI5.c 25 _ rfl; have c4 := hI5.c 4 _ rfl; rw [HEN.out] at c4; have x4 := K45.cell x4 (fun e => e); have hcS := K45.cell hcS (fun e => e); have hzS := (K45.frozen (p := ⟨go, si, none⟩) hgl (fun e => e)).trans hzS) | (go_at_call 28; refine (hdc _).mono ?_; clear hdc; rintro e w8 ⟨rfl, ew⟩; subst w8))
        have k9 : Keeps (fun i => i = go) w5 (w5.setCell ⟨go, si, none⟩ (.bool false)) := (Keeps.refl (fun i => i = go) w5).setCell (p := ⟨go, si, none⟩) (fun _ => rfl) _
        have K9 : Keeps (fun _ => False) w (w5.setCell ⟨go, si, none⟩ (.bool false)) := (kr.trans K45).trans' k9 (fun _ _ e => e) (fun i hi e => by have e : i = go := e; omega)
        go_roundw
        case rel => exact ⟨k + 1, by go_num, by omega, HO2.out w5 K45, K9, (kt.trans' K45 (fun _ _ e => e) (fun _ _ e => e.elim)).trans' k9 (fun _ _ e => e) (fun i _ e => by have e : i = go := e; show w1.heap.size ≤ i; omega)⟩
        case measure => simp [intOf]; omega
    · have l1 : decide ((k : Int) ≤ s) = false := decide_eq_false (by omega)
      obtain rfl : k = K := by omega
      have h30 := H30.out k (by omega)
      obtain ⟨nb, hnb⟩ : ∃ nb : Nat, (fAt l k 30).toNat = nb := ⟨_, rfl⟩
      rw [hnb] at hO
      have hnk : nb ≤ k := by omega
      have HNB : Hid ((fAt l k 30).toNat = nb) := hnb
      obtain ⟨OP9, hOP9⟩ : ∃ OP9, OP9 = opS (fAt l k) (txK l k).2 := ⟨_, rfl⟩
      rw [← hOP9] at hO
      have HOP : Hid (OP9 = opS (fAt l k) (txK l k).2) := hOP9
      clear hOP9 hnb
      obtain ⟨ao, co, rfl, -⟩ := own_slice hO
      go_wp2_with fail
      go_loopw [11] (fun iv Wr => ∃ (i : Nat), iv = .int .i64 (i : Int) ∧ i ≤ nb ∧ (∀ j, j < i → OP9 j = false) ∧ Wr = wr) (fun iv _ => nb - (intOf iv).toNat)
      case atStart => exact ⟨0, rfl, Nat.zero_le _, fun j hj => absurd hj (Nat.not_lt_zero _), rfl⟩
      case round =>
        obtain ⟨i, rfl, hi, hj, rfl⟩ := hrel
        by_cases hin : i < nb
        · have j1 : decide ((i : Int) < (nb : Int)) = true := decide_eq_true (by omega)
          have j2 : decide (i < nb) = true := decide_eq_true hin
          have j3 : (i : Int) < (nb : Int) := by omega
          have j4 : (0 : Int) ≤ (i : Int) := by omega
          have hwi : IntKind.i64.wrap ((i : Int) + 1) = (i : Int) + 1 := by rw [IntKind.wrap_i64]; omega
          obtain ⟨go, rfl⟩ : ∃ go, ao = some ⟨go, 0, none⟩ := by
            rcases hO.2 with ⟨_, h0⟩ | ⟨g', _, _, e, _⟩
            · omega
            · injection e with e _ _
              exact ⟨g', e⟩
          have hcS := (own_cl hO).c i _ (bls_get hin)
          cases hst : OP9 i with
          | true =>
            have e9 : oldS (fAt l k) (txK l k).2 nb = (i : Int) := oldS_found hin (by rw [← HOP.out]; exact hst) (fun j h => by rw [← HOP.out]; exact hj j h)
            rw [hst] at hcS
            have HE9 : Hid (oldS (fAt l k) (txK l k).2 nb = (i : Int)) := e9
            clear e9
            clear hst
            go_wp2_with fail
            go_ret2
            exact ⟨by rw [HNB.out, HE9.out]; rfl, kr⟩
          | false =>
            rw [hst] at hcS
            have hj2 : ∀ j, j < i + 1 → OP9 j = false := fun j h => by
              by_cases e : j = i
              · rw [e]; exact hst
              · exact hj j (by omega)
            clear hst
            go_wp2_with fail
            go_roundw
            case rel => exact ⟨i + 1, by go_num, by omega, hj2, trivial⟩
            case measure => simp [intOf]; omega
        · have j1 : decide ((i : Int) < (nb : Int)) = false := decide_eq_false (by omega)
          have j2 : decide (i < nb) = false := decide_eq_false hin
          obtain rfl : i = nb := by omega
          have e9 : oldS (fAt l k) (txK l k).2 i = -1 := oldS_none (fun j h => by rw [← HOP.out]; exact hj j h)
          have HE9 : Hid (oldS (fAt l k) (txK l k).2 i = -1) := e9
          clear e9
          go_wp2_with fail
          go_ret2
          exact ⟨by rw [HNB.out, HE9.out]; rfl, kr⟩
end Go.Proofs.Ytmnmphkkcabkiaa

namespace Go.Proofs.Ytmnmphkkcabkiaa
open Go.RowKit Go.Shelf
attribute [local go_sem] Oper.semAt_some run_store_nf run_store_f
def moV (f g : Nat → Int) : Int → Option Value := fun x => if 0 ≤ x ∧ x < 6 ∧ OPn f x.toNat = true then some (.int .i64 (g x.toNat)) else none
def b2n (b : Bool) : Nat := if b then 1 else 0
def cntO (f : Nat → Int) : Nat := b2n (OPn f 0) + b2n (OPn f 1) + b2n (OPn f 2) + b2n (OPn f 3) + b2n (OPn f 4) + b2n (OPn f 5)
theorem cntO_idle {f f' : Nat → Int} (h : ∀ q, q < 6 → OPn f' q = OPn f q) : cntO f' = cntO f := by
  unfold cntO
  rw [h 0 (by omega), h 1 (by omega), h 2 (by omega), h 3 (by omega), h 4 (by omega), h 5 (by omega)]
theorem cntO_le (f : Nat → Int) : cntO f ≤ 6 := by
  have : ∀ b, b2n b ≤ 1 := fun b => by cases b <;> decide
  have h0 := this (OPn f 0); have h1 := this (OPn f 1); have h2 := this (OPn f 2); have h3 := this (OPn f 3); have h4 := this (OPn f 4); have h5 := this (OPn f 5)
  unfold cntO
  omega
theorem cntO_turn {f f' : Nat → Int} {th : Nat} (ht : th < 6) (h : ∀ q, q < 6 → q ≠ th → OPn f' q = OPn f q) : cntO f' + b2n (OPn f th) = cntO f + b2n (OPn f' th) := by
  unfold cntO
  rcases (by omega : th = 0 ∨ th = 1 ∨ th = 2 ∨ th = 3 ∨ th = 4 ∨ th = 5) with rfl | rfl | rfl | rfl | rfl | rfl
  · rw [h 1 (by omega) (by omega), h 2 (by omega) (by omega), h 3 (by omega) (by omega), h 4 (by omega) (by omega), h 5 (by omega) (by omega)]
    omega
  · rw [h 0 (by omega) (by omega), h 2 (by omega) (by omega), h 3 (by omega) (by omega), h 4 (by omega) (by omega), h 5 (by omega) (by omega)]
    omega
  · rw [h 0 (by omega) (by omega), h 1 (by omega) (by omega), h 3 (by omega) (by omega), h 4 (by omega) (by omega), h 5 (by omega) (by omega)]
    omega
  · rw [h 0 (by omega) (by omega), h 1 (by omega) (by omega), h 2 (by omega) (by omega), h 4 (by omega) (by omega), h 5 (by omega) (by omega)]
    omega
  · rw [h 0 (by omega) (by omega), h 1 (by omega) (by omega), h 2 (by omega) (by omega), h 3 (by omega) (by omega), h 5 (by omega) (by omega)]
    omega
  · rw [h 0 (by omega) (by omega), h 1 (by omega) (by omega), h 2 (by omega) (by omega), h 3 (by omega) (by omega), h 4 (by omega) (by omega)]
    omega
theorem cntO_zero {f : Nat → Int} (h : cntO f = 0) : ∀ th, th < 6 → OPn f th = false := fun th ht => by
  have hb : ∀ b, b2n b = 0 → b = false := fun b => by cases b <;> decide
  unfold cntO at h
  rcases (by omega : th = 0 ∨ th = 1 ∨ th = 2 ∨ th = 3 ∨ th = 4 ∨ th = 5) with rfl | rfl | rfl | rfl | rfl | rfl <;> exact hb _ (by omega)
theorem cntO_pos {f : Nat → Int} (h : cntO f ≠ 0) : ∃ th, th < 6 ∧ OPn f th = true := by
  refine Classical.byContradiction fun hn => h ?_
  have hz : ∀ th, th < 6 → OPn f th = false := fun th ht => by
    cases e : OPn f th with
    | false => rfl
    | true => exact absurd ⟨th, ht, e⟩ hn
  unfold cntO
  rw [hz 0 (by omega), hz 1 (by omega), hz 2 (by omega), hz 3 (by omega), hz 4 (by omega), hz 5 (by omega)]
  rfl
theorem moV_at {f g : Nat → Int} {th : Nat} (ht : th < 6) : moV f g (th : Int) = if OPn f th = true then some (.int .i64 (g th)) else none := by
  unfold moV
  rw [show ((th : Int)).toNat = th by omega]
  by_cases h : OPn f th = true
  · rw [if_pos h, if_pos ⟨by omega, by omega, h⟩]
  · rw [if_neg h, if_neg (fun e => h e.2.2)]
theorem moV_out {f g : Nat → Int} {x : Int} (h : ¬ (0 ≤ x ∧ x < 6)) : moV f g x = none := if_neg (fun e => h ⟨e.1, e.2.1⟩)
theorem moV_ext {f' g' : Nat → Int} {m : Int → Option Value} (hm : ∀ x, ¬ (0 ≤ x ∧ x < 6) → m x = none) (h : ∀ q : Nat, q < 6 → m (q : Int) = moV f' g' (q : Int)) : m = moV f' g' := funext fun x => by
  by_cases c : 0 ≤ x ∧ x < 6
  · have := h x.toNat (by omega)
    rw [show ((x.toNat : Nat) : Int) = x by omega] at this
    exact this
  · rw [hm x c, moV_out c]
theorem moV_idle {f g f' g' : Nat → Int} (h : ∀ q, q < 6 → OPn f' q = OPn f q) (hg : ∀ q, q < 6 → OPn f q = true → g' q = g q) : moV f g = moV f' g' :=
  moV_ext (fun x c => moV_out c) (fun q hq => by
    rw [moV_at hq, moV_at hq, h q hq]
    by_cases c : OPn f q = true
    · rw [if_pos c, if_pos c, hg q hq c]
    · rw [if_neg c, if_neg c])
theorem moV_beg {f g f' g' : Nat → Int} {th : Nat} {s : Int} (ht : th < 6) (h1 : OPn f' th = true) (h : ∀ q, q < 6 → q ≠ th → OPn f' q = OPn f q) (g1 : g' th = s) (hg : ∀ q, q < 6 → q ≠ th → g' q = g q) : updV (moV f g) (th : Int) (.int .i64 s) = moV f' g' :=
  moV_ext (fun x c => by unfold updV; rw [if_neg (fun e => c (by omega)), moV_out c]) (fun q hq => by
    unfold updV
    by_cases e : q = th
    · subst e
      rw [if_pos rfl, moV_at hq, if_pos h1, g1]
    · rw [if_neg (by omega), moV_at hq, moV_at hq, h q hq e, hg q hq e])
theorem moV_fin {f g f' g' : Nat → Int} {th : Nat} (ht : th < 6) (h1 : OPn f' th = false) (h : ∀ q, q < 6 → q ≠ th → OPn f' q = OPn f q) (hg : ∀ q, q < 6 → g' q = g q) : (fun x => if x = (th : Int) then none else moV f g x) = moV f' g' :=
  moV_ext (fun x c => by rw [if_neg (fun e => c (by omega)), moV_out c]) (fun q hq => by
    by_cases e : q = th
    · subst e
      rw [if_pos rfl, moV_at hq, if_neg (by rw [h1]; decide)]
    · rw [if_neg (by omega), moV_at hq, moV_at hq, h q hq e, hg q hq])
theorem MV.len {w : World} {mb n : Nat} {f : Int → Option Value} (h : MV w mb n f) (ty : TypeId) : (Builtin.len_ #[77] ty #[.map (some mb)]).run Try.prog w = .ok (.int .i64 (n : Int)) w := by
  obtain ⟨D, h1, h2, _⟩ := h
  rw [← h2]
  exact h1.len underO ty
set_option maxHeartbeats 1000000 in
set_option maxRecDepth 100000 in
theorem values_any (w : World) (b : Nat) : Calls Try.prog 32 #[.map (some b)] w fun e w' => e = .returned (.func (.func 45) #[] #[.pointer (some ⟨w.heap.size, 0, none⟩)]) ∧ w' = w.alloc (.cells #[.map (some b)] 77) := by
  go_enter Try.func32, Try.ntmps32
  go_wp2
  go_ret
  exact ⟨rfl, rfl⟩
theorem collect_any {w : World} {Bm b nn : Nat} {m : Int → Option Value} (hBm : Bm < w.heap.size) (hm0 : w.cell? ⟨Bm, 0, none⟩ = some (.map (some b))) (hM : MV w b nn m) (hv : ∀ k, I64 k → ∀ u, m k = some u → ∃ x, u = .int .i64 x) (hn : nn ≤ 1000) : Calls Try.prog 31 #[.func (.func 45) #[] #[.pointer (some ⟨Bm, 0, none⟩)]] w fun e w' => ∃ v xs, e = .returned v ∧ VAll m nn xs ∧ w'.ownsRow w.heap.size 2 1 v xs.length (xs.map encZ) ∧ Keeps (fun _ => False) w w' := by
  have hc := AnyZI.collect_in Try.colV Fence.wide 3 trivial trivial rfl (by omega) 45 #[.pointer (some ⟨Bm, 0, none⟩)] trivial (enters_of Try.func45 (by kernel_rfl) rfl) (VAll m nn) nn (by unfold maxLen; omega) (by omega) w (vals_gives (by omega) hBm hm0 hM hv)
  change CallsIn _ _ Try.prog 31 _ _ _ at hc
  refine (callsIn_wide.1 hc).mono ?_
  rintro e w' ⟨v, ss, rfl, hS, hrow, -, hb⟩
  exact ⟨v, ss, rfl, hS, hrow, ⟨hb.os, hb.tape, hb.output, hb.size, fun k hk _ => hb.block k hk⟩⟩
set_option maxHeartbeats 1000000 in
set_option maxRecDepth 100000 in
theorem old_no {w : World} {a : Option Addr} {cap i : Nat} {s : Int} {l : List Rw} (hl : RSL w a l) (hlen : l.length ≤ 980000000000) (hf : fstP l 0 (f0 6) = some i) : Calls Try.prog 18 #[.slice a l.length cap, .int .i64 s] w fun e w' => e = .returned (.tuple #[.int .i64 0, .int .i64 150]) ∧ Keeps (fun _ => False) w w' := by
  have hck := upTo_no (cap := cap) (s := s) hl hlen hf
  clear hl hf
  generalize l.length = N at *
  go_enter Try.func18, Try.ntmps18
  go_wp2_with (go_at_call 20; refine hck.mono ?_; clear hck; rintro e w1 ⟨rfl, k1⟩)
  go_ret2
  exact ⟨rfl, k1⟩
set_option maxHeartbeats 1000000 in
set_option maxRecDepth 100000 in
theorem old_when {w : World} {a : Option Addr} {cap : Nat} {s : Int} {l : List Rw} (hl : RSL w a l) (hlen : l.length ≤ 980000000000) (hf : fstP l 0 (f0 6) = none) (hs : s < -1 ∨ (l.length : Int) ≤ s) : Calls Try.prog 18 #[.slice a l.length cap, .int .i64 s] w fun e w' => e = .returned (.tuple #[.int .i64 0, .int .i64 151]) ∧ Keeps (fun _ => False) w w' := by
  have hck := upTo_when (cap := cap) (s := s) hl hlen hf hs
  clear hl hf
  generalize l.length = N at *
  go_enter Try.func18, Try.ntmps18
  go_wp2_with (go_at_call 20; refine hck.mono ?_; clear hck; rintro e w1 ⟨rfl, k1⟩)
  go_ret2
  exact ⟨rfl, k1⟩
set_option maxHeartbeats 1000000 in
set_option maxRecDepth 100000 in
theorem old_ok {w : World} {a : Option Addr} {cap K : Nat} {s : Int} {l : List Rw} (hl : RSL w a l) (hlen : l.length ≤ 980000000000) (hcap : l.length ≤ cap) (hza : a = none → cap = 0) (hf : fstP l 0 (f0 6) = none) (hs : -1 ≤ s ∧ s < (l.length : Int)) (hK : s + 1 = (K : Int)) :
    Calls Try.prog 18 #[.slice a l.length cap, .int .i64 s] w fun e w' => e = .returned (.tuple #[.int .i64 (oldS (fAt l K) (txK l K).2 (fAt l K 30).toNat), .int .i64 0]) ∧ Keeps (fun _ => False) w w' := by
  have hck := upTo_ok (cap := cap) hl hlen hcap hza hf hs hK
  have hKN : K ≤ l.length := by omega
  have HOI : Hid (OI (fAt l K) (txK l K).2) := oi_inv hf K (by omega)
  have HOS : Hid (∀ k, k < l.length → OS (fAt l k) (txK l k).2 (fAt l (k + 1)) (txK l (k + 1)).2 (l.getD k rw0)) := fun k hk => os_row hf hk
  have HL : Hid (RSL w a l) := hl
  clear hl hf hza hcap hK hs
  generalize hN : l.length = N at *
  go_enter Try.func18, Try.ntmps18
  go_wp2_with (first | (go_at_call 20; refine hck.mono ?_; clear hck; rintro e w1 ⟨rfl, k1⟩; obtain ⟨X, hX⟩ : ∃ X, X = w1.alloc (.map #[] 0) := ⟨_, rfl⟩; have hmm : (Instr.makeMap 77 none).run Try.prog w1 = .ok (.map (some w1.heap.size)) X := (by rw [hX]; exact run_makeMap _ _); have kX : Keeps (fun _ => False) w1 X := (by rw [hX]; exact (Keeps.refl _ w1).alloc _); have hm0 : MV X w1.heap.size 0 (fun _ => none) := (by rw [hX]; exact MV.made w1); clear hX))
  have z1 := k1.size
  have kwX := k1.trans kX
  have hMX : MV X w1.heap.size (cntO (fAt l 0)) (moV (fAt l 0) (txK l 0).2) := by
    have h0 : ∀ q, q < 6 → OPn (fAt l 0) q = false := fun q hq => by
      rw [OPn_not]
      show f0 6 (q * 5) ≠ 1 ∧ f0 6 (q * 5) ≠ 2
      unfold f0
      rw [if_neg (by omega)]
      exact ⟨by decide, by decide⟩
    have e1 : cntO (fAt l 0) = 0 := by
      unfold cntO
      rw [h0 0 (by omega), h0 1 (by omega), h0 2 (by omega), h0 3 (by omega), h0 4 (by omega), h0 5 (by omega)]
      rfl
    have e2 : (fun _ => none) = moV (fAt l 0) (txK l 0).2 := moV_ext (fun _ _ => rfl) (fun q hq => by rw [moV_at hq, if_neg (by rw [h0 q hq]; decide)])
    rw [e1, ← e2]
    exact hm0
  clear k1 kX hmm hm0
  go_loopw [22] (fun iv Wr => ∃ (k : Nat), iv = .int .i64 (k : Int) ∧ k ≤ K ∧ MV Wr w1.heap.size (cntO (fAt l k)) (moV (fAt l k) (txK l k).2) ∧ Keeps (fun _ => False) w Wr) (fun iv _ => K - (intOf iv).toNat)
  case atStart => exact ⟨0, rfl, Nat.zero_le _, hMX, kwX⟩
  case round =>
    obtain ⟨k, rfl, hk, hM, kr⟩ := hrel
    clear hMX kwX
    by_cases hlt : k < K
    · have l1 : decide ((k : Int) < (K : Int)) = true := decide_eq_true (by omega)
      have l2 : (k : Int) < (K : Int) := by omega
      have l4 : decide (k < K) = true := decide_eq_true hlt
      obtain ⟨b, off, rfl, hc⟩ := HL.out k (by omega)
      have hR := run_rwAt (W := wr) (fun j v e => kr.cell (hc j v e) (fun e => e))
      have hos := HOS.out k (by omega)
      clear hc
      generalize l.getD k rw0 = r at *
      obtain ⟨W4, hW4⟩ : ∃ W4, W4 = wr.alloc (.cells rw0.cells.toArray 50) := ⟨_, rfl⟩
      have k4 : Keeps (fun _ => False) wr W4 := by rw [hW4]; exact (Keeps.refl _ wr).alloc _
      have hU4 : CL W4 wr.heap.size rw0.cells := by rw [hW4]; exact CL.made wr rw0.cells _
      have HW4 : Hid (W4 = wr.alloc (.cells rw0.cells.toArray 50)) := hW4
      have hOC := all_oneCell_rw r
      have hdc := fun W => decides_any (w := W) r.fin
      have hml := hM.lt
      have hcl := cntO_le (fAt l k)
      clear hW4
      unfold rw0 Rw.cells at HW4
      dsimp only at HW4
      cases hos with
      | idle hk1 hd h1 hg hn =>
        have e1 : (r.kind == 1) = false := by simp [hk1]
        rw [hd] at hdc
        have hM2 := hM
        rw [moV_idle h1 hg, ← cntO_idle h1] at hM2
        clear h1 hg hk1 hd hn hM
        go_wp2_with (first | (refine wpList_load_run rfl 50 _ rfl ⟨b, off + k * 26, none⟩ rfl _ hR ?_; clear hR) | (rw [← HW4.out]; clear HW4; refine wpList_store_cl rfl 50 _ _ rfl wr.heap.size 0 26 _ rfl rfl rfl hU4 (by show 26 ≤ 26; decide) iRw hOC ?_; intro w5 hc5 k5 hsz5; clear hsz5; have hI5 : CL w5 wr.heap.size r.cells := hc5; clear hc5; have K45 : Keeps (fun _ => False) wr w5 := k4.trans' k5 (fun _ _ e => e) (fun i hi e => (by have e : i = wr.heap.size := e; omega)); have c5 := hI5.c 5 _ rfl; have c25 := hI5.c 25 _ rfl) | (go_at_call 29; refine (hdc _).mono ?_; clear hdc; rintro e w8 ⟨rfl, ew⟩; subst w8))
        go_roundw
        case rel => exact ⟨k + 1, by go_num, by omega, hM2.keep K45 (fun e => e), kr.trans K45⟩
        case measure => simp [intOf]; omega
      | beg th ht et hk1 hd ho hs1 h1 h2 g1 hg hn =>
        have e1 : (r.kind == 1) = true := by simp [hk1]
        rw [hd] at hdc
        have hcn := cntO_turn ht h2
        rw [ho, h1] at hcn
        have e2 : (moV (fAt l k) (txK l k).2 (th : Int)).isSome = false := by rw [moV_at ht, if_neg (by rw [ho]; decide)]; rfl
        have e3 := moV_beg (g := (txK l k).2) ht h1 h2 g1 hg
        have HPT : Hid (∀ W, Keeps (fun _ => False) wr W → ∃ W', (Instr.mapUpdate 77 (.map (some w1.heap.size)) (.int .i64 (th : Int)) (.int .i64 r.seen)).run Try.prog W = .ok () W' ∧ MV W' w1.heap.size (cntO (fAt l (k + 1))) (moV (fAt l (k + 1)) (txK l (k + 1)).2) ∧ Keeps (fun i => i = w1.heap.size) W W') := fun W kW => by
          obtain ⟨W', q1, q2, q3⟩ := (hM.keep kW (fun e => e)).put underO (k := (th : Int)) ⟨by omega, by omega⟩ (.int .i64 r.seen) (by omega)
          rw [e2, e3, if_neg (by decide)] at q2
          refine ⟨W', q1, ?_, q3⟩
          have e4 : cntO (fAt l (k + 1)) = cntO (fAt l k) + 1 := by simp [b2n] at hcn; omega
          rw [e4]
          exact q2
        have HET : Hid (r.thread = (th : Int)) := et
        clear h1 h2 hg hk1 hd hn e3 e2 hM et ho hs1 g1 hcn
        go_wp2_with (first | (refine wpList_load_run rfl 50 _ rfl ⟨b, off + k * 26, none⟩ rfl _ hR ?_; clear hR) | (rw [← HW4.out]; clear HW4; refine wpList_store_cl rfl 50 _ _ rfl wr.heap.size 0 26 _ rfl rfl rfl hU4 (by show 26 ≤ 26; decide) iRw hOC ?_; intro w5 hc5 k5 hsz5; clear hsz5; have hI5 : CL w5 wr.heap.size r.cells := hc5; clear hc5; have K45 : Keeps (fun _ => False) wr w5 := k4.trans' k5 (fun _ _ e => e) (fun i hi e => (by have e : i = wr.heap.size := e; omega)); have c5 := hI5.c 5 _ rfl; have c25 := hI5.c 25 _ rfl; have c1 := hI5.c 1 _ rfl; rw [HET.out] at c1; have c11 := hI5.c 11 _ rfl; obtain ⟨W', hup, hM9, k9⟩ := HPT.out w5 K45; clear HPT; have c25 := k9.cell c25 (fun e => by have e : wr.heap.size = w1.heap.size := e; omega)) | (go_at_call 29; refine (hdc _).mono ?_; clear hdc; rintro e w8 ⟨rfl, ew⟩; subst w8))
        have K9 : Keeps (fun _ => False) w W' := (kr.trans K45).trans' k9 (fun _ _ e => e) (fun i hi e => by have e : i = w1.heap.size := e; omega)
        go_roundw
        case rel => exact ⟨k + 1, by go_num, by omega, hM9, K9⟩
        case measure => simp [intOf]; omega
      | fin th ht et hk1 hd ho hno h1 h2 hg hn =>
        have e1 : (r.kind == 1) = false := by simp [hk1]
        rw [hd] at hdc
        have hcn := cntO_turn ht h2
        rw [ho, h1] at hcn
        have e2 : (moV (fAt l k) (txK l k).2 (th : Int)).isSome = true := by rw [moV_at ht, if_pos ho]; rfl
        have e3 := moV_fin (g := (txK l k).2) ht h1 h2 hg
        have HDL : Hid (∀ W ty, Keeps (fun _ => False) wr W → ∃ W', (Builtin.delete_ #[77, 3] ty #[.map (some w1.heap.size), .int .i64 (th : Int)]).run Try.prog W = .ok (.tuple #[]) W' ∧ MV W' w1.heap.size (cntO (fAt l (k + 1))) (moV (fAt l (k + 1)) (txK l (k + 1)).2) ∧ Keeps (fun i => i = w1.heap.size) W W') := fun W ty kW => by
          obtain ⟨W', q1, q2, q3⟩ := (hM.keep kW (fun e => e)).del (k := (th : Int)) ⟨by omega, by omega⟩ e2 ty
          rw [e3] at q2
          refine ⟨W', q1, ?_, q3⟩
          have e4 : cntO (fAt l (k + 1)) = cntO (fAt l k) - 1 := by simp [b2n] at hcn; omega
          rw [e4]
          exact q2
        have HET : Hid (r.thread = (th : Int)) := et
        clear h1 h2 hg hk1 hd hn e3 e2 hM et ho hno hcn
        go_wp2_with (first | (refine wpList_load_run rfl 50 _ rfl ⟨b, off + k * 26, none⟩ rfl _ hR ?_; clear hR) | (rw [← HW4.out]; clear HW4; refine wpList_store_cl rfl 50 _ _ rfl wr.heap.size 0 26 _ rfl rfl rfl hU4 (by show 26 ≤ 26; decide) iRw hOC ?_; intro w5 hc5 k5 hsz5; clear hsz5; have hI5 : CL w5 wr.heap.size r.cells := hc5; clear hc5; have K45 : Keeps (fun _ => False) wr w5 := k4.trans' k5 (fun _ _ e => e) (fun i hi e => (by have e : i = wr.heap.size := e; omega)); have c5 := hI5.c 5 _ rfl; have c25 := hI5.c 25 _ rfl; have c1 := hI5.c 1 _ rfl; rw [HET.out] at c1; have hdl := fun ty => HDL.out w5 ty K45; obtain ⟨W', hup, hM9, k9⟩ := hdl 0; clear hdl HDL) | (go_at_call 29; refine (hdc _).mono ?_; clear hdc; rintro e w8 ⟨rfl, ew⟩; subst w8))
        have K9 : Keeps (fun _ => False) w W' := (kr.trans K45).trans' k9 (fun _ _ e => e) (fun i hi e => by have e : i = w1.heap.size := e; omega)
        go_roundw
        case rel => exact ⟨k + 1, by go_num, by omega, hM9, K9⟩
        case measure => simp [intOf]; omega
    · have l1 : decide ((k : Int) < (K : Int)) = false := decide_eq_false (by omega)
      have l4 : decide (k < K) = false := decide_eq_false hlt
      obtain rfl : k = K := by omega
      have hlen9 := fun ty => hM.len ty
      have hcl := cntO_le (fAt l k)
      by_cases hc0 : cntO (fAt l k) = 0
      · have e9 : oldS (fAt l k) (txK l k).2 (fAt l k 30).toNat = -1 := oldS_no (cntO_zero hc0)
        have HE9 : Hid (oldS (fAt l k) (txK l k).2 (fAt l k 30).toNat = -1) := e9
        rw [hc0] at hlen9
        clear e9 hc0 hM
        go_wp2_with fail
        go_ret2
        exact ⟨by rw [HE9.out]; rfl, kr⟩
      · have hcz : ((cntO (fAt l k) : Int) == 0) = false := by simp; omega
        have HCO : Hid (∀ W, W = wr.alloc (.cells #[.map (some w1.heap.size)] 77) → Calls Try.prog 31 #[.func (.func 45) #[] #[.pointer (some ⟨wr.heap.size, 0, none⟩)]] W fun e w' => ∃ v xs, e = .returned v ∧ VAll (moV (fAt l k) (txK l k).2) (cntO (fAt l k)) xs ∧ w'.ownsRow W.heap.size 2 1 v xs.length (xs.map encZ) ∧ Keeps (fun _ => False) W w') := fun W eW => by
          have kW : Keeps (fun _ => False) wr W := by rw [eW]; exact (Keeps.refl _ wr).alloc _
          refine collect_any (by rw [eW]; simp) (by rw [eW]; simp) (hM.keep kW (fun e => e)) (fun x hx u hu => ?_) (by omega)
          unfold moV at hu
          split at hu
          · exact ⟨_, (Option.some.inj hu).symm⟩
          · cases hu
        have HMN : Hid (∀ xs, VAll (moV (fAt l k) (txK l k).2) (cntO (fAt l k)) xs → ∀ m, m ∈ xs → (∀ x ∈ xs, m ≤ x) → oldS (fAt l k) (txK l k).2 (fAt l k 30).toNat = m) := fun xs hv m h1 h2 => by
          refine oldS_min HOI.out ?_ (fun th ht ho => h2 _ (hv.2.1 (th : Int) ⟨by omega, by omega⟩ _ (by rw [moV_at ht, if_pos ho])))
          obtain ⟨x, _, hx⟩ := hv.1 m h1
          unfold moV at hx
          split at hx
          · rename_i c
            refine ⟨x.toNat, by omega, c.2.2, ?_⟩
            have hx := Option.some.inj hx
            injection hx
          · cases hx
        have HPO : Hid (∀ xs, VAll (moV (fAt l k) (txK l k).2) (cntO (fAt l k)) xs → 0 < xs.length) := fun xs hv => by
          obtain ⟨th, ht, ho⟩ := cntO_pos hc0
          exact List.length_pos_of_mem (hv.2.1 (th : Int) ⟨by omega, by omega⟩ _ (by rw [moV_at ht, if_pos ho]))
        have hva := values_any wr w1.heap.size
        clear hc0 hM
        generalize cntO (fAt l k) = C9 at *
        go_wp2_with (first | (go_at_call 32; refine hva.mono ?_; clear hva; rintro e W7 ⟨rfl, hW7⟩; have hco := HCO.out W7 hW7; have k7 : Keeps (fun _ => False) wr W7 := (by rw [hW7]; exact (Keeps.refl _ wr).alloc _); clear hW7 HCO) | (go_at_call 31; refine hco.mono ?_; clear hco; rintro e W8 ⟨v8, xs, rfl, hS, hO8, k8⟩; obtain ⟨a8, c8, rfl, -⟩ := own_slice hO8; have hx0 := HPO.out xs hS; have hxl : xs.length ≤ 1000000 := (by have := hS.2.2; omega); have hmin := min_any hO8 rfl hx0 hxl) | (go_at_call 30; refine hmin.mono ?_; clear hmin; rintro e W9 ⟨m9, rfl, hm1, hm2, ew⟩; subst W9))
        go_ret2
        exact ⟨by rw [HMN.out xs hS m9 hm1 hm2]; rfl, (kr.trans k7).trans k8⟩
end Go.Proofs.Ytmnmphkkcabkiaa

namespace Go.Proofs.Ytmnmphkkcabkiaa
open Go.RowKit
end Go.Proofs.Ytmnmphkkcabkiaa

