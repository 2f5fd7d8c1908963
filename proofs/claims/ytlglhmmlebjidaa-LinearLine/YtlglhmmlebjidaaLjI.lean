import Derived.Test.YtlglhmmlebjidaaLjH
namespace Go.Proofs.Ytlglhmmlebjidaa
open Go.RowKit
theorem rs_all {l : List Cl} {a : Option Addr} {cap : Nat} (hn : l.length ≤ 8) : ∀ d, RSd l a cap d
  | 0 => rs_any hn (fun d' e => by omega)
  | d + 1 => rs_any hn (fun d' e => by
    obtain rfl : d' = d := by omega
    exact rs_all hn d')
/-- The line, whether there is one, and the error of Search. -/
def SX (l : List Cl) (S : List Nat) (fb : Bool) (ec : Int) : Prop := (8 < l.length ∧ S = [] ∧ fb = false ∧ ec = 170) ∨ (l.length ≤ 8 ∧ ¬ MayL l ∧ S = [] ∧ fb = false ∧ ec = 171) ∨ (l.length ≤ 8 ∧ MayL l ∧ ec = 0 ∧ ((fstL l = some S ∧ fb = true) ∨ (fstL l = none ∧ fb = false ∧ S = [])))
theorem SX.one {l : List Cl} {S S' : List Nat} {b b' : Bool} {e e' : Int} (h : SX l S b e) (h' : SX l S' b' e') : S = S' ∧ b = b' ∧ e = e' := by
  rcases h with ⟨a1, a2, a3, a4⟩ | ⟨a1, a2, a3, a4, a5⟩ | ⟨a1, a2, a3, a4⟩ <;> rcases h' with ⟨b1, b2, b3, b4⟩ | ⟨b1, b2, b3, b4, b5⟩ | ⟨b1, b2, b3, b4⟩
  · exact ⟨a2.trans b2.symm, a3.trans b3.symm, a4.trans b4.symm⟩
  · omega
  · omega
  · omega
  · exact ⟨a3.trans b3.symm, a4.trans b4.symm, a5.trans b5.symm⟩
  · exact absurd b2 a2
  · omega
  · exact absurd a2 b2
  · rcases a4 with ⟨c1, c2⟩ | ⟨c1, c2, c3⟩ <;> rcases b4 with ⟨d1, d2⟩ | ⟨d1, d2, d3⟩
    · rw [c1] at d1
      injection d1 with d1
      exact ⟨d1, c2.trans d2.symm, a3.trans b3.symm⟩
    · rw [c1] at d1
      cases d1
    · rw [c1] at d1
      cases d1
    · exact ⟨c3.trans d3.symm, c2.trans d2.symm, a3.trans b3.symm⟩
theorem fst_len {l : List Cl} {r : List Nat} (h : fstL l = some r) : r.length ≤ l.length := by
  obtain ⟨qs, e, hg, -⟩ := srch_sound l _ _ _ _ h
  have := goL_nodup (l := l) (L := []) (S := []) List.nodup_nil (fun _ h => by cases h) hg
  rw [e]
  exact nodup_le _ _ this.1 this.2
theorem SX.len {l : List Cl} {S : List Nat} {b : Bool} {e : Int} (h : SX l S b e) : S.length ≤ 8 := by
  rcases h with ⟨_, rfl, _⟩ | ⟨_, _, rfl, _⟩ | ⟨h1, _, _, ⟨h2, _⟩ | ⟨_, _, rfl⟩⟩
  · exact Nat.zero_le _
  · exact Nat.zero_le _
  · exact Nat.le_trans (fst_len h2) h1
  · exact Nat.zero_le _
theorem SeA.sx {l : List Cl} {w w' : World} {v : Value} {fb : Bool} {ec : Int} (h : SeA l w w' v fb ec) : ∃ S, SX l S fb ec ∧ w'.ownsRow w.heap.size 3 1 v S.length (pvs S) := by
  rcases h with ⟨h1, rfl, h3, h4⟩ | ⟨h1, h2, rfl, h4, h5⟩ | ⟨h1, h2, h3, h⟩
  · exact ⟨[], .inl ⟨h1, rfl, h3, h4⟩, World.ownsRow_nil _ _ _ _⟩
  · exact ⟨[], .inr (.inl ⟨h1, h2, rfl, h4, h5⟩), World.ownsRow_nil _ _ _ _⟩
  · rcases h with ⟨r, q1, q2, q3⟩ | ⟨q1, q2, rfl⟩
    · exact ⟨r, .inr (.inr ⟨h1, h2, h3, .inl ⟨q1, q2⟩⟩), q3⟩
    · exact ⟨[], .inr (.inr ⟨h1, h2, h3, .inr ⟨q1, q2, rfl⟩⟩), World.ownsRow_nil _ _ _ _⟩
/-- What the document's Search answers. -/
def SeB (l : List Cl) (w w' : World) (v : Value) (fb : Bool) (ec : Int) : Prop := ∃ S sa sc, SX l S fb ec ∧ v = .slice sa S.length sc ∧ PM w' sa S ∧ ∀ b off, sa = some ⟨b, off, none⟩ → w.heap.size ≤ b
theorem pm_nil (w : World) (a : Option Addr) : PM w a [] := fun i hi => absurd hi (by simp)
set_option maxHeartbeats 1000000 in
set_option maxRecDepth 100000 in
theorem rsearch_any {w : World} {a : Option Addr} {cap : Nat} {l : List Cl} (hl : CSL w a l) (hn : l.length ≤ 2199023255552) : Calls Try.prog 23 #[.slice a l.length cap] w fun e w' => ∃ v fb ec, e = .returned (.tuple #[v, .bool fb, .int .i64 ec]) ∧ SeB l w w' v fb ec ∧ Keeps (fun _ => False) w w' := by
  by_cases h8 : 8 < l.length
  · have H8 : Hid (8 < l.length) := h8
    have s1 : decide ((l.length : Int) > 8) = true := decide_eq_true (by omega)
    have s2 : decide ((8 : Int) < (l.length : Int)) = true := decide_eq_true (by omega)
    have s3 : decide (8 < l.length) = true := decide_eq_true (by omega)
    clear h8 hl
    obtain ⟨N, hN⟩ : ∃ N, N = l.length := ⟨_, rfl⟩
    rw [← hN] at s1 s2 s3
    rw [← hN]
    clear hN
    go_enter Try.func23, Try.ntmps23
    go_wp2_with fail
    go_ret3
    exact ⟨_, _, _, rfl, ⟨[], none, 0, .inl ⟨H8.out, rfl, rfl, rfl⟩, rfl, pm_nil _ _, fun b off e => by cases e⟩, Keeps.refl _ _⟩
  · have H8 : Hid (l.length ≤ 8) := (by omega : l.length ≤ 8)
    have s1 : decide ((l.length : Int) > 8) = false := decide_eq_false (by omega)
    have s2 : decide ((8 : Int) < (l.length : Int)) = false := decide_eq_false (by omega)
    have s3 : decide (8 < l.length) = false := decide_eq_false (by omega)
    have hor := rmay_any (cap := cap) hl hn
    have HFI : Hid (∀ W, Keeps (fun _ => False) w W → Calls Try.prog 33 #[.slice a l.length cap, .slice none 0 0] W (SrP l (fstL l) none W)) := fun W k => rs_all H8.out l.length W [] none 0 (hl.keep k) (pm_nil _ _) List.nodup_nil (fun x hx => by cases hx) (fun k hk => absurd hk (by simp)) (by simp) (fun _ => rfl)
    clear h8 hl hn
    obtain ⟨N, hN⟩ : ∃ N, N = l.length := ⟨_, rfl⟩
    rw [← hN] at s1 s2 s3 HFI hor
    rw [← hN]
    clear hN
    go_enter Try.func23, Try.ntmps23
    refine wp_seq_k (fun KK hKK => ?_)
    have hKH : Hid _ := hKK
    clear hKK
    go_wp2_with fail
    refine hKH.out _ _ ?_
    clear hKH KK
    refine wp_seq_k (fun KK hKK => ?_)
    have hKH : Hid _ := hKK
    clear hKK
    go_wp2_with fail
    refine hKH.out _ _ ?_
    clear hKH KK
    refine wp_seq_k (fun KK hKK => ?_)
    have hKH : Hid _ := hKK
    clear hKK
    go_wp2_with (go_at_call 30; refine hor.mono ?_; clear hor; rintro e w1 ⟨mb, rfl, hP, k1⟩; have HP : Hid (mb = true ↔ MayL l) := hP; clear hP)
    refine hKH.out _ _ ?_
    clear hKH KK
    cases mb with
    | false =>
      have HM : Hid (¬ MayL l) := fun h => by have := HP.out.2 h; cases this
      go_wp2_with fail
      go_ret3
      exact ⟨_, _, _, rfl, ⟨[], none, 0, .inr (.inl ⟨H8.out, HM.out, rfl, rfl, rfl⟩), rfl, pm_nil _ _, fun b off e => by cases e⟩, k1⟩
    | true =>
      have HM : Hid (MayL l) := HP.out.1 rfl
      have hfi := HFI.out w1 k1
      clear HP HFI
      cases hR : fstL l with
      | none =>
        rw [hR] at hfi
        have HR : Hid (fstL l = none) := hR
        clear hR
        go_wp2_with (go_at_call 33; refine hfi.mono ?_; clear hfi; rintro e w2 ⟨hQ, k2, -⟩; obtain rfl := srP_no hQ; clear hQ)
        go_ret3
        exact ⟨_, _, _, rfl, ⟨[], none, 0, .inr (.inr ⟨H8.out, HM.out, rfl, .inr ⟨HR.out, rfl, rfl⟩⟩), rfl, pm_nil _ _, fun b off e => by cases e⟩, k1.trans k2⟩
      | some r =>
        rw [hR] at hfi
        have HR : Hid (fstL l = some r) := hR
        clear hR
        go_wp2_with (go_at_call 33; refine hfi.mono ?_; clear hfi; rintro e w2 ⟨hQ, k2, -⟩; obtain ⟨sa, sc, rfl, hpm, hb⟩ := srP_yes hQ; clear hQ)
        go_ret3
        exact ⟨_, _, _, rfl, ⟨r, sa, sc, .inr (.inr ⟨H8.out, HM.out, rfl, .inl ⟨HR.out, rfl⟩⟩), rfl, hpm, fun b off e => (hb b off e).elim (fun h => by cases h) (fun h => Nat.le_trans k1.size h)⟩, k1.trans k2⟩
theorem wpList_store_rowV {w : World} {ops : Array Oper} {rest : List Oper} {o : Oper} {a : Act} {Q : Exit → Act → World → Prop} (hgd : o.guard = none) (hd : o.dst = none) (x y : Operand) (ho : o.op = .store 3 x y) (g j : Nat) (hx : a.eval x = .pointer (some ⟨g, j, none⟩)) (v : Int) (hy : a.eval y = .int .i64 v)
    {base n cap : Nat} {L : List Value} (hO : w.ownsRow base 3 1 (.slice (some ⟨g, 0, none⟩) n cap) n L) (hj : j < L.length) (h : ∀ w1, w1.ownsRow base 3 1 (.slice (some ⟨g, 0, none⟩) n cap) n (L.set j (.int .i64 v)) → Keeps (fun k => k = g) w w1 → wpList Try.prog ops Q rest a w1) : wpList Try.prog ops Q (o :: rest) a w := by
  have hB := own_clL hO
  exact wpList_plain hgd fun _ hK => by
    unfold Oper.wp execOp
    simp only [ho, hx, hy, Instr.storeAt, Instr.sureAddr, Sem.run_bind, Sem.run_pure, Result.andThen_ok, run_store_oneL (by rw [hB.c j _ (List.getElem?_eq_getElem hj)]; rfl) (hB.z j hj) v]
    refine hK _ _ ?_
    rw [hd]
    exact h _ (hO.stored j (.int .i64 v)).1 ((Keeps.refl (fun k => k = g) w).setCell (p := ⟨g, j, none⟩) (fun _ => rfl) _)
set_option maxHeartbeats 1000000 in
set_option maxRecDepth 100000 in
theorem search17_any {w : World} {a : Option Addr} {cap : Nat} {l : List Cl} (hl : CSL w a l) (hc64 : ∀ c ∈ l, C64 c) (hn : l.length ≤ 2199023255552) (hz : a = none → cap = 0) : Calls Try.prog 8 #[.slice a l.length cap] w fun e w' => e = .returned (.bool true) ∧ Below w.heap.size w w' := by
  have hh := head_any w
  have HL : Hid (CSL w a l) := hl
  have HC : Hid (∀ c ∈ l, C64 c) := hc64
  have HZ : Hid (a = none → cap = 0) := hz
  have hnu := fun W x => num_any x W
  clear hl hc64 hz
  generalize hN : l.length = N at *
  have HN : Hid (l.length = N) := hN
  clear hN
  go_enter Try.func8, Try.ntmps8
  refine wp_seq_k (fun KK hKK => ?_)
  have hKH : Hid _ := hKK
  clear hKK
  go_wp2_with fail
  refine hKH.out _ _ ?_
  clear hKH KK
  refine wp_seq_k (fun KK hKK => ?_)
  have hKH : Hid _ := hKK
  clear hKK
  go_wp2_with (go_at_call 9; refine hh.mono ?_; clear hh; rintro e w1 ⟨rfl, k1⟩)
  refine hKH.out _ _ ?_
  clear hKH KK
  obtain ⟨cv, W2, hr2, hO2, k2⟩ := copy_calls (cap := cap) (HL.out.keep k1) HZ.out (by rw [HN.out]; exact hn)
  obtain ⟨ca, cc, rfl, hcs, -⟩ := csl_of hO2
  rw [HN.out] at hr2
  have HCS : Hid (CSL W2 ca l) := hcs
  clear hO2 hcs
  refine wp_seq_k (fun KK hKK => ?_)
  have hKH : Hid _ := hKK
  clear hKK
  go_wp2_with (at_builtin; refine wpList_append_tL rfl _ _ _ rfl _ _ _ W2 rfl rfl hr2 ?_; clear hr2)
  refine hKH.out _ _ ?_
  clear hKH KK
  have K2 := k1.trans k2
  clear k1 k2
  have hky := search_any (cap := cap) (HL.out.keep K2) HC.out (by rw [HN.out]; exact hn)
  rw [HN.out] at hky
  refine wp_seq_k (fun KK hKK => ?_)
  have hKH : Hid _ := hKK
  clear hKK
  go_wp2_with (go_at_call 11; refine hky.mono ?_; clear hky; rintro e w4 ⟨kv, fb, fc, rfl, hK, k4⟩; have HKA : Hid (SeA l W2 w4 kv fb fc) := hK; clear hK)
  refine hKH.out _ _ ?_
  clear hKH KK
  have hrk := rsearch_any (cap := cc) (HCS.out.keep k4) (by rw [HN.out]; exact hn)
  rw [HN.out] at hrk
  refine wp_seq_k (fun KK hKK => ?_)
  have hKH : Hid _ := hKK
  clear hKK
  go_wp2_with (go_at_call 23; refine hrk.mono ?_; clear hrk; rintro e w6 ⟨sv, fb2, hc, rfl, hK2, k6⟩; have HKB : Hid (SeB l w4 w6 sv fb2 hc) := hK2; clear hK2)
  refine hKH.out _ _ ?_
  clear hKH KK
  obtain ⟨S, hX1, hOk⟩ := HKA.out.sx
  obtain ⟨S', sa, sc, hX2, rfl, hKs, hbs⟩ := HKB.out
  obtain ⟨e1, e2, e3⟩ := hX1.one hX2
  subst e1 e2 e3
  have hSl : S.length ≤ 8 := hX1.len
  have HX : Hid (SX l S fb fc) := hX1
  clear HKA HKB hX1 hX2
  obtain ⟨ka, kc, rfl, -⟩ := own_slice hOk
  have hKk := (PM.of hOk).kl
  have hsm := sameP_any (ca := kc) (cb := sc) (hKk.keep k6) hKs.kl (by rw [iOf_len]; omega)
  rw [iOf_len, show decide (iOf S = iOf S) = true from decide_eq_true rfl] at hsm
  have HOK : Hid (w6.ownsRow W2.heap.size 3 1 (.slice ka S.length kc) S.length (pvs S)) := k6.owns hOk (fun _ _ e => e)
  have HGB : Hid (∀ g, (Value.slice ka S.length kc).ownBlock = some g → W2.heap.size ≤ g ∧ g < w4.heap.size) := fun g e => ⟨owns_baseT hOk g e, owns_lt' hOk g e⟩
  have HSB : Hid (∀ b off, sa = some ⟨b, off, none⟩ → w4.heap.size ≤ b) := hbs
  have HKS : Hid (KL w6 sa (iOf S)) := hKs.kl
  have HCS6 : Hid (CSL w6 ca l ∧ (0 < l.length → ∀ b off, ca = some ⟨b, off, none⟩ → b < W2.heap.size)) := ⟨HCS.out.keep (k4.trans k6), fun hp b off e => by
    obtain ⟨b', off', q1, q2⟩ := HCS.out.lt hp
    rw [q1] at e
    injection e with e
    injection e with e _ _
    omega⟩
  have K6 := (K2.trans k4).trans k6
  have HSZ : Hid (w.heap.size ≤ W2.heap.size) := K2.size
  have HL6 : Hid (CSL w6 a l) := HL.out.keep K6
  clear hOk hKk hKs hbs k4 k6
  have s1 : (fb != fb) = false := by simp
  have s3 : (fc != fc) = false := by simp
  obtain ⟨M, hM⟩ : ∃ M, M = S.length := ⟨_, rfl⟩
  rw [← hM] at hsm hSl HOK HGB
  rw [← hM]
  have HM : Hid (M = S.length) := hM
  clear hM
  go_wp2_with (first | (go_at_call 12; refine (hnu _ _).mono ?_; rintro e wn ⟨rfl, hwn⟩; rw [hwn]; clear hwn wn) | (go_at_call 16; refine hsm.mono ?_; clear hsm; rintro e w7 ⟨rfl, k7⟩))
  have K67 : Hid (Keeps (fun _ => False) w6 w7) := k7
  go_loopw [10] (fun iv Wr => ∃ (k : Nat), iv = .int .i64 (k : Int) ∧ k ≤ M ∧ (∃ X : List Value, X.length = M ∧ Wr.ownsRow W2.heap.size 3 1 (.slice ka M kc) M X) ∧ Keeps (fun i => (Value.slice ka M kc).ownBlock = some i) w7 Wr) (fun iv _ => M - (intOf iv).toNat)
  case atStart => exact ⟨0, rfl, Nat.zero_le _, ⟨pvs S, by rw [pvs_len]; exact HM.out.symm, k7.owns HOK.out (fun _ _ e => e)⟩, Keeps.refl _ _⟩
  case round =>
    obtain ⟨k, rfl, hk, ⟨X, hXl, hOX⟩, kr⟩ := hrel
    have HXL : Hid (X.length = M) := hXl
    clear hXl
    by_cases hlt : k < M
    · have j1 : decide ((k : Int) < (M : Int)) = true := decide_eq_true (by omega)
      have j2 : decide (k < M) = true := decide_eq_true hlt
      have j3 : (k : Int) < (M : Int) := by omega
      have j4 : (0 : Int) ≤ (k : Int) := by omega
      have hwi : IntKind.i64.wrap ((k : Int) + 1) = (k : Int) + 1 := by rw [IntKind.wrap_i64]; omega
      obtain ⟨a8, c8, e8, h8, -, -⟩ := own_slice hOX
      injection e8 with e81 _ _
      subst e81
      have HKX : Hid (k < X.length) := by show _ < _; rw [HXL.out]; exact hlt
      obtain ⟨g, eg, -⟩ := h8 k _ (List.getElem?_eq_getElem HKX.out)
      subst eg
      have HOX : Hid (wr.ownsRow W2.heap.size 3 1 (.slice (some ⟨g, 0, none⟩) M kc) M X) := hOX
      clear hOX h8
      go_wp2_with (refine wpList_store_rowV rfl rfl _ _ rfl g k rfl _ rfl HOX.out HKX.out ?_; intro w8 hO8 k8)
      go_roundw
      case rel => exact ⟨k + 1, by go_num, by omega, ⟨_, by rw [List.length_set]; exact HXL.out, hO8⟩, kr.trans' k8 (fun _ _ e => e) (fun i hi e => by have e : i = g := e; rw [e]; rfl)⟩
      case measure => simp [intOf]; omega
    · have j1 : decide ((k : Int) < (M : Int)) = false := decide_eq_false (by omega)
      have j2 : decide (k < M) = false := decide_eq_false hlt
      have hnb : ∀ i, i < W2.heap.size → ¬ (Value.slice ka M kc).ownBlock = some i := fun i hi e => by
        have := (HGB.out i e).1
        omega
      have Kw7 := K6.trans K67.out
      have hl8 : CSL wr a l := (HL6.out.keep K67.out).keepS kr (fun hp b off e hb => by
        obtain ⟨b', off', q1, q2⟩ := HL.out.lt hp
        rw [q1] at e
        injection e with e
        injection e with e _ _
        have := HSZ.out
        exact hnb b (by omega))
      have hc8 : CSL wr ca l := (HCS6.out.1.keep K67.out).keepS kr (fun hp b off e hb => hnb b (HCS6.out.2 hp b off e))
      have hs8 : KL wr sa (iOf S) := (HKS.out.keep K67.out).keepS kr (fun b off e e' => by
        have h1 := HSB.out b off e
        have h2 := (HGB.out b e').2
        omega)
      have Kw8 : Keeps (fun _ => False) w wr := Kw7.trans' kr (fun _ _ e => e) (fun i hi e => hnb i (by have := HSZ.out; omega) e)
      have hky := search_any (cap := cap) hl8 HC.out (by rw [HN.out]; exact hn)
      rw [HN.out] at hky
      have HEND : Hid (∀ W kv fb2 fc2, SeA l wr W kv fb2 fc2 → Keeps (fun _ => False) wr W → ∃ ka2 kc2, kv = .slice ka2 M kc2 ∧ fc2 = fc ∧ Calls Try.prog 16 #[.slice ka2 M kc2, .slice sa M sc] W fun e w' => e = .returned (.bool true) ∧ Keeps (fun _ => False) W w') := fun W kv fb2 fc2 h kW => by
        obtain ⟨S2, hX2, hO2⟩ := h.sx
        obtain ⟨e1, e2, e3⟩ := hX2.one HX.out
        subst e1 e3
        obtain ⟨ka2, kc2, rfl, -⟩ := own_slice hO2
        have := sameP_any (ca := kc2) (cb := sc) (PM.of hO2).kl (hs8.keep kW) (by rw [iOf_len, ← HM.out]; omega)
        rw [iOf_len, show decide (iOf S2 = iOf S2) = true from decide_eq_true rfl] at this
        rw [HM.out]
        exact ⟨ka2, kc2, rfl, rfl, this⟩
      have HSC : Hid (∀ W, Keeps (fun _ => False) wr W → Calls Try.prog 22 #[.slice a N cap, .slice ca N cc] W fun e w' => e = .returned (.bool true) ∧ Keeps (fun _ => False) W w') := fun W kW => by
        have := sameCalls_ok cap cc (hl8.keep kW) (hc8.keep kW) (by rw [HN.out]; omega)
        rw [HN.out] at this
        exact this
      have s4 : (fc == fc) = true := by simp
      go_wp2_with (first | (go_at_call 11; refine hky.mono ?_; clear hky; rintro e w9 ⟨kv, fb2, fc2, rfl, hK, k9⟩; obtain ⟨ka2, kc2, rfl, rfl, hsm⟩ := HEND.out w9 kv fb2 fc2 hK k9; clear hK HEND) | (go_at_call 16; refine hsm.mono ?_; clear hsm; rintro e w10 ⟨rfl, k10⟩; have hsc := HSC.out w10 (k9.trans k10); clear HSC) | (go_at_call 12; refine (hnu _ _).mono ?_; rintro e wn ⟨rfl, hwn⟩; rw [hwn]; clear hwn wn) | (go_at_call 22; refine hsc.mono ?_; clear hsc; rintro e w11 ⟨rfl, k11⟩))
      go_ret
      exact ⟨rfl, (((Kw8.trans k9).trans k10).trans k11).below (Nat.le_refl _) (fun _ _ e => e)⟩
end Go.Proofs.Ytlglhmmlebjidaa
