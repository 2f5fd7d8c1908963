import Derived.Test.YtlglhmmlebjidaaLjE
namespace Go.Proofs.Ytlglhmmlebjidaa
open Go.RowKit
/-- The numbers and the error of Keys. -/
def KX (l : List Cl) (S : List Int) (ec : Int) : Prop := (ec = 0 ∧ MayL l ∧ S = keyL l) ∨ (ec = 171 ∧ ¬ MayL l ∧ S = [])
theorem KX.one {l : List Cl} {S S' : List Int} {e e' : Int} (h : KX l S e) (h' : KX l S' e') : S = S' ∧ e = e' := by
  rcases h with ⟨a1, a2, a3⟩ | ⟨a1, a2, a3⟩ <;> rcases h' with ⟨b1, b2, b3⟩ | ⟨b1, b2, b3⟩
  · exact ⟨a3.trans b3.symm, a1.trans b1.symm⟩
  · exact absurd a2 b2
  · exact absurd b2 a2
  · exact ⟨a3.trans b3.symm, a1.trans b1.symm⟩
theorem KX.len {l : List Cl} {S : List Int} {e : Int} (h : KX l S e) : S.length ≤ l.length := by
  rcases h with ⟨-, -, rfl⟩ | ⟨-, -, rfl⟩
  · exact Nat.le_trans (setK_len l _ _) (byP_len l _)
  · exact Nat.zero_le _
theorem KeA.kx {l : List Cl} {w w' : World} {v : Value} {ec : Int} (h : KeA l w w' v ec) : ∃ S, KX l S ec ∧ w'.ownsRow w.heap.size 2 1 v S.length (kvs S) := by
  rcases h with ⟨h1, h2, h3⟩ | ⟨h1, h2, rfl⟩
  · exact ⟨_, .inl ⟨h1, h2, rfl⟩, h3⟩
  · exact ⟨[], .inr ⟨h1, h2, rfl⟩, World.ownsRow_nil _ _ _ _⟩
theorem KeB.kx {l : List Cl} {w w' : World} {v : Value} {ec : Int} (h : KeB l w w' v ec) : ∃ S sa sc, KX l S ec ∧ v = .slice sa S.length sc ∧ KL w' sa S ∧ ∀ b off, sa = some ⟨b, off, none⟩ → w.heap.size ≤ b := by
  rcases h with ⟨h1, h2, sa, sc, h3, h4, h5⟩ | ⟨h1, h2, rfl⟩
  · exact ⟨_, sa, sc, .inl ⟨h1, h2, rfl⟩, h3, h4, h5⟩
  · exact ⟨[], none, 0, .inr ⟨h1, h2, rfl⟩, rfl, (fun i hi => absurd hi (by simp)), fun b off e => by cases e⟩
theorem BpA.one {l : List Cl} {r s e f : Int} (h : BpA l r e) (h' : BpA l s f) : r = s ∧ e = f := by
  rcases h with ⟨a1, a2, a3⟩ | ⟨a1, a2, a3⟩ <;> rcases h' with ⟨b1, b2, b3⟩ | ⟨b1, b2, b3⟩
  · exact ⟨a3.one b3, a1.trans b1.symm⟩
  · exact absurd a2 b2
  · exact absurd b2 a2
  · exact ⟨a3.trans b3.symm, a1.trans b1.symm⟩
theorem run_store_one64 {w : World} {b o : Nat} (hc : (w.cell? ⟨b, o, none⟩).isSome = true) (hz : w.frozen? ⟨b, o, none⟩ = false) (v : Int) : (storeVar 2 ⟨b, o, none⟩ (.int .i64 v)).run Try.prog w = .ok () (w.setCell ⟨b, o, none⟩ (.int .i64 v)) := by
  obtain ⟨u, hu⟩ := Option.isSome_iff_exists.1 hc
  go_simp
theorem wpList_store_row64 {w : World} {ops : Array Oper} {rest : List Oper} {o : Oper} {a : Act} {Q : Exit → Act → World → Prop} (hgd : o.guard = none) (hd : o.dst = none) (x y : Operand) (ho : o.op = .store 2 x y) (g j : Nat) (hx : a.eval x = .pointer (some ⟨g, j, none⟩)) (v : Int) (hy : a.eval y = .int .i64 v)
    {base n cap : Nat} {L : List Int} (hO : w.ownsRow base 2 1 (.slice (some ⟨g, 0, none⟩) n cap) n (kvs L)) (hj : j < L.length) (h : ∀ w1, w1.ownsRow base 2 1 (.slice (some ⟨g, 0, none⟩) n cap) n (kvs (L.set j v)) → Keeps (fun k => k = g) w w1 → wpList Try.prog ops Q rest a w1) : wpList Try.prog ops Q (o :: rest) a w := by
  have hB := own_clL hO
  have hl : j < (kvs L).length := by unfold kvs; rw [List.length_map]; exact hj
  exact wpList_plain hgd fun _ hK => by
    unfold Oper.wp execOp
    simp only [ho, hx, hy, Instr.storeAt, Instr.sureAddr, Sem.run_bind, Sem.run_pure, Result.andThen_ok, run_store_one64 (by rw [hB.c j _ (List.getElem?_eq_getElem hl)]; rfl) (hB.z j hl) v]
    refine hK _ _ ?_
    rw [hd]
    refine h _ ?_ ((Keeps.refl (fun k => k = g) w).setCell (p := ⟨g, j, none⟩) (fun _ => rfl) _)
    have := (hO.stored j (.int .i64 v)).1
    have e : kvs (L.set j v) = (kvs L).set j (.int .i64 v) := by unfold kvs; rw [List.map_set]
    rw [e]
    exact this
set_option maxHeartbeats 1000000 in
set_option maxRecDepth 100000 in
theorem points_any {w : World} {a : Option Addr} {cap : Nat} {l : List Cl} (hl : CSL w a l) (hc64 : ∀ c ∈ l, C64 c) (hn : l.length ≤ 2199023255552) (hz : a = none → cap = 0) : Calls Try.prog 7 #[.slice a l.length cap] w fun e w' => e = .returned (.bool true) ∧ Below w.heap.size w w' := by
  have hh := head_any w
  have HL : Hid (CSL w a l) := hl
  have HC : Hid (∀ c ∈ l, C64 c) := hc64
  have HZ : Hid (a = none → cap = 0) := hz
  have hnu := fun W x => num_any x W
  clear hl hc64 hz
  generalize hN : l.length = N at *
  have HN : Hid (l.length = N) := hN
  clear hN
  go_enter Try.func7, Try.ntmps7
  refine wp_seq_k (fun KK hKK => ?_)
  have hKH : Hid _ := hKK
  clear hKK
  go_wp2_with fail
  refine hKH.out _ _ ?_
  clear hKH KK
  refine wp_seq_k (fun KK hKK => ?_)
  have hKH : Hid _ := hKK
  clear hKK
  go_wp2_with (go_at_call 9; refine hh.mono ?_; clear hh; rintro e w1 ⟨rfl, k1⟩)
  refine hKH.out _ _ ?_
  clear hKH KK
  obtain ⟨cv, W2, hr2, hO2, k2⟩ := copy_calls (cap := cap) (HL.out.keep k1) HZ.out (by rw [HN.out]; exact hn)
  obtain ⟨ca, cc, rfl, hcs, -⟩ := csl_of hO2
  rw [HN.out] at hr2
  have HCS : Hid (CSL W2 ca l) := hcs
  clear hO2 hcs
  refine wp_seq_k (fun KK hKK => ?_)
  have hKH : Hid _ := hKK
  clear hKK
  go_wp2_with (at_builtin; refine wpList_append_tL rfl _ _ _ rfl _ _ _ W2 rfl rfl hr2 ?_; clear hr2)
  refine hKH.out _ _ ?_
  clear hKH KK
  have K2 := k1.trans k2
  clear k1 k2
  have hbp := byPoints_any (cap := cap) (HL.out.keep K2) HC.out (by rw [HN.out]; exact hn)
  rw [HN.out] at hbp
  refine wp_seq_k (fun KK hKK => ?_)
  have hKH : Hid _ := hKK
  clear hKK
  go_wp2_with (go_at_call 10; refine hbp.mono ?_; clear hbp; rintro e w3 ⟨n, ec, rfl, hB, k3⟩; have HB : Hid (BpA l n ec) := hB; clear hB)
  refine hKH.out _ _ ?_
  clear hKH KK
  have hky := keys_any (cap := cap) (HL.out.keep (K2.trans k3)) HC.out (by rw [HN.out]; exact hn)
  rw [HN.out] at hky
  refine wp_seq_k (fun KK hKK => ?_)
  have hKH : Hid _ := hKK
  clear hKK
  go_wp2_with (go_at_call 14; refine hky.mono ?_; clear hky; rintro e w4 ⟨kv, fc, rfl, hK, k4⟩; have HKA : Hid (KeA l w3 w4 kv fc) := hK; clear hK)
  refine hKH.out _ _ ?_
  clear hKH KK
  have hrb := rbyPoints_any (cap := cc) (HCS.out.keep (k3.trans k4)) (by rw [HN.out]; exact hn)
  rw [HN.out] at hrb
  refine wp_seq_k (fun KK hKK => ?_)
  have hKH : Hid _ := hKK
  clear hKK
  go_wp2_with (go_at_call 19; refine hrb.mono ?_; clear hrb; rintro e w5 ⟨m, gc, rfl, hB2, k5⟩; have HB2 : Hid (BpA l m gc) := hB2; clear hB2)
  refine hKH.out _ _ ?_
  clear hKH KK
  obtain ⟨e1, e2⟩ := HB.out.one HB2.out
  subst e1 e2
  clear HB HB2
  have hrk := rkeys_any (cap := cc) (HCS.out.keep ((k3.trans k4).trans k5)) (by rw [HN.out]; exact hn)
  rw [HN.out] at hrk
  refine wp_seq_k (fun KK hKK => ?_)
  have hKH : Hid _ := hKK
  clear hKK
  go_wp2_with (go_at_call 20; refine hrk.mono ?_; clear hrk; rintro e w6 ⟨sv, hc, rfl, hK2, k6⟩; have HKB : Hid (KeB l w5 w6 sv hc) := hK2; clear hK2)
  refine hKH.out _ _ ?_
  clear hKH KK
  obtain ⟨S, hX1, hOk⟩ := HKA.out.kx
  obtain ⟨S', sa, sc, hX2, rfl, hKs, hbs⟩ := HKB.out.kx
  obtain ⟨e1, e2⟩ := hX1.one hX2
  subst e1 e2
  have hSl : S.length ≤ N := by rw [← HN.out]; exact hX1.len
  have HX : Hid (KX l S fc) := hX1
  clear HKA HKB hX1 hX2
  obtain ⟨ka, kc, rfl, hKk, -, -⟩ := kl_of hOk
  have hsm := sameK_any (ca := kc) (cb := sc) ((hKk.keep k5).keep k6) hKs (by omega)
  have HOK : Hid (w6.ownsRow w3.heap.size 2 1 (.slice ka S.length kc) S.length (kvs S)) := k6.owns (k5.owns hOk (fun _ _ e => e)) (fun _ _ e => e)
  have HGB : Hid (∀ g, (Value.slice ka S.length kc).ownBlock = some g → w3.heap.size ≤ g ∧ g < w4.heap.size) := fun g e => ⟨owns_baseT hOk g e, owns_lt' hOk g e⟩
  have HSB : Hid (∀ b off, sa = some ⟨b, off, none⟩ → w5.heap.size ≤ b) := hbs
  have HKS : Hid (KL w6 sa S) := hKs
  have HCS6 : Hid (CSL w6 ca l ∧ (0 < l.length → ∀ b off, ca = some ⟨b, off, none⟩ → b < W2.heap.size)) := ⟨HCS.out.keep (((k3.trans k4).trans k5).trans k6), fun hp b off e => by
    obtain ⟨b', off', q1, q2⟩ := HCS.out.lt hp
    rw [q1] at e
    injection e with e
    injection e with e _ _
    omega⟩
  have K6 := (((K2.trans k3).trans k4).trans k5).trans k6
  have HSZ : Hid (W2.heap.size ≤ w3.heap.size ∧ w4.heap.size ≤ w5.heap.size ∧ w.heap.size ≤ W2.heap.size) := ⟨k3.size, k5.size, K2.size⟩
  have HL6 : Hid (CSL w6 a l) := HL.out.keep K6
  clear hOk hKk hKs hbs k3 k4 k5 k6
  rw [show decide (S = S) = true from decide_eq_true rfl] at hsm
  have s1 : (n != n) = false := by simp
  have s2 : (ec != ec) = false := by simp
  have s3 : (fc != fc) = false := by simp
  obtain ⟨M, hM⟩ : ∃ M, M = S.length := ⟨_, rfl⟩
  rw [← hM] at hsm hSl HOK HGB
  rw [← hM]
  have HM : Hid (M = S.length) := hM
  clear hM
  go_wp2_with (first | (go_at_call 12; refine (hnu _ _).mono ?_; rintro e wn ⟨rfl, hwn⟩; rw [hwn]; clear hwn wn) | (go_at_call 21; refine hsm.mono ?_; clear hsm; rintro e w7 ⟨rfl, k7⟩))
  have K67 : Hid (Keeps (fun _ => False) w6 w7) := k7
  go_loopw [12] (fun iv Wr => ∃ (k : Nat), iv = .int .i64 (k : Int) ∧ k ≤ M ∧ (∃ X : List Int, X.length = M ∧ Wr.ownsRow w3.heap.size 2 1 (.slice ka M kc) M (kvs X)) ∧ Keeps (fun i => (Value.slice ka M kc).ownBlock = some i) w7 Wr) (fun iv _ => M - (intOf iv).toNat)
  case atStart => exact ⟨0, rfl, Nat.zero_le _, ⟨S, HM.out.symm, k7.owns HOK.out (fun _ _ e => e)⟩, Keeps.refl _ _⟩
  case round =>
    obtain ⟨k, rfl, hk, ⟨X, hXl, hOX⟩, kr⟩ := hrel
    have HXL : Hid (X.length = M) := hXl
    clear hXl
    by_cases hlt : k < M
    · have j1 : decide ((k : Int) < (M : Int)) = true := decide_eq_true (by omega)
      have j2 : decide (k < M) = true := decide_eq_true hlt
      have j3 : (k : Int) < (M : Int) := by omega
      have j4 : (0 : Int) ≤ (k : Int) := by omega
      have hwi : IntKind.i64.wrap ((k : Int) + 1) = (k : Int) + 1 := by rw [IntKind.wrap_i64]; omega
      obtain ⟨a9, c9, e9, hK9, -, -⟩ := kl_of hOX
      injection e9 with e91 _ _
      subst e91
      obtain ⟨g, off, eg, hc9⟩ := hK9 k (by rw [HXL.out]; exact hlt)
      obtain ⟨a8, c8, e8, -, -, h80⟩ := own_slice hOX
      injection e8 with e81 _ _
      subst e81
      obtain ⟨h8a, h8b⟩ := h80 g off eg
      subst h8a eg
      have c0 : wr.cell? ⟨g, k, none⟩ = some (.int .i64 (X.getD k 0)) := by rw [Nat.zero_add] at hc9; exact hc9
      have HOX : Hid (wr.ownsRow w3.heap.size 2 1 (.slice (some ⟨g, 0, none⟩) M kc) M (kvs X)) := hOX
      have HKX : Hid (k < X.length) := by show _ < _; rw [HXL.out]; exact hlt
      clear hOX hK9 hc9 h80 h8b
      generalize X.getD k 0 = x at *
      go_wp2_with (refine wpList_store_row64 rfl rfl _ _ rfl g k rfl _ rfl HOX.out HKX.out ?_; intro w8 hO8 k8)
      go_roundw
      case rel => exact ⟨k + 1, by go_num, by omega, ⟨_, by rw [List.length_set]; exact HXL.out, hO8⟩, kr.trans' k8 (fun _ _ e => e) (fun i hi e => by have e : i = g := e; rw [e]; rfl)⟩
      case measure => simp [intOf]; omega
    · have j1 : decide ((k : Int) < (M : Int)) = false := decide_eq_false (by omega)
      have j2 : decide (k < M) = false := decide_eq_false hlt
      have hnb : ∀ i, i < w3.heap.size → ¬ (Value.slice ka M kc).ownBlock = some i := fun i hi e => by
        have := (HGB.out i e).1
        omega
      have Kw7 := K6.trans K67.out
      have hl8 : CSL wr a l := (HL6.out.keep K67.out).keepS kr (fun hp b off e hb => by
        obtain ⟨b', off', q1, q2⟩ := HL.out.lt hp
        rw [q1] at e
        injection e with e
        injection e with e _ _
        have := HSZ.out
        exact hnb b (by omega))
      have hc8 : CSL wr ca l := (HCS6.out.1.keep K67.out).keepS kr (fun hp b off e hb => hnb b (by have := HCS6.out.2 hp b off e; have := HSZ.out; omega))
      have hs8 : KL wr sa S := (HKS.out.keep K67.out).keepS kr (fun b off e e' => by
        have h1 := HSB.out b off e
        have h2 := (HGB.out b e').2
        have := HSZ.out
        omega)
      have Kw8 : Keeps (fun _ => False) w wr := Kw7.trans' kr (fun _ _ e => e) (fun i hi e => hnb i (by have := HSZ.out; omega) e)
      have hky := keys_any (cap := cap) hl8 HC.out (by rw [HN.out]; exact hn)
      rw [HN.out] at hky
      have HEND : Hid (∀ W kv fc2, KeA l wr W kv fc2 → Keeps (fun _ => False) wr W → ∃ ka2 kc2, kv = .slice ka2 M kc2 ∧ fc2 = fc ∧ Calls Try.prog 21 #[.slice ka2 M kc2, .slice sa M sc] W fun e w' => e = .returned (.bool true) ∧ Keeps (fun _ => False) W w') := fun W kv fc2 h kW => by
        obtain ⟨S2, hX2, hO2⟩ := h.kx
        obtain ⟨e1, e2⟩ := hX2.one HX.out
        subst e1 e2
        obtain ⟨ka2, kc2, rfl, hk2, -, -⟩ := kl_of hO2
        have := sameK_any (ca := kc2) (cb := sc) hk2 (hs8.keep kW) (by rw [← HM.out]; omega)
        rw [show decide (S2 = S2) = true from decide_eq_true rfl] at this
        rw [HM.out]
        exact ⟨ka2, kc2, rfl, rfl, this⟩
      have HSC : Hid (∀ W, Keeps (fun _ => False) wr W → Calls Try.prog 22 #[.slice a N cap, .slice ca N cc] W fun e w' => e = .returned (.bool true) ∧ Keeps (fun _ => False) W w') := fun W kW => by
        have := sameCalls_ok cap cc (hl8.keep kW) (hc8.keep kW) (by rw [HN.out]; omega)
        rw [HN.out] at this
        exact this
      have s4 : (fc == fc) = true := by simp
      go_wp2_with (first | (go_at_call 14; refine hky.mono ?_; clear hky; rintro e w9 ⟨kv, fc2, rfl, hK, k9⟩; obtain ⟨ka2, kc2, rfl, rfl, hsm⟩ := HEND.out w9 kv fc2 hK k9; clear hK HEND) | (go_at_call 21; refine hsm.mono ?_; clear hsm; rintro e w10 ⟨rfl, k10⟩; have hsc := HSC.out w10 (k9.trans k10); clear HSC) | (go_at_call 12; refine (hnu _ _).mono ?_; rintro e wn ⟨rfl, hwn⟩; rw [hwn]; clear hwn wn) | (go_at_call 22; refine hsc.mono ?_; clear hsc; rintro e w11 ⟨rfl, k11⟩))
      go_ret
      exact ⟨rfl, (((Kw8.trans k9).trans k10).trans k11).below (Nat.le_refl _) (fun _ _ e => e)⟩
end Go.Proofs.Ytlglhmmlebjidaa
