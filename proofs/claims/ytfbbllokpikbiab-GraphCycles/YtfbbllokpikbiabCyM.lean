import Derived.Test.YtfbbllokpikbiabCyE
import Derived.Test.YtfbbllokpikbiabCyF
import Derived.Test.YtfbbllokpikbiabGrR
namespace Go.Proofs.Ytfbbllokpikbiab
open Go.RowKit Go.Deep
attribute [local go_sem] Oper.semAt_some run_store_nf run_store_f
theorem CcA.len {n : Int} {l : List Ed} {L : List Nat} {ec : Int} (h : CcA n l L ec) : L.length ≤ 4096 := by
  rcases h with ⟨-, -, rfl⟩ | ⟨h1, -, h3⟩
  · exact Nat.zero_le _
  · obtain ⟨m, g, e1, hm, e2, hbl⟩ := good_eg h1
    have := ((h3 m g e1 e2).rnd hbl).le
    omega
def e21 : Ed := ⟨2, 1, 0, 0⟩
def g21 : List Eg := [⟨2, 1, 0, 0⟩, ⟨1, 2, 0, 0⟩]
theorem g21_no1 : ∀ {k u v : Nat}, Pth g21 k u v → (u = 1 ∨ u = 2) ∧ (k = 1 → u ≠ v) := by
  intro k u v h
  cases h with
  | one e he =>
    unfold g21 at he
    simp at he
    rcases he with rfl | rfl <;> simp
  | more e he h2 =>
    have := h2.pos
    unfold g21 at he
    simp at he
    rcases he with rfl | rfl <;> refine ⟨by simp, fun q => by omega⟩
theorem cyc21 : CycA g21 3 [1, 2] := by
  have m1 : (⟨2, 1, 0, 0⟩ : Eg) ∈ g21 := by simp [g21]
  have m2 : (⟨1, 2, 0, 0⟩ : Eg) ∈ g21 := by simp [g21]
  have p2 : Pth g21 1 2 1 := .one (⟨2, 1, 0, 0⟩ : Eg) m1
  have p1 : Pth g21 2 1 1 := .more (⟨1, 2, 0, 0⟩ : Eg) m2 p2
  refine .inr ⟨1, 2, by omega, fun v hv => ?_, ⟨p1, fun j hj => ?_⟩, ⟨by decide, rfl, by decide, fun i hi => ?_⟩, rfl⟩
  · rintro ⟨k, hk⟩
    have := (g21_no1 hk).1
    omega
  · have h1 := hj.pos
    have h2 := (g21_no1 hj).2
    by_cases e : j = 1
    · exact absurd rfl (h2 e)
    · omega
  · obtain rfl : i = 0 := by have hi : i + 1 < 2 := hi; omega
    refine ⟨⟨⟨1, 2, 0, 0⟩, m2, rfl, rfl⟩, ⟨.inr p2, fun j hj => ?_⟩, fun e he q _ => ?_⟩
    · show 1 ≤ j
      rcases hj with ⟨_, e⟩ | hj
      · exact absurd e (by decide)
      · exact hj.pos
    · unfold g21 at he
      simp at he
      rcases he with rfl | rfl
      · exact absurd q (by decide)
      · exact Nat.le_refl _
theorem two_cyc (W : World) : Calls Try.prog 7 #[.int .i64 3, .slice (some ⟨W.heap.size, 0, none⟩) 2 2] (W.alloc (.cells (e21.cells ++ e12.cells).toArray 30)) fun e w' => ∃ va vc, e = .returned (.tuple #[.slice va 2 vc, .int .i64 0]) ∧ w'.ownsRow W.heap.size 3 1 (.slice va 2 vc) 2 (pvs [1, 2]) ∧ Keeps (fun _ => False) W w' := by
  refine (Cycle_any (cap := 2) (l := [e21, e12]) 3 (el_made W [e21, e12]) (by decide)).mono ?_
  rintro e w' ⟨va, vc, L, ec, rfl, hr, hA, k⟩
  have hA2 : CcA 3 [e21, e12] [1, 2] 0 := .inr ⟨by decide, rfl, fun m g e1 e2 => by
    obtain rfl : m = 3 := by omega
    have e3 : [e21, e12] = g21.map Eg.ed := rfl
    rw [e3] at e2
    rw [← eg_inj e2]
    exact cyc21⟩
  obtain ⟨rfl, rfl⟩ := hA.one hA2
  have ka : Keeps (fun _ => False) W (W.alloc (.cells (ecl [e21, e12]).toArray 30)) := (Keeps.refl _ W).alloc _
  exact ⟨va, vc, rfl, owns_low hr ka.size, ka.trans k⟩
theorem same_12 (W : World) (va : Option Addr) (vc : Nat) (h : PM W va [1, 2]) : Calls Try.prog 12 #[.slice va 2 vc, .slice (some ⟨W.heap.size, 0, none⟩) 2 2] (W.alloc (.cells #[.int .i64 1, .int .i64 2] 3)) fun e w' => e = .returned (.bool true) ∧ Keeps (fun _ => False) W w' := by
  have ka := (Keeps.refl (fun _ => False) W).alloc (.cells #[.int .i64 1, .int .i64 2] 3)
  refine (sameInts_ok (xs := [1, 2]) vc 2 (h.keep ka) (fun i hi => ⟨_, 0, rfl, ?_⟩) (by decide)).mono ?_
  · have hc := (CL.made W (pvs [1, 2]) 3).c i (.int .i64 (([1, 2].getD i 0 : Nat) : Int)) (by
      unfold pvs
      rw [List.getElem?_map, List.getElem?_eq_getElem hi, List.getD_eq_getElem?_getD, List.getElem?_eq_getElem hi]
      rfl)
    rw [Nat.zero_add]
    exact hc
  · rintro e w' ⟨rfl, k⟩
    exact ⟨rfl, ka.trans k⟩
set_option maxHeartbeats 1500000 in
set_option maxRecDepth 100000 in
theorem gcycles_any {w : World} (n : Int) (_ : I64 n) {a : Option Addr} {cap : Nat} {l : List Ed} (hl : EL w a l) (hz : a = none → cap = 0) (hlen : l.length ≤ 4398046510976) : Calls Try.prog 4 #[.int .i64 n, .slice a l.length cap] w fun e w' => e = .returned (.bool true) ∧ Below w.heap.size w w' := by
  have hed := edgesOf_any hl hz hlen
  have HL : Hid (EL w a l) := hl
  have HRO : Hid (∀ W, Keeps (fun _ => False) w W → Calls Try.prog 11 #[.int .i64 n, .slice a l.length cap] W (CcP n l W)) := fun W k => rCycle_any n (HL.out.keep k) hlen
  have HPO : Hid (∀ W g c L EC, CcA n l L EC → EL W (some ⟨g, 0, none⟩) (l ++ [e77, e78]) → Calls Try.prog 7 #[.int .i64 n, .slice (some ⟨g, 0, none⟩) l.length c] W fun e w' => ∃ va vc, e = .returned (.tuple #[.slice va L.length vc, .int .i64 EC]) ∧ w'.ownsRow W.heap.size 3 1 (.slice va L.length vc) L.length (pvs L) ∧ Keeps (fun _ => False) W w') := fun W g c L EC hA hE => (Cycle_any (cap := c) n (el_app hE) (by omega)).mono (by
    rintro e w' ⟨va, vc, L', ec, rfl, hr, hA2, k⟩
    obtain ⟨rfl, rfl⟩ := hA.one hA2
    exact ⟨va, vc, rfl, hr, k⟩)
  have HAW : Hid (∀ W g c, EL W a l → EL W (some ⟨g, 0, none⟩) (l ++ [e77, e78]) → Calls Try.prog 13 #[.slice (some ⟨g, 0, none⟩) (l.length + 2) c, .slice a l.length cap] W fun e w' => e = .returned (.bool true) ∧ Keeps (fun _ => False) W w') := fun W g c h1 h2 => asWas_ok c cap h2 h1 hlen
  have HROOM : Hid (∀ W base v, W.ownsRow base 30 4 v (l.length + 2) (ecl (l ++ [e77, e78])) → ∃ g c, v = .slice (some ⟨g, 0, none⟩) (l.length + 2) c ∧ l.length + 2 ≤ c ∧ EL W (some ⟨g, 0, none⟩) (l ++ [e77, e78]) ∧ g < W.heap.size) := fun W base v h => roomy_of rfl h
  clear hl hz
  generalize l.length = N at *
  have m1 : (0 : Int) ≤ (N : Int) := by omega
  go_enter Try.func4, Try.ntmps4
  refine wp_seq_k (fun KK hKK => ?_)
  have hKH : Hid _ := hKK
  clear hKK
  go_wp2_with fail
  refine hKH.out _ _ ?_
  clear hKH KK
  refine wp_seq_k (fun KK hKK => ?_)
  have hKH : Hid _ := hKK
  clear hKK
  go_wp2_with (go_at_call 10; refine hed.mono ?_; clear hed; rintro e w1 ⟨v, rfl, ho, k1⟩; obtain ⟨gr, rc, rfl, hrc, hER, hgl⟩ := HROOM.out w1 _ v ho; clear HROOM ho; have hro := HRO.out w1 k1; clear HRO)
  refine hKH.out _ _ ?_
  clear hKH KK
  refine wp_seq_k (fun KK hKK => ?_)
  have hKH : Hid _ := hKK
  clear hKK
  go_wp2_with (go_at_call 11; refine hro.mono ?_; clear hro; rintro e w2 ⟨wa, wc, L, EC, rfl, hw, hA, k2⟩)
  refine hKH.out _ _ ?_
  clear hKH KK
  have m2 : (N : Int) ≤ (rc : Int) := by omega
  have m3 : N ≤ rc := by omega
  have HER : Hid (EL w1 (some ⟨gr, 0, none⟩) (l ++ [e77, e78])) := hER
  have HW : Hid (w2.ownsRow w1.heap.size 3 1 (.slice wa L.length wc) L.length (pvs L)) := hw
  have HA : Hid (CcA n l L EC) := hA
  have hLn := hA.len
  have hpo := HPO.out w2 gr rc L EC hA (hER.keep k2)
  have hz1 := k1.size
  have hz2 := k2.size
  clear hER hw hA
  refine wp_seq_k (fun KK hKK => ?_)
  have hKH : Hid _ := hKK
  clear hKK
  go_wp2_with (go_at_call 7; refine hpo.mono ?_; clear hpo; rintro e w3 ⟨la, lc, rfl, hr3, k3⟩)
  refine hKH.out _ _ ?_
  clear hKH KK
  have HL3 : Hid (w3.ownsRow w2.heap.size 3 1 (.slice la L.length lc) L.length (pvs L)) := hr3
  have hz3 := k3.size
  have htc := two_cyc w3
  refine wp_seq_k (fun KK hKK => ?_)
  have hKH : Hid _ := hKK
  clear hKK
  go_wp2_with (first | (refine wpList_build2L uE iE (by decide) (by decide) rfl _ _ rfl e21.cells e12.cells rfl rfl rfl rfl ?_) | (go_at_call 7; refine htc.mono ?_; clear htc; rintro e wq ⟨ca, cc, rfl, hrq, kq⟩))
  refine hKH.out _ _ ?_
  clear hKH KK
  have HC : Hid (wq.ownsRow w3.heap.size 3 1 (.slice ca 2 cc) 2 (pvs [1, 2])) := hrq
  have hsi := sameInts_ok lc wc ((PM.of hr3).keep kq) (((PM.of HW.out).keep k3).keep kq) (by omega)
  have hzq := kq.size
  clear hr3 hrq
  have x1 : (EC != EC) = false := by simp
  generalize hM : L.length = M at *
  have HM : Hid (L.length = M) := hM
  clear hM
  refine wp_seq_k (fun KK hKK => ?_)
  have hKH : Hid _ := hKK
  clear hKK
  go_wp2_with (go_at_call 12; refine hsi.mono ?_; clear hsi; rintro e w4 ⟨rfl, k4⟩)
  refine hKH.out _ _ ?_
  clear hKH KK
  have hz4 := k4.size
  have hpo : Calls Try.prog 7 #[.int .i64 n, .slice (some ⟨gr, 0, none⟩) N rc] w4 fun e w' => ∃ va vc, e = .returned (.tuple #[.slice va M vc, .int .i64 EC]) ∧ w'.ownsRow w4.heap.size 3 1 (.slice va M vc) M (pvs L) ∧ Keeps (fun _ => False) w4 w' := by
    have h := HPO.out w4 gr rc L EC HA.out ((((HER.out.keep k2).keep k3).keep kq).keep k4)
    rw [HM.out] at h
    exact h
  clear HPO x1
  refine wp_seq_k (fun KK hKK => ?_)
  have hKH : Hid _ := hKK
  clear hKK
  go_wp2_with (go_at_call 7; refine hpo.mono ?_; clear hpo; rintro e w5 ⟨ga, gc, rfl, hr5, k5⟩)
  refine hKH.out _ _ ?_
  clear hKH KK
  have HG5 : Hid (w5.ownsRow w4.heap.size 3 1 (.slice ga M gc) M (pvs L)) := hr5
  have hz5 := k5.size
  have HLO : Hid (∀ b, (Value.slice la M lc).ownBlock = some b → w2.heap.size ≤ b ∧ b < w3.heap.size) := fun b e => ⟨owns_baseT HL3.out b e, owns_lt' HL3.out b e⟩
  have HLB : Hid (0 < M → ∃ bl F, la = some ⟨bl, 0, none⟩ ∧ FB w5 bl M F ∧ (Value.slice la M lc).ownBlock = some bl) := fun h0 => by
    have h := HL3.out
    rw [← HM.out] at h h0
    obtain ⟨bl, F, q1, q2, q3⟩ := row_fb h h0
    rw [HM.out] at q2 q3
    exact ⟨bl, F, q1, ((q2.keep kq (fun e => e)).keep k4 (fun e => e)).keep k5 (fun e => e), q3⟩
  have HFIN : Hid (∀ W, Keeps (fun b => (Value.slice la M lc).ownBlock = some b) w5 W → (PM W ca [1, 2] ∧ PM W ga L) ∧ PM W wa L ∧ EL W a l ∧ EL W (some ⟨gr, 0, none⟩) (l ++ [e77, e78]) ∧ Keeps (fun _ => False) w W) := fun W k => by
    have hlo := HLO.out
    refine ⟨⟨(((PM.of HC.out).keep k4).keep k5).keepS k (fun b off e q => ?_), (PM.of HG5.out).keepS k (fun b off e q => ?_)⟩, (((((PM.of HW.out).keep k3).keep kq).keep k4).keep k5).keepS k (fun b off e q => ?_), ((((((HL.out.keep k1).keep k2).keep k3).keep kq).keep k4).keep k5).keepS k (fun h0 b off e hb q => ?_), (((((HER.out.keep k2).keep k3).keep kq).keep k4).keep k5).keepS k (fun h0 b off e hb q => ?_), (((((k1.trans k2).trans k3).trans kq).trans k4).trans k5).trans' k (fun _ _ e => e) (fun b hb q => ?_)⟩
    · obtain ⟨a', c', e', -, -, ho⟩ := own_slice HC.out
      injection e' with e1 _ e3
      subst e1 e3
      have h1 := (ho b off e).2
      have h2 := owns_baseT HC.out b h1
      have := (hlo b q).2
      omega
    · obtain ⟨a', c', e', -, -, ho⟩ := own_slice HG5.out
      injection e' with e1 _ e3
      subst e1 e3
      have h1 := (ho b off e).2
      have h2 := owns_baseT HG5.out b h1
      have := (hlo b q).2
      omega
    · obtain ⟨a', c', e', -, -, ho⟩ := own_slice HW.out
      injection e' with e1 _ e3
      subst e1 e3
      have h1 := (ho b off e).2
      have h2 := owns_lt' HW.out b h1
      have := (hlo b q).1
      omega
    · obtain ⟨b', off', e', hb'⟩ := HL.out.lt h0
      rw [e] at e'
      injection e' with e'
      injection e' with e1 _ _
      have := (hlo b q).1
      omega
    · injection e with e
      injection e with e1 _ _
      have := (hlo b q).1
      omega
    · have := (hlo b q).1
      omega
  clear HL3 HG5 HLO HC hz1 hz2 hz3 hz4 hz5 hzq
  go_wp2_with fail
  go_loopw [14] (fun iv Wr => ∃ (i : Nat), iv = .int .i64 (i : Int) ∧ i ≤ M ∧ (0 < M → ∃ bl F, la = some ⟨bl, 0, none⟩ ∧ FB Wr bl M F ∧ (Value.slice la M lc).ownBlock = some bl) ∧ Keeps (fun b => (Value.slice la M lc).ownBlock = some b) w5 Wr) (fun iv _ => M - (intOf iv).toNat)
  case atStart => exact ⟨0, rfl, Nat.zero_le _, HLB.out, Keeps.refl _ _⟩
  case round =>
    obtain ⟨i, rfl, hi, hB, kr⟩ := hrel
    have HKR : Hid (Keeps (fun b => (Value.slice la M lc).ownBlock = some b) w5 wr) := kr
    clear HLB kr
    by_cases hlt : i < M
    · have j1 : decide ((i : Int) < (M : Int)) = true := decide_eq_true (by omega)
      have j2 : decide (i < M) = true := decide_eq_true hlt
      have j3 : (i : Int) < (M : Int) := by omega
      have j4 : (0 : Int) ≤ (i : Int) := by omega
      have hwi : IntKind.i64.wrap ((i : Int) + 1) = (i : Int) + 1 := by rw [IntKind.wrap_i64]; omega
      have hws : IntKind.i64.wrap (-77 - (i : Int)) = -77 - (i : Int) := by rw [IntKind.wrap_i64]; omega
      obtain ⟨bl, F, rfl, hF, hob⟩ := hB (by omega)
      have HOB : Hid ((Value.slice (some ⟨bl, 0, none⟩) M lc).ownBlock = some bl) := hob
      clear hob
      go_wp2_with (refine wpList_store_fi rfl rfl _ _ rfl bl i rfl _ rfl hF hlt ?_; intro w6 hf6 k6 hz6; clear hz6 hF)
      go_roundw
      case rel => exact ⟨i + 1, by go_num, by omega, fun _ => ⟨bl, _, rfl, hf6, HOB.out⟩, HKR.out.trans' k6 (fun _ _ e => e) (fun b hb e => by have e : b = bl := e; rw [e]; exact HOB.out)⟩
      case measure => simp [intOf]; omega
    · have j1 : decide ((i : Int) < (M : Int)) = false := decide_eq_false (by omega)
      have j2 : decide (i < M) = false := decide_eq_false hlt
      obtain ⟨⟨p0, p1⟩, p2, p3, p4, p5⟩ := HFIN.out wr HKR.out
      have hsi := sameInts_ok gc wc p1 p2 (by have := HM.out; omega)
      rw [HM.out] at hsi
      have HAF : Hid (∀ W, Keeps (fun _ => False) wr W → Calls Try.prog 13 #[.slice (some ⟨gr, 0, none⟩) (N + 2) rc, .slice a N cap] W fun e w' => e = .returned (.bool true) ∧ Keeps (fun _ => False) W w') := fun W k => HAW.out W gr rc (p3.keep k) (p4.keep k)
      have HSC : Hid (∀ W, Keeps (fun _ => False) wr W → Calls Try.prog 12 #[.slice ca 2 cc, .slice (some ⟨W.heap.size, 0, none⟩) 2 2] (W.alloc (.cells #[.int .i64 1, .int .i64 2] 3)) fun e w' => e = .returned (.bool true) ∧ Keeps (fun _ => False) W w') := fun W k => same_12 W ca cc (p0.keep k)
      have HP5 : Hid (Keeps (fun _ => False) w wr) := p5
      clear p0 p1 p2 p3 p4 p5 hB HFIN HKR
      go_wp2_with (first | (go_at_call 12; refine hsi.mono ?_; clear hsi; rintro e w7 ⟨rfl, k7⟩; have haw := HAF.out w7 k7) | (go_at_call 13; refine haw.mono ?_; clear haw; rintro e w8 ⟨rfl, k8⟩; have hs2 := HSC.out w8 (k7.trans k8)) | (go_at_call 12; refine hs2.mono ?_; clear hs2; rintro e w9 ⟨rfl, k9⟩))
      go_ret
      exact ⟨rfl, (((HP5.out.trans k7).trans k8).trans k9).below (Nat.le_refl _) (fun _ _ e => e)⟩
end Go.Proofs.Ytfbbllokpikbiab
