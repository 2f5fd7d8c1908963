import Derived.Test.YtfbbllokpikbiaaGrH
namespace Go.Proofs.Ytfbbllokpikbiaa
open Go.RowKit Go.Deep
attribute [local go_sem] Oper.semAt_some run_store_nf run_store_f
theorem el_made (W : World) (l : List Ed) : EL (W.alloc (.cells (ecl l).toArray 32)) (some ⟨W.heap.size, 0, none⟩) l := fun i hi => ⟨_, 0, rfl, fun j v hv => by
  have := (CL.made W (ecl l) 32).c (i * 4 + j) v (ecl_get l i hi j v hv)
  rw [Nat.zero_add]
  exact this⟩
def e10 : Ed := ⟨1, 0, 0, 0⟩
def e01 : Ed := ⟨0, 1, 0, 0⟩
def e12 : Ed := ⟨1, 2, 0, 0⟩
theorem one_reach (W : World) : Calls Try.prog 11 #[.int .i64 2, .slice (some ⟨W.heap.size, 0, none⟩) 1 1, .int .i64 1, .int .i64 0] (W.alloc (.cells e10.cells.toArray 32)) fun e w' => e = .returned (.tuple #[.bool true, .int .i64 0]) ∧ Keeps (fun _ => False) W w' := by
  have h := Reaches_any (cap := 1) (l := [e10]) 2 1 0 (el_made W [e10]) (by decide)
  refine h.mono ?_
  rintro e w' ⟨x, ec, rfl, hA, k⟩
  have hA2 : ReA 2 [e10] 1 0 true 0 := .inr (.inr ⟨by decide, by decide, rfl, fun g e => ⟨fun _ => ?_, fun _ => rfl⟩⟩)
  · obtain ⟨rfl, rfl⟩ := hA.one hA2
    exact ⟨rfl, ((Keeps.refl _ W).alloc _).trans k⟩
  · have e2 : [e10] = [(⟨1, 0, 0, 0⟩ : Eg)].map Eg.ed := rfl
    rw [e2] at e
    rw [← eg_inj e]
    exact ⟨1, .one (⟨1, 0, 0, 0⟩ : Eg) (by simp)⟩
theorem two_reach (W : World) : Calls Try.prog 11 #[.int .i64 3, .slice (some ⟨W.heap.size, 0, none⟩) 2 2, .int .i64 0, .int .i64 2] (W.alloc (.cells (e01.cells ++ e12.cells).toArray 32)) fun e w' => e = .returned (.tuple #[.bool true, .int .i64 0]) ∧ Keeps (fun _ => False) W w' := by
  have h := Reaches_any (cap := 2) (l := [e01, e12]) 3 0 2 (el_made W [e01, e12]) (by decide)
  refine h.mono ?_
  rintro e w' ⟨x, ec, rfl, hA, k⟩
  have hA2 : ReA 3 [e01, e12] 0 2 true 0 := .inr (.inr ⟨by decide, by decide, rfl, fun g e => ⟨fun _ => ?_, fun _ => rfl⟩⟩)
  · obtain ⟨rfl, rfl⟩ := hA.one hA2
    exact ⟨rfl, ((Keeps.refl _ W).alloc _).trans k⟩
  · have e2 : [e01, e12] = [(⟨0, 1, 0, 0⟩ : Eg), ⟨1, 2, 0, 0⟩].map Eg.ed := rfl
    rw [e2] at e
    rw [← eg_inj e]
    exact ⟨2, .more (⟨0, 1, 0, 0⟩ : Eg) (by simp) (.one (⟨1, 2, 0, 0⟩ : Eg) (by simp))⟩
set_option maxHeartbeats 1000000 in
set_option maxRecDepth 100000 in
theorem Parts_no {w : World} {a : Option Addr} {cap : Nat} {l : List Ed} (n : Int) (hl : EL w a l) (hlen : l.length ≤ 4398046511104) (h0 : fltG n l ≠ 0) : Calls Try.prog 22 #[.int .i64 n, .slice a l.length cap] w fun e w' => e = .returned (.tuple #[.slice none 0 0, .int .i64 (fltG n l)]) ∧ Keeps (fun _ => False) w w' := by
  have hfa := fault_any (cap := cap) n hl hlen
  have s1 : (fltG n l == 0) = false := by rw [beq_eq_false_iff_ne]; exact h0
  have s2 : (fltG n l != 0) = true := by rw [bne_iff_ne]; exact h0
  clear h0
  generalize fltG n l = R at *
  generalize l.length = N at *
  go_enter Try.func22, Try.ntmps22
  go_wp2_with (go_at_call 26; refine hfa.mono ?_; clear hfa; rintro e w1 ⟨rfl, k1⟩)
  go_ret2
  exact ⟨rfl, k1⟩
set_option maxHeartbeats 1000000 in
set_option maxRecDepth 100000 in
theorem names20 (w : World) : Calls Try.prog 7 #[] w fun e w' => e = .returned (.bool true) ∧ Below w.heap.size w w' := by
  have htr := two_reach w
  have HPN : Hid (∀ W, Calls Try.prog 22 #[.int .i64 4097, .slice none 0 0] W fun e w' => e = .returned (.tuple #[.slice none 0 0, .int .i64 200]) ∧ Keeps (fun _ => False) W w') := fun W => Parts_no (a := none) (cap := 0) (l := []) 4097 (fun i hi => absurd hi (by simp)) (by decide) (by decide)
  go_enter Try.func7, Try.ntmps7
  go_wp2_with (first | (refine wpList_build2L uE iE (by decide) (by decide) rfl _ _ rfl e01.cells e12.cells rfl rfl rfl rfl ?_) | (go_at_call 11; refine htr.mono ?_; clear htr; rintro e w1 ⟨rfl, k1⟩; have hpn := HPN.out w1) | (go_at_call 22; refine hpn.mono ?_; clear hpn; rintro e w2 ⟨rfl, k2⟩))
  go_ret
  exact ⟨rfl, (k1.trans k2).below (Nat.le_refl _) (fun _ _ e => e)⟩
set_option maxHeartbeats 1000000 in
set_option maxRecDepth 100000 in
theorem greaches_any {w : World} {a : Option Addr} {cap : Nat} {l : List Ed} (n : Int) (hl : EL w a l) (hz : a = none → cap = 0) (hlen : l.length ≤ 4398046510976) (fr to_ : Int) : Calls Try.prog 3 #[.agg #[.int .i64 n, .slice a l.length cap, .int .i64 fr, .int .i64 to_]] w fun e w' => e = .returned (.bool true) ∧ Below w.heap.size w w' := by
  obtain ⟨W1, hW1⟩ : ∃ W1, W1 = w.alloc (.cells #[.int .i64 n, .slice a l.length cap, .int .i64 fr, .int .i64 to_] 24) := ⟨_, rfl⟩
  have k1 : Keeps (fun _ => False) w W1 := by rw [hW1]; exact (Keeps.refl _ w).alloc _
  have b1 : CL W1 w.heap.size [.int .i64 n, .slice a l.length cap, .int .i64 fr, .int .i64 to_] := by rw [hW1]; exact CL.made w [.int .i64 n, .slice a l.length cap, .int .i64 fr, .int .i64 to_] 24
  have HW1 : Hid (W1 = w.alloc (.cells #[.int .i64 n, .slice a l.length cap, .int .i64 fr, .int .i64 to_] 24)) := hW1
  clear hW1
  have HB : Hid (∀ W, Keeps (fun _ => False) W1 W → CL W w.heap.size [.int .i64 n, .slice a l.length cap, .int .i64 fr, .int .i64 to_]) := fun W k => b1.keep (by show 0 < 4; decide) k (fun e => e)
  have HL : Hid (EL W1 a l) := hl.keep k1
  have hed := edgesOf_any HL.out hz hlen
  have HRR : Hid (∀ W, Keeps (fun _ => False) W1 W → Calls Try.prog 10 #[.int .i64 n, .slice a l.length cap, .int .i64 fr, .int .i64 to_] W (ReP n l fr to_ W)) := fun W k => rReaches_any n fr to_ (HL.out.keep k) hlen
  have HPR : Hid (∀ W g c X EC, ReA n l fr to_ X EC → EL W (some ⟨g, 0, none⟩) l → Calls Try.prog 11 #[.int .i64 n, .slice (some ⟨g, 0, none⟩) l.length c, .int .i64 fr, .int .i64 to_] W fun e w' => e = .returned (.tuple #[.bool X, .int .i64 EC]) ∧ Keeps (fun _ => False) W w') := fun W g c X EC hA hE => (Reaches_any (cap := c) n fr to_ hE (by omega)).mono (by
    rintro e w' ⟨x, ec, rfl, hA2, k⟩
    obtain ⟨rfl, rfl⟩ := hA.one hA2
    exact ⟨rfl, k⟩)
  have HASW : Hid (∀ W g c, Keeps (fun _ => False) W1 W → EL W (some ⟨g, 0, none⟩) (l ++ [e77, e78]) → Calls Try.prog 12 #[.slice (some ⟨g, 0, none⟩) (l.length + 2) c, .slice a l.length cap] W fun e w' => e = .returned (.bool true) ∧ Keeps (fun _ => False) W w') := fun W g c k hE => asWas_ok c cap hE (HL.out.keep k) hlen
  have HONE : Hid (∀ W : World, Calls Try.prog 11 #[.int .i64 2, .slice (some ⟨W.heap.size, 0, none⟩) 1 1, .int .i64 1, .int .i64 0] (W.alloc (.cells e10.cells.toArray 32)) fun e w' => e = .returned (.tuple #[.bool true, .int .i64 0]) ∧ Keeps (fun _ => False) W w') := fun W => one_reach W
  have HLEN : Hid (∀ W v, W.ownsRow W1.heap.size 32 4 v (l.length + 2) (ecl (l ++ [e77, e78])) → ∃ g c, v = .slice (some ⟨g, 0, none⟩) (l.length + 2) c ∧ l.length + 2 ≤ c ∧ EL W (some ⟨g, 0, none⟩) (l ++ [e77, e78])) := fun W v h => by
    obtain ⟨a', c', rfl, hE, -⟩ := el_of h
    rcases h.2 with ⟨q, q2⟩ | ⟨g, cap', cur, q, -, -, h1, -⟩
    · injection q with q3 q4 q5
      omega
    · injection q with q1 _ q2
      subst q1 q2
      exact ⟨g, c', rfl, h1, hE⟩
  have HAPP : Hid (∀ W g, EL W (some ⟨g, 0, none⟩) (l ++ [e77, e78]) → EL W (some ⟨g, 0, none⟩) l) := fun W g h => el_app h
  have p0 := b1.c 0 _ rfl
  have p1 := b1.c 1 _ rfl
  have p2 := b1.c 2 _ rfl
  have p3 := b1.c 3 _ rfl
  clear hl hz b1
  generalize l.length = N at *
  go_enter Try.func3, Try.ntmps3
  refine wp_seq_k (fun KK hKK => ?_)
  have hKH : Hid _ := hKK
  clear hKK
  go_wp2_with fail
  refine hKH.out _ _ ?_
  clear hKH KK
  rw [← HW1.out]
  clear HW1
  refine wp_seq_k (fun KK hKK => ?_)
  have hKH : Hid _ := hKK
  clear hKK
  go_wp2_with (go_at_call 9; refine hed.mono ?_; clear hed; rintro e w2 ⟨v, rfl, ho, k2⟩; obtain ⟨gr, rc, rfl, hrc, hER⟩ := HLEN.out w2 v ho; clear HLEN ho p0 p1 p2 p3; have hb2 := HB.out w2 k2; have p0 := hb2.c 0 _ rfl; have p1 := hb2.c 1 _ rfl; have p2 := hb2.c 2 _ rfl; have p3 := hb2.c 3 _ rfl; clear hb2; have hrr := HRR.out w2 k2; clear HRR)
  refine hKH.out _ _ ?_
  clear hKH KK
  refine wp_seq_k (fun KK hKK => ?_)
  have hKH : Hid _ := hKK
  clear hKK
  go_wp2_with (go_at_call 10; refine hrr.mono ?_; clear hrr; rintro e w3 ⟨X, EC, rfl, hA, k3⟩; clear p0 p1 p2 p3)
  refine hKH.out _ _ ?_
  clear hKH KK
  have K3 : Keeps (fun _ => False) W1 w3 := k2.trans k3
  have hb3 := HB.out w3 K3
  have p0 : ∀ u : KS w3, u.1.cell? ⟨w.heap.size, 0, none⟩ = some (.int .i64 n) := ks_cell (hb3.c 0 _ rfl)
  have p1 : ∀ u : KS w3, u.1.cell? ⟨w.heap.size, 1, none⟩ = some (.slice a N cap) := ks_cell (hb3.c 1 _ rfl)
  have p2 : ∀ u : KS w3, u.1.cell? ⟨w.heap.size, 2, none⟩ = some (.int .i64 fr) := ks_cell (hb3.c 2 _ rfl)
  have p3 : ∀ u : KS w3, u.1.cell? ⟨w.heap.size, 3, none⟩ = some (.int .i64 to_) := ks_cell (hb3.c 3 _ rfl)
  have hpr : ∀ u : KS w3, Calls Try.prog 11 #[.int .i64 n, .slice (some ⟨gr, 0, none⟩) N rc, .int .i64 fr, .int .i64 to_] u.1 fun e w' => e = .returned (.tuple #[.bool X, .int .i64 EC]) ∧ Keeps (fun _ => False) u.1 w' := fun u => HPR.out u.1 gr rc X EC hA (HAPP.out _ _ ((hER.keep k3).keep u.property))
  have HER : Hid (EL w3 (some ⟨gr, 0, none⟩) (l ++ [e77, e78])) := hER.keep k3
  have hNE : Nonempty (KS w3) := ⟨⟨w3, Keeps.refl _ w3⟩⟩
  have m1 : (0 : Int) ≤ (N : Int) := by omega
  have m2 : (N : Int) ≤ (rc : Int) := by omega
  have m3 : N ≤ rc := by omega
  clear hA hER hb3 HPR HAPP k2 k3
  go_wp2_with fail
  refine wp_region_ks (by kernel_rfl) (by kernel_rfl) ?_
  (repeat (first | go_big_quiet_skip | go_big_quiet_step ((go_at_call 11; with_reducible refine (hpr _).mono ?_; rintro e w9 ⟨rfl, k9⟩; exact ⟨rfl, ⟨_, (KS.property _).trans k9⟩, rfl⟩))))
  refine wpQuiet_nil ?_
  rintro _ ⟨u, rfl⟩
  have K4 := K3.trans u.property
  have hER4 := HER.out.keep u.property
  clear hpr p0 p1 p2 p3 hNE HER K3
  generalize u.val = w4 at *
  have hon := HONE.out w4
  have HER4 : Hid (EL w4 (some ⟨gr, 0, none⟩) (l ++ [e77, e78])) := hER4
  clear hER4
  have x1 : (EC == EC) = true := by simp
  have x2 : (X == X) = true := by simp
  go_wp2_with (first | (refine wpList_build1L uE iE (by decide) (by decide) rfl _ rfl e10.cells rfl rfl ?_) | (go_at_call 11; refine hon.mono ?_; clear hon; rintro e w5 ⟨rfl, k5⟩; have p1 := (HB.out w5 (K4.trans k5)).c 1 _ rfl; have haw := HASW.out w5 gr rc (K4.trans k5) (HER4.out.keep k5)) | (go_at_call 12; refine haw.mono ?_; clear haw; rintro e w6 ⟨rfl, k6⟩))
  go_ret
  exact ⟨rfl, (((k1.trans K4).trans k5).trans k6).below (Nat.le_refl _) (fun _ _ e => e)⟩
end Go.Proofs.Ytfbbllokpikbiaa
