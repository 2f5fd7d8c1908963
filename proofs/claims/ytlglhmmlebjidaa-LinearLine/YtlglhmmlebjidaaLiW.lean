import Derived.Test.YtlglhmmlebjidaaLiY
namespace Go.Proofs.Ytlglhmmlebjidaa
open Go.RowKit
set_option maxHeartbeats 600000 in
set_option maxRecDepth 100000 in
theorem names17 (w : World) : Calls Try.prog 3 #[] w fun e w' => e = .returned (.bool true) ∧ Below w.heap.size w w' := by
  have hh := head_any w
  go_enter Try.func3, Try.ntmps3
  go_wp2_with (go_at_call 9; refine hh.mono ?_; clear hh; rintro e w1 ⟨rfl, k1⟩)
  go_ret
  exact ⟨rfl, k1.below (Nat.le_refl _) (fun _ _ e => e)⟩
/-! Where ByPoints is content there is a line: without memory. -/
theorem may_pt {c : Cl} (h : mayP c = true) : 0 ≤ c.from_ ∧ (c.to_ ≠ -1 → c.point ≠ -1 ∧ c.point < c.to_) ∧ (c.point ≠ -1 → c.from_ < c.point) := by
  unfold mayP at h
  split at h
  · cases h
  · rename_i h0
    have hf : 0 ≤ c.from_ := by
      by_cases q : c.from_ < 0
      · exact absurd (.inr (.inr q)) h0
      · omega
    split at h
    · rename_i h1
      have : c.to_ = -1 := by simpa using h
      exact ⟨hf, fun q => absurd this q, fun q => absurd h1 q⟩
    · rename_i h1
      simp at h
      exact ⟨hf, fun q => ⟨h1, h.2.resolve_left q⟩, fun _ => h.1⟩
theorem goL_of {l : List Cl} {L : List Nat} (h : ∀ k, k < L.length → L.getD k 0 < l.length ∧ okN l (L.take k) (setK l L k) (L.getD k 0) = true) : ∀ m k, k + m = L.length → GoL l (L.take k) (setK l L k) (L.drop k)
  | 0, k, e => by
    rw [List.drop_eq_nil_iff.2 (by omega)]
    trivial
  | m + 1, k, e => by
    have hk : k < L.length := by omega
    have e1 : L.drop k = L.getD k 0 :: L.drop (k + 1) := by
      rw [List.drop_eq_getElem_cons hk, List.getD_eq_getElem?_getD, List.getElem?_eq_getElem hk]
      rfl
    rw [e1]
    refine ⟨(h k hk).1, (h k hk).2, ?_⟩
    have := goL_of h m (k + 1) (by omega)
    rw [take_nextP hk] at this
    exact this
theorem sorted_before (f : Nat → Int) {L : List Nat} (hs : L.Pairwise (fun i j => f i < f j)) {a k : Nat} (ha : a ∈ L) (hk : k < L.length) (h : f a < f (L.getD k 0)) : a ∈ L.take k := by
  have e : L = L.take k ++ L.drop k := (List.take_append_drop k L).symm
  rw [e] at ha
  rcases List.mem_append.1 ha with ha | ha
  · exact ha
  · have e1 : L.drop k = L.getD k 0 :: L.drop (k + 1) := by
      rw [List.drop_eq_getElem_cons hk, List.getD_eq_getElem?_getD, List.getElem?_eq_getElem hk]
      rfl
    rw [e] at hs
    have h2 := (List.pairwise_append.1 hs).2.1
    rw [e1] at ha h2
    rcases List.mem_cons.1 ha with q | q
    · rw [q] at h
      omega
    · have := (List.pairwise_cons.1 h2).1 a q
      omega
theorem getD_mem {L : List Nat} {k : Nat} (hk : k < L.length) : L.getD k 0 ∈ L := by
  rw [List.getD_eq_getElem?_getD, List.getElem?_eq_getElem hk]
  exact List.getElem_mem hk
theorem pt_goL {l : List Cl} (hM : MayL l) (hg : ∀ j, j < (byP l l.length).length → goK l (byP l l.length) j = true) : GoL l [] [] (byP l l.length) ∧ compL l (byP l l.length) = true := by
  have hs := rise_byP hM.2
  have hmem := mem_byP l l.length
  generalize byP l l.length = L at *
  constructor
  · refine goL_of (L := L) (fun k hk => ?_) L.length 0 (by omega)
    have hp := getD_mem hk
    have hpm := (hmem _).1 hp
    refine ⟨hpm.1, ?_⟩
    have h1 : L.getD k 0 ∉ L.take k := fun hin => by
      have e1 : L.drop k = L.getD k 0 :: L.drop (k + 1) := by
        rw [List.drop_eq_getElem_cons hk, List.getD_eq_getElem?_getD, List.getElem?_eq_getElem hk]
        rfl
      have e : L = L.take k ++ L.drop k := (List.take_append_drop k L).symm
      rw [e] at hs
      have := (List.pairwise_append.1 hs).2.2 _ hin (L.getD k 0) (by rw [e1]; exact List.mem_cons_self)
      omega
    refine okN_yes h1 (fun a ha hans hto => ?_) (hg k hk)
    have hma := may_pt (hM.1 a ha)
    have hmp := may_pt (hM.1 _ hpm.1)
    have hne : (l.getD a cl0).to_ ≠ -1 := by
      unfold ansD at hans
      simpa using hans
    have h2 := hma.2.1 hne
    have h3 := hmp.2.2 hpm.2
    exact sorted_before (ptOf l) hs ((hmem a).2 ⟨ha, h2.1⟩) hk (by show (l.getD a cl0).point < (l.getD (L.getD k 0) cl0).point; omega)
  · refine decide_eq_true (fun a ha hans => ?_)
    have hma := may_pt (hM.1 a ha)
    have hne : (l.getD a cl0).to_ ≠ -1 := by
      unfold ansD at hans
      simpa using hans
    exact (hmem a).2 ⟨ha, (hma.2.1 hne).1⟩
theorem pointed_main {l : List Cl} (hM : MayL l) (h : BpP l (byP l l.length) (-1)) : fstL l ≠ none := by
  have hg : ∀ j, j < (byP l l.length).length → goK l (byP l l.length) j = true := by
    rcases h with ⟨k, _, _, _, e⟩ | ⟨h, _⟩
    · omega
    · exact h
  obtain ⟨h1, h2⟩ := pt_goL hM hg
  obtain ⟨rs, hr, -⟩ := srch_first l.length (byP l l.length) [] [] List.nodup_nil (fun _ h => by cases h) (by simp) h1 h2
  unfold fstL
  rw [hr]
  simp
theorem CSL.cut {w : World} {a : Option Addr} {l : List Cl} (h : CSL w a l) (n : Nat) : CSL w a (l.take n) := fun i hi => by
  have hi' : i < l.length ∧ i < n := by rw [List.length_take] at hi; omega
  obtain ⟨b, off, e, hc⟩ := h i hi'.1
  refine ⟨b, off, e, fun j v hv => hc j v ?_⟩
  rw [List.getD_eq_getElem?_getD, List.getElem?_take_of_lt hi'.2, ← List.getD_eq_getElem?_getD] at hv
  exact hv
set_option maxHeartbeats 600000 in
set_option maxRecDepth 100000 in
theorem pointed_any {w : World} {a : Option Addr} {cap : Nat} {l : List Cl} (hl : CSL w a l) (hc64 : ∀ c ∈ l, C64 c) (hn : l.length ≤ 2199023255552) (hcap : l.length ≤ cap) : Calls Try.prog 4 #[.slice a l.length cap] w fun e w' => e = .returned (.bool true) ∧ Below w.heap.size w w' := by
  have hh := head_any w
  by_cases h8 : 8 < l.length
  · have s1 : decide ((l.length : Int) > 8) = true := decide_eq_true (by omega)
    have s2 : decide ((8 : Int) < (l.length : Int)) = true := decide_eq_true (by omega)
    have s3 : decide (8 < l.length) = true := decide_eq_true (by omega)
    obtain ⟨b, off, rfl, -⟩ := hl.lt (by omega)
    have hc8 : 8 ≤ cap := by omega
    have hc9 : (8 : Int) ≤ (cap : Int) := by omega
    have HL0 : Hid (CSL w (some ⟨b, off, none⟩) (l.take 8)) := hl.cut 8
    have HC : Hid (∀ c ∈ l.take 8, C64 c) := fun c hc => hc64 c (List.mem_of_mem_take hc)
    have hl8' : (l.take 8).length = 8 := by rw [List.length_take]; omega
    clear hl hc64 hn h8 hcap
    obtain ⟨N, hN⟩ : ∃ N, N = l.length := ⟨_, rfl⟩
    rw [← hN] at s1 s2 s3
    rw [← hN]
    clear hN
    generalize l.take 8 = l at *
    go_enter Try.func4, Try.ntmps4
    refine wp_seq_k (fun KK hKK => ?_)
    have hKH : Hid _ := hKK
    clear hKK
    go_wp2_with fail
    refine hKH.out _ _ ?_
    clear hKH KK
    refine wp_seq_k (fun KK hKK => ?_)
    have hKH : Hid _ := hKK
    clear hKK
    go_wp2_with (go_at_call 9; refine hh.mono ?_; clear hh; rintro e w1 ⟨rfl, K1⟩)
    refine hKH.out _ _ ?_
    clear hKH KK
    refine wp_seq_k (fun KK hKK => ?_)
    have hKH : Hid _ := hKK
    clear hKK
    go_wp2_with fail
    refine hKH.out _ _ ?_
    clear hKH KK
    have hl := HL0.out.keep K1
    have hl8 : l.length ≤ 8 := by omega
    have hbp := byPoints_any (cap := cap) hl HC.out (by omega)
    have HSE : Hid (∀ W, Keeps (fun _ => False) w1 W → Calls Try.prog 11 #[.slice (some ⟨b, off, none⟩) l.length cap] W fun e w' => ∃ v fb ec, e = .returned (.tuple #[v, .bool fb, .int .i64 ec]) ∧ SeA l W w' v fb ec ∧ Keeps (fun _ => False) W w') := fun W k => search_any (hl.keep k) HC.out (by omega)
    have hnu := fun W x => num_any x W
    have H8 : Hid (l.length ≤ 8) := hl8
    clear hl hl8
    rw [hl8'] at hbp HSE
    refine wp_seq_k (fun KK hKK => ?_)
    have hKH : Hid _ := hKK
    clear hKK
    go_wp2_with (go_at_call 10; refine hbp.mono ?_; clear hbp; rintro e w2 ⟨n, ec, rfl, hB, k2⟩; have HB : Hid (BpA l n ec) := hB; clear hB; have hse := HSE.out w2 k2; clear HSE)
    refine hKH.out _ _ ?_
    clear hKH KK
    refine wp_seq_k (fun KK hKK => ?_)
    have hKH : Hid _ := hKK
    clear hKK
    go_wp2_with (go_at_call 11; refine hse.mono ?_; clear hse; rintro e w3 ⟨v, fb, fc, rfl, hS, k3⟩; have HS : Hid (SeA l w2 w3 v fb fc) := hS; clear hS)
    refine hKH.out _ _ ?_
    clear hKH KK
    have HEQ : Hid (ec = fc ∧ (ec = 0 → n = -1 → fb = true)) := by
      rcases HB.out with ⟨he, hM, hb⟩ | ⟨he, hM, hb⟩
      · rcases HS.out with ⟨h8, -⟩ | ⟨-, h, -⟩ | ⟨-, -, hf, h⟩
        · have := H8.out
          omega
        · exact absurd hM h
        · refine ⟨he.trans hf.symm, fun _ hn => ?_⟩
          rcases h with ⟨r, -, h, -⟩ | ⟨h, -⟩
          · exact h
          · rw [hn] at hb
            exact absurd h (pointed_main hM hb)
      · rcases HS.out with ⟨h8, -⟩ | ⟨-, -, -, -, hf⟩ | ⟨-, h, -⟩
        · have := H8.out
          omega
        · exact ⟨he.trans hf.symm, fun h => by omega⟩
        · exact absurd h hM
    obtain ⟨rfl, hfb⟩ := HEQ.out
    have HFB : Hid (ec = 0 → n = -1 → fb = true) := hfb
    clear HEQ HB HS hfb
    have s0 : (ec != ec) = false := by simp
    have KE := ((K1).trans k2).trans k3
    by_cases he : ec = 0
    · have s1 : (ec != 0) = false := by simp [he]
      by_cases hn : n = -1
      · have s2 : (n != -1) = false := by simp [hn]
        obtain rfl : fb = true := HFB.out he hn
        clear he hn
        go_wp2_with (go_at_call 12; refine (hnu _ _).mono ?_; rintro e w3 ⟨rfl, rfl⟩)
        go_ret
        exact ⟨rfl, KE.below (Nat.le_refl _) (fun _ _ e => e)⟩
      · have s2 : (n != -1) = true := by simp [hn]
        clear he hn
        go_wp2_with (go_at_call 12; refine (hnu _ _).mono ?_; rintro e w3 ⟨rfl, rfl⟩)
        go_ret
        exact ⟨rfl, KE.below (Nat.le_refl _) (fun _ _ e => e)⟩
    · have s1 : (ec != 0) = true := by simp [he]
      clear he
      go_wp2_with (go_at_call 12; refine (hnu _ _).mono ?_; rintro e w3 ⟨rfl, rfl⟩)
      go_ret
      exact ⟨rfl, KE.below (Nat.le_refl _) (fun _ _ e => e)⟩
  · have s1 : decide ((l.length : Int) > 8) = false := decide_eq_false (by omega)
    have s2 : decide ((8 : Int) < (l.length : Int)) = false := decide_eq_false (by omega)
    have s3 : decide (8 < l.length) = false := decide_eq_false (by omega)
    have HL0 : Hid (CSL w a l) := hl
    have HC : Hid (∀ c ∈ l, C64 c) := hc64
    have hl8 : l.length ≤ 8 := by omega
    obtain ⟨N, hN⟩ : ∃ N, N = l.length := ⟨_, rfl⟩
    rw [← hN] at s1 s2 s3
    rw [← hN]
    have HNN : Hid (l.length = N) := hN.symm
    clear hl hc64 hn h8 hcap hN
    go_enter Try.func4, Try.ntmps4
    refine wp_seq_k (fun KK hKK => ?_)
    have hKH : Hid _ := hKK
    clear hKK
    go_wp2_with fail
    refine hKH.out _ _ ?_
    clear hKH KK
    refine wp_seq_k (fun KK hKK => ?_)
    have hKH : Hid _ := hKK
    clear hKK
    go_wp2_with (go_at_call 9; refine hh.mono ?_; clear hh; rintro e w1 ⟨rfl, K1⟩)
    refine hKH.out _ _ ?_
    clear hKH KK
    refine wp_seq_k (fun KK hKK => ?_)
    have hKH : Hid _ := hKK
    clear hKK
    go_wp2_with fail
    refine hKH.out _ _ ?_
    clear hKH KK
    have hl := HL0.out.keep K1
    have hbp := byPoints_any (cap := cap) hl HC.out (by omega)
    have HSE : Hid (∀ W, Keeps (fun _ => False) w1 W → Calls Try.prog 11 #[.slice a l.length cap] W fun e w' => ∃ v fb ec, e = .returned (.tuple #[v, .bool fb, .int .i64 ec]) ∧ SeA l W w' v fb ec ∧ Keeps (fun _ => False) W w') := fun W k => search_any (hl.keep k) HC.out (by omega)
    have hnu := fun W x => num_any x W
    have H8 : Hid (l.length ≤ 8) := hl8
    clear hl hl8
    rw [HNN.out] at hbp HSE
    refine wp_seq_k (fun KK hKK => ?_)
    have hKH : Hid _ := hKK
    clear hKK
    go_wp2_with (go_at_call 10; refine hbp.mono ?_; clear hbp; rintro e w2 ⟨n, ec, rfl, hB, k2⟩; have HB : Hid (BpA l n ec) := hB; clear hB; have hse := HSE.out w2 k2; clear HSE)
    refine hKH.out _ _ ?_
    clear hKH KK
    refine wp_seq_k (fun KK hKK => ?_)
    have hKH : Hid _ := hKK
    clear hKK
    go_wp2_with (go_at_call 11; refine hse.mono ?_; clear hse; rintro e w3 ⟨v, fb, fc, rfl, hS, k3⟩; have HS : Hid (SeA l w2 w3 v fb fc) := hS; clear hS)
    refine hKH.out _ _ ?_
    clear hKH KK
    have HEQ : Hid (ec = fc ∧ (ec = 0 → n = -1 → fb = true)) := by
      rcases HB.out with ⟨he, hM, hb⟩ | ⟨he, hM, hb⟩
      · rcases HS.out with ⟨h8, -⟩ | ⟨-, h, -⟩ | ⟨-, -, hf, h⟩
        · have := H8.out
          omega
        · exact absurd hM h
        · refine ⟨he.trans hf.symm, fun _ hn => ?_⟩
          rcases h with ⟨r, -, h, -⟩ | ⟨h, -⟩
          · exact h
          · rw [hn] at hb
            exact absurd h (pointed_main hM hb)
      · rcases HS.out with ⟨h8, -⟩ | ⟨-, -, -, -, hf⟩ | ⟨-, h, -⟩
        · have := H8.out
          omega
        · exact ⟨he.trans hf.symm, fun h => by omega⟩
        · exact absurd h hM
    obtain ⟨rfl, hfb⟩ := HEQ.out
    have HFB : Hid (ec = 0 → n = -1 → fb = true) := hfb
    clear HEQ HB HS hfb
    have s0 : (ec != ec) = false := by simp
    have KE := ((K1).trans k2).trans k3
    by_cases he : ec = 0
    · have s1 : (ec != 0) = false := by simp [he]
      by_cases hn : n = -1
      · have s2 : (n != -1) = false := by simp [hn]
        obtain rfl : fb = true := HFB.out he hn
        clear he hn
        go_wp2_with (go_at_call 12; refine (hnu _ _).mono ?_; rintro e w3 ⟨rfl, rfl⟩)
        go_ret
        exact ⟨rfl, KE.below (Nat.le_refl _) (fun _ _ e => e)⟩
      · have s2 : (n != -1) = true := by simp [hn]
        clear he hn
        go_wp2_with (go_at_call 12; refine (hnu _ _).mono ?_; rintro e w3 ⟨rfl, rfl⟩)
        go_ret
        exact ⟨rfl, KE.below (Nat.le_refl _) (fun _ _ e => e)⟩
    · have s1 : (ec != 0) = true := by simp [he]
      clear he
      go_wp2_with (go_at_call 12; refine (hnu _ _).mono ?_; rintro e w3 ⟨rfl, rfl⟩)
      go_ret
      exact ⟨rfl, KE.below (Nat.le_refl _) (fun _ _ e => e)⟩
end Go.Proofs.Ytlglhmmlebjidaa
