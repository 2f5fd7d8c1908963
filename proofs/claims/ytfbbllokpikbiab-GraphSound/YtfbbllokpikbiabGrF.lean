import Derived.Test.YtfbbllokpikbiabGrE
namespace Go.Proofs.Ytfbbllokpikbiab
open Go.RowKit
attribute [local go_sem] Oper.semAt_some run_store_nf run_store_f
/-- What Reaches answers, the program's and the document's. -/
def ReA (n : Int) (l : List Ed) (fr to_ : Int) (x : Bool) (ec : Int) : Prop := (fltG n l ≠ 0 ∧ ec = fltG n l ∧ x = false) ∨ (fltG n l = 0 ∧ (isN n fr && isN n to_) = false ∧ ec = 201 ∧ x = false) ∨ (fltG n l = 0 ∧ (isN n fr && isN n to_) = true ∧ ec = 0 ∧ ∀ g : List Eg, l = g.map Eg.ed → (x = true ↔ Rch g fr.toNat to_.toNat))
theorem ReA.one {n : Int} {l : List Ed} {fr to_ : Int} {x x' : Bool} {ec ec' : Int} (h : ReA n l fr to_ x ec) (h' : ReA n l fr to_ x' ec') : x = x' ∧ ec = ec' := by
  rcases h with ⟨h1, h2, h3⟩ | ⟨h1, h2, h3, h4⟩ | ⟨h1, h2, h3, h4⟩ <;> rcases h' with ⟨g1, g2, g3⟩ | ⟨g1, g2, g3, g4⟩ | ⟨g1, g2, g3, g4⟩
  · exact ⟨h3.trans g3.symm, h2.trans g2.symm⟩
  · exact absurd g1 h1
  · exact absurd g1 h1
  · exact absurd h1 g1
  · exact ⟨h4.trans g4.symm, h3.trans g3.symm⟩
  · rw [h2] at g2; cases g2
  · exact absurd h1 g1
  · rw [h2] at g2; cases g2
  · obtain ⟨m, g, -, -, e, -⟩ := good_eg h1
    refine ⟨?_, h3.trans g3.symm⟩
    have q1 := h4 g e
    have q2 := g4 g e
    cases x <;> cases x' <;> simp_all
def ReP (n : Int) (l : List Ed) (fr to_ : Int) (w : World) (e : Ending) (w' : World) : Prop := ∃ x ec, e = .returned (.tuple #[.bool x, .int .i64 ec]) ∧ ReA n l fr to_ x ec ∧ Keeps (fun _ => False) w w'
theorem eg_inj : ∀ {g g' : List Eg}, g.map Eg.ed = g'.map Eg.ed → g = g'
  | [], [], _ => rfl
  | [], _ :: _, h => by cases h
  | _ :: _, [], h => by cases h
  | x :: g, y :: g', h => by
    rw [List.map_cons, List.map_cons] at h
    injection h with h1 h2
    obtain rfl := eg_inj h2
    obtain ⟨a, b, c, d⟩ := x
    obtain ⟨a', b', c', d'⟩ := y
    injection h1 with q1 q2 q3 q4
    have q1 : (a : Int) = (a' : Int) := q1
    have q2 : (b : Int) = (b' : Int) := q2
    have q3 : c = c' := q3
    have q4 : d = d' := q4
    obtain rfl : a = a' := by omega
    obtain rfl : b = b' := by omega
    obtain rfl : c = c' := q3
    obtain rfl : d = d' := q4
    rfl
set_option maxHeartbeats 600000 in
set_option maxRecDepth 100000 in
theorem Reaches_any {w : World} {a : Option Addr} {cap : Nat} {l : List Ed} (n fr to_ : Int) (hl : EL w a l) (hlen : l.length ≤ 4398046511104) : Calls Try.prog 8 #[.int .i64 n, .slice a l.length cap, .int .i64 fr, .int .i64 to_] w (ReP n l fr to_ w) := by
  have hfa := fault_any (cap := cap) n hl hlen
  have HP : Hid (∀ x ec w', ReA n l fr to_ x ec → Keeps (fun _ => False) w w' → ReP n l fr to_ w (.returned (.tuple #[.bool x, .int .i64 ec])) w') := fun x ec w' h1 h2 => ⟨x, ec, rfl, h1, h2⟩
  by_cases h0 : fltG n l = 0
  · have HI1 : Hid (∀ W, Calls Try.prog 23 #[.int .i64 n, .int .i64 fr] W fun e w' => e = .returned (.bool (isN n fr)) ∧ Keeps (fun _ => False) W w') := fun W => isNode_any W n fr
    have HI2 : Hid (∀ W, Calls Try.prog 23 #[.int .i64 n, .int .i64 to_] W fun e w' => e = .returned (.bool (isN n to_)) ∧ Keeps (fun _ => False) W w') := fun W => isNode_any W n to_
    cases hA : isN n fr with
    | false =>
      have HPX : Hid (∀ w', Keeps (fun _ => False) w w' → ReP n l fr to_ w (.returned (.tuple #[.bool false, .int .i64 201])) w') := fun w' k => HP.out _ _ w' (.inr (.inl ⟨h0, by rw [hA]; rfl, rfl, rfl⟩)) k
      rw [h0] at hfa
      rw [hA] at HI1
      clear HP h0 HI2
      generalize l.length = N at *
      go_enter Try.func8, Try.ntmps8
      go_wp2_with (first | (go_at_call 17; refine hfa.mono ?_; clear hfa; rintro e w1 ⟨rfl, k1⟩; have hn1 := HI1.out w1) | (go_at_call 23; refine hn1.mono ?_; clear hn1; rintro e w2 ⟨rfl, k2⟩))
      go_ret2
      exact HPX.out _ (k1.trans k2)
    | true =>
      cases hB : isN n to_ with
      | false =>
        have HPX : Hid (∀ w', Keeps (fun _ => False) w w' → ReP n l fr to_ w (.returned (.tuple #[.bool false, .int .i64 201])) w') := fun w' k => HP.out _ _ w' (.inr (.inl ⟨h0, by rw [hA, hB]; rfl, rfl, rfl⟩)) k
        rw [h0] at hfa
        rw [hA] at HI1
        rw [hB] at HI2
        clear HP h0
        generalize l.length = N at *
        go_enter Try.func8, Try.ntmps8
        go_wp2_with (first | (go_at_call 17; refine hfa.mono ?_; clear hfa; rintro e w1 ⟨rfl, k1⟩; have hn1 := HI1.out w1) | (go_at_call 23; refine hn1.mono ?_; clear hn1; rintro e w2 ⟨rfl, k2⟩; have hn2 := HI2.out w2) | (go_at_call 23; refine hn2.mono ?_; clear hn2; rintro e w3 ⟨rfl, k3⟩))
        go_ret2
        exact HPX.out _ ((k1.trans k2).trans k3)
      | true =>
        obtain ⟨m, g, rfl, hm, rfl, hbl⟩ := good_eg h0
        have hA' := isN_iff.1 hA
        have hB' := isN_iff.1 hB
        obtain ⟨u, rfl⟩ : ∃ u : Nat, fr = (u : Int) := ⟨fr.toNat, by omega⟩
        obtain ⟨v, rfl⟩ : ∃ v : Nat, to_ = (v : Int) := ⟨to_.toNat, by omega⟩
        have HPX : Hid (∀ x w', (x = true ↔ Rch g u v) → Keeps (fun _ => False) w w' → ReP (m : Int) (g.map Eg.ed) (u : Int) (v : Int) w (.returned (.tuple #[.bool x, .int .i64 0])) w') := fun x w' h k => HP.out _ _ w' (.inr (.inr ⟨h0, by rw [hA, hB]; rfl, rfl, fun g' e => by rw [← eg_inj e]; simpa using h⟩)) k
        have hum : u < m := by omega
        have HLO : Hid (∀ W, Keeps (fun _ => False) w W → Calls Try.prog 18 #[.slice a g.length cap] W fun e w' => ∃ mb, e = .returned (.map (some mb)) ∧ LR w' W.heap.size w'.heap.size mb g ∧ Keeps (fun _ => False) W w') := fun W k => leadsOf_any (hl.keep k) hbl hm (by rw [List.length_map] at hlen; exact hlen)
        have HRC : Hid (∀ W lo hi mb, LR W lo hi mb g → Calls Try.prog 24 #[.int .i64 (m : Int), .map (some mb), .int .i64 (u : Int), .int .i64 (v : Int)] W (RcP g u v W)) := fun W lo hi mb h => reaches_any h hbl hm (by rw [List.length_map] at hlen; exact hlen) hum
        rw [h0] at hfa
        rw [hA] at HI1
        rw [hB] at HI2
        clear HP h0 hl hA hB hA' hB'
        rw [List.length_map] at hfa hlen ⊢
        generalize g.length = N at *
        go_enter Try.func8, Try.ntmps8
        go_wp2_with (first | (go_at_call 17; refine hfa.mono ?_; clear hfa; rintro e w1 ⟨rfl, k1⟩; have hn1 := HI1.out w1) | (go_at_call 23; refine hn1.mono ?_; clear hn1; rintro e w2 ⟨rfl, k2⟩; have hn2 := HI2.out w2) | (go_at_call 23; refine hn2.mono ?_; clear hn2; rintro e w3 ⟨rfl, k3⟩; have hlo := HLO.out w3 ((k1.trans k2).trans k3)) | (go_at_call 18; refine hlo.mono ?_; clear hlo; rintro e w4 ⟨mb, rfl, hLR, k4⟩; have hrc := HRC.out w4 _ _ _ hLR; clear hLR) | (go_at_call 24; refine hrc.mono ?_; clear hrc; rintro e w5 ⟨x, rfl, hx, k5⟩))
        go_ret2
        exact HPX.out x _ hx ((((k1.trans k2).trans k3).trans k4).trans k5)
  · have s1 : (fltG n l == 0) = false := by rw [beq_eq_false_iff_ne]; exact h0
    have s2 : (fltG n l != 0) = true := by rw [bne_iff_ne]; exact h0
    have HPX : Hid (∀ w', Keeps (fun _ => False) w w' → ReP n l fr to_ w (.returned (.tuple #[.bool false, .int .i64 (fltG n l)])) w') := fun w' k => HP.out _ _ w' (.inl ⟨h0, rfl, rfl⟩) k
    clear HP h0
    generalize fltG n l = R at *
    generalize l.length = N at *
    go_enter Try.func8, Try.ntmps8
    go_wp2_with (go_at_call 17; refine hfa.mono ?_; clear hfa; rintro e w1 ⟨rfl, k1⟩)
    go_ret2
    exact HPX.out _ k1
set_option maxHeartbeats 600000 in
set_option maxRecDepth 100000 in
theorem refused_any {w : World} {a : Option Addr} {cap : Nat} {l : List Ed} (n : Int) (hl : EL w a l) (hlen : l.length ≤ 4398046511104) : Calls Try.prog 25 #[.int .i64 n, .slice a l.length cap] w fun e w' => e = .returned (.int .i64 (fltG n l)) ∧ Keeps (fun _ => False) w w' := by
  have HL : Hid (EL w a l) := hl
  clear hl
  obtain ⟨R, hR⟩ : ∃ R, R = fltG n l := ⟨_, rfl⟩
  rw [← hR]
  have HR : Hid (R = fltG n l) := hR
  clear hR
  by_cases h1 : n < 0
  · have d1 : decide (n < 0) = true := decide_eq_true h1
    obtain rfl : R = 200 := by rw [HR.out]; unfold fltG; rw [if_pos (.inl h1)]
    generalize l.length = N at *
    clear h1
    go_enter Try.func25, Try.ntmps25
    go_wp2_with fail
    go_ret
    exact ⟨rfl, Keeps.refl _ _⟩
  by_cases h2 : 4096 < n
  · have d1 : decide (n < 0) = false := decide_eq_false h1
    have d2 : decide (4096 < n) = true := decide_eq_true h2
    have d3 : decide (n > 4096) = true := decide_eq_true h2
    obtain rfl : R = 200 := by rw [HR.out]; unfold fltG; rw [if_pos (.inr h2)]
    generalize l.length = N at *
    clear h1 h2
    go_enter Try.func25, Try.ntmps25
    go_wp2_with fail
    go_ret
    exact ⟨rfl, Keeps.refl _ _⟩
  have d1 : decide (n < 0) = false := decide_eq_false h1
  have d2 : decide (4096 < n) = false := decide_eq_false h2
  have d3 : decide (n > 4096) = false := decide_eq_false h2
  have HN0 : Hid (¬ (n < 0 ∨ 4096 < n)) := fun e => e.elim h1 h2
  clear h1 h2
  generalize hN : l.length = N at *
  have HN : Hid (l.length = N) := hN
  clear hN
  go_enter Try.func25, Try.ntmps25
  go_wp2_with fail
  go_loopw [5] (fun iv Wr => ∃ (i : Nat), iv = .int .i64 (i : Int) ∧ i ≤ N ∧ gdE n (l.take i) = true ∧ Keeps (fun _ => False) w Wr) (fun iv _ => N - (intOf iv).toNat)
  case atStart => exact ⟨0, rfl, Nat.zero_le _, rfl, Keeps.refl _ _⟩
  case round =>
    obtain ⟨i, rfl, hi, hgd, kr⟩ := hrel
    have HGD : Hid (gdE n (l.take i) = true) := hgd
    clear hgd
    by_cases hlt : i < N
    · have j1 : decide ((i : Int) < (N : Int)) = true := decide_eq_true (by omega)
      have j2 : decide (i < N) = true := decide_eq_true hlt
      have j3 : (i : Int) < (N : Int) := by omega
      have j4 : (0 : Int) ≤ (i : Int) := by omega
      have hwi : IntKind.i64.wrap ((i : Int) + 1) = (i : Int) + 1 := by rw [IntKind.wrap_i64]; omega
      have hil : i < l.length := by rw [HN.out]; exact hlt
      obtain ⟨b, off, rfl, hc⟩ := HL.out i hil
      have HNX : Hid (isN n (l.getD i ed0).f = true → isN n (l.getD i ed0).t = true → gdE n (l.take (i + 1)) = true) := fun q1 q2 => gd_take hil HGD.out q1 q2
      have HBD : Hid ((isN n (l.getD i ed0).f = false ∨ isN n (l.getD i ed0).t = false) → R = 201) := fun q => by rw [HR.out]; exact gd_bad hil q HN0.out
      have q0 : wr.cell? ⟨b, off + i * 4, none⟩ = some (.int .i64 (l.getD i ed0).f) := kr.cell (hc 0 _ rfl) (fun e => e)
      have q1 : wr.cell? ⟨b, off + i * 4 + 1, none⟩ = some (.int .i64 (l.getD i ed0).t) := kr.cell (hc 1 _ rfl) (fun e => e)
      clear hc hil
      generalize l.getD i ed0 = c at *
      obtain ⟨x, y, _, _⟩ := c
      simp only at q0 q1 HNX HBD
      by_cases g1 : x < 0
      · have s1 : decide (x < 0) = true := decide_eq_true g1
        obtain rfl : R = 201 := HBD.out (.inl (by unfold isN; rw [decide_eq_false (by omega)]; rfl))
        clear g1
        go_wp2_with fail
        go_ret
        exact ⟨rfl, kr⟩
      have s1 : decide (x < 0) = false := decide_eq_false g1
      by_cases g2 : n ≤ x
      · have s2 : decide (n ≤ x) = true := decide_eq_true g2
        have s2' : decide (x ≥ n) = true := decide_eq_true g2
        obtain rfl : R = 201 := HBD.out (.inl (by unfold isN; rw [decide_eq_false (show ¬ x < n by omega)]; simp))
        clear g1 g2
        go_wp2_with fail
        go_ret
        exact ⟨rfl, kr⟩
      have s2 : decide (n ≤ x) = false := decide_eq_false g2
      have s2' : decide (x ≥ n) = false := decide_eq_false g2
      by_cases g3 : y < 0
      · have s3 : decide (y < 0) = true := decide_eq_true g3
        obtain rfl : R = 201 := HBD.out (.inr (by unfold isN; rw [decide_eq_false (by omega)]; rfl))
        clear g1 g2 g3
        go_wp2_with fail
        go_ret
        exact ⟨rfl, kr⟩
      have s3 : decide (y < 0) = false := decide_eq_false g3
      by_cases g4 : n ≤ y
      · have s4 : decide (n ≤ y) = true := decide_eq_true g4
        have s4' : decide (y ≥ n) = true := decide_eq_true g4
        obtain rfl : R = 201 := HBD.out (.inr (by unfold isN; rw [decide_eq_false (show ¬ y < n by omega)]; simp))
        clear g1 g2 g3 g4
        go_wp2_with fail
        go_ret
        exact ⟨rfl, kr⟩
      have s4 : decide (n ≤ y) = false := decide_eq_false g4
      have s4' : decide (y ≥ n) = false := decide_eq_false g4
      have HXX : Hid (gdE n (l.take (i + 1)) = true) := HNX.out (isN_iff.2 ⟨by omega, by omega⟩) (isN_iff.2 ⟨by omega, by omega⟩)
      clear g1 g2 g3 g4
      go_wp2_with fail
      go_roundw
      case rel => exact ⟨i + 1, by go_num, by omega, HXX.out, kr⟩
      case measure => simp [intOf]; omega
    · have j1 : decide ((i : Int) < (N : Int)) = false := decide_eq_false (by omega)
      have j2 : decide (i < N) = false := decide_eq_false hlt
      have hg : gdE n l = true := by
        have h := HGD.out
        rw [List.take_of_length_le (by rw [HN.out]; omega)] at h
        exact h
      obtain rfl : R = 0 := by rw [HR.out]; unfold fltG; rw [if_neg HN0.out, if_pos hg]
      clear hg
      go_wp2_with fail
      go_ret
      exact ⟨rfl, kr⟩
end Go.Proofs.Ytfbbllokpikbiab
