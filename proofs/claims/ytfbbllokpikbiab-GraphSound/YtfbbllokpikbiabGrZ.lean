import Derived.Test.YtfbbllokpikbiabGrY
namespace Go.Proofs.Ytfbbllokpikbiab
open Go.RowKit Go.Deep
attribute [local go_sem] Oper.semAt_some run_store_nf run_store_f
set_option maxHeartbeats 1500000 in
set_option maxRecDepth 100000 in
theorem good_any {w : World} {a : Option Addr} {cap : Nat} {l : List Ed} (n : Int) (hl : EL w a l) (hlen : l.length ≤ 4398046511104) : Calls Try.prog 9 #[.int .i64 n, .slice a l.length cap] w fun e w' => e = .returned (.bool (decide (fltG n l = 0))) ∧ Keeps (fun _ => False) w w' := by
  have HL : Hid (EL w a l) := hl
  clear hl
  obtain ⟨R, hR⟩ : ∃ R, R = decide (fltG n l = 0) := ⟨_, rfl⟩
  rw [← hR]
  have HR : Hid (R = decide (fltG n l = 0)) := hR
  clear hR
  by_cases h1 : n < 0
  · have d1 : decide (n < 0) = true := decide_eq_true h1
    obtain rfl : R = false := by rw [HR.out]; refine decide_eq_false ?_; unfold fltG; rw [if_pos (.inl h1)]; decide
    generalize l.length = N at *
    clear h1
    go_enter Try.func9, Try.ntmps9
    go_wp2_with fail
    go_ret
    exact ⟨rfl, Keeps.refl _ _⟩
  by_cases h2 : 4096 < n
  · have d1 : decide (n < 0) = false := decide_eq_false h1
    have d2 : decide (4096 < n) = true := decide_eq_true h2
    have d3 : decide (n > 4096) = true := decide_eq_true h2
    obtain rfl : R = false := by rw [HR.out]; refine decide_eq_false ?_; unfold fltG; rw [if_pos (.inr h2)]; decide
    generalize l.length = N at *
    clear h1 h2
    go_enter Try.func9, Try.ntmps9
    go_wp2_with fail
    go_ret
    exact ⟨rfl, Keeps.refl _ _⟩
  have d1 : decide (n < 0) = false := decide_eq_false h1
  have d2 : decide (4096 < n) = false := decide_eq_false h2
  have d3 : decide (n > 4096) = false := decide_eq_false h2
  have HN0 : Hid (¬ (n < 0 ∨ 4096 < n)) := fun e => e.elim h1 h2
  clear h1 h2
  generalize hN : l.length = N at *
  have HN : Hid (l.length = N) := hN
  clear hN
  go_enter Try.func9, Try.ntmps9
  go_wp2_with fail
  go_loopw [5] (fun iv Wr => ∃ (i : Nat), iv = .int .i64 (i : Int) ∧ i ≤ N ∧ gdE n (l.take i) = true ∧ Keeps (fun _ => False) w Wr) (fun iv _ => N - (intOf iv).toNat)
  case atStart => exact ⟨0, rfl, Nat.zero_le _, rfl, Keeps.refl _ _⟩
  case round =>
    obtain ⟨i, rfl, hi, hgd, kr⟩ := hrel
    have HGD : Hid (gdE n (l.take i) = true) := hgd
    clear hgd
    by_cases hlt : i < N
    · have j1 : decide ((i : Int) < (N : Int)) = true := decide_eq_true (by omega)
      have j2 : decide (i < N) = true := decide_eq_true hlt
      have j3 : (i : Int) < (N : Int) := by omega
      have j4 : (0 : Int) ≤ (i : Int) := by omega
      have hwi : IntKind.i64.wrap ((i : Int) + 1) = (i : Int) + 1 := by rw [IntKind.wrap_i64]; omega
      have hil : i < l.length := by rw [HN.out]; exact hlt
      obtain ⟨b, off, rfl, hc⟩ := HL.out i hil
      have HNX : Hid (isN n (l.getD i ed0).f = true → isN n (l.getD i ed0).t = true → gdE n (l.take (i + 1)) = true) := fun q1 q2 => gd_take hil HGD.out q1 q2
      have HBD : Hid ((isN n (l.getD i ed0).f = false ∨ isN n (l.getD i ed0).t = false) → R = false) := fun q => by rw [HR.out]; refine decide_eq_false ?_; rw [gd_bad hil q HN0.out]; decide
      have q0 : wr.cell? ⟨b, off + i * 4, none⟩ = some (.int .i64 (l.getD i ed0).f) := kr.cell (hc 0 _ rfl) (fun e => e)
      have q1 : wr.cell? ⟨b, off + i * 4 + 1, none⟩ = some (.int .i64 (l.getD i ed0).t) := kr.cell (hc 1 _ rfl) (fun e => e)
      clear hc hil
      generalize l.getD i ed0 = c at *
      obtain ⟨x, y, _, _⟩ := c
      simp only at q0 q1 HNX HBD
      by_cases g1 : x < 0
      · have s1 : decide (x < 0) = true := decide_eq_true g1
        obtain rfl : R = false := HBD.out (.inl (by unfold isN; rw [decide_eq_false (by omega)]; rfl))
        clear g1
        go_wp2_with fail
        go_ret
        exact ⟨rfl, kr⟩
      have s1 : decide (x < 0) = false := decide_eq_false g1
      by_cases g2 : n ≤ x
      · have s2 : decide (n ≤ x) = true := decide_eq_true g2
        have s2' : decide (x ≥ n) = true := decide_eq_true g2
        obtain rfl : R = false := HBD.out (.inl (by unfold isN; rw [decide_eq_false (show ¬ x < n by omega)]; simp))
        clear g1 g2
        go_wp2_with fail
        go_ret
        exact ⟨rfl, kr⟩
      have s2 : decide (n ≤ x) = false := decide_eq_false g2
      have s2' : decide (x ≥ n) = false := decide_eq_false g2
      by_cases g3 : y < 0
      · have s3 : decide (y < 0) = true := decide_eq_true g3
        obtain rfl : R = false := HBD.out (.inr (by unfold isN; rw [decide_eq_false (by omega)]; rfl))
        clear g1 g2 g3
        go_wp2_with fail
        go_ret
        exact ⟨rfl, kr⟩
      have s3 : decide (y < 0) = false := decide_eq_false g3
      by_cases g4 : n ≤ y
      · have s4 : decide (n ≤ y) = true := decide_eq_true g4
        have s4' : decide (y ≥ n) = true := decide_eq_true g4
        obtain rfl : R = false := HBD.out (.inr (by unfold isN; rw [decide_eq_false (show ¬ y < n by omega)]; simp))
        clear g1 g2 g3 g4
        go_wp2_with fail
        go_ret
        exact ⟨rfl, kr⟩
      have s4 : decide (n ≤ y) = false := decide_eq_false g4
      have s4' : decide (y ≥ n) = false := decide_eq_false g4
      have HXX : Hid (gdE n (l.take (i + 1)) = true) := HNX.out (isN_iff.2 ⟨by omega, by omega⟩) (isN_iff.2 ⟨by omega, by omega⟩)
      clear g1 g2 g3 g4
      go_wp2_with fail
      go_roundw
      case rel => exact ⟨i + 1, by go_num, by omega, HXX.out, kr⟩
      case measure => simp [intOf]; omega
    · have j1 : decide ((i : Int) < (N : Int)) = false := decide_eq_false (by omega)
      have j2 : decide (i < N) = false := decide_eq_false hlt
      have hg : gdE n l = true := by
        have h := HGD.out
        rw [List.take_of_length_le (by rw [HN.out]; omega)] at h
        exact h
      obtain rfl : R = true := by rw [HR.out]; refine decide_eq_true ?_; unfold fltG; rw [if_neg HN0.out, if_pos hg]
      clear hg
      go_wp2_with fail
      go_ret
      exact ⟨rfl, kr⟩
/-- Two parts share no node. -/
theorem PtA.apart {g : List Eg} {n : Nat} {P : List (List Nat)} (h : PtA g n P) {i j x : Nat} (hi : i < P.length) (hj : j < i) (hx : x ∈ P.getD i []) : x ∉ P.getD j [] := fun hx' => by
  have ei : P.getD i [] = P[i] := by rw [List.getD_eq_getElem?_getD, List.getElem?_eq_getElem hi]; rfl
  have ej : P.getD j [] = P[j] := by rw [List.getD_eq_getElem?_getD, List.getElem?_eq_getElem (by omega)]; rfl
  rw [ei] at hx
  rw [ej] at hx'
  have mi : P[i] ∈ P := List.getElem_mem hi
  have mj : P[j] ∈ P := List.getElem_mem (by omega)
  obtain ⟨-, a2, a3⟩ := h.p0 _ mi
  obtain ⟨-, b2, b3⟩ := h.p0 _ mj
  have e : P[j] = P[i] := inc_ext id _ _ b2 a2 (fun y => by
    constructor
    · intro hy
      exact (h.p1 _ mi x hx y (b3 y hy)).2 ((h.p1 _ mj x hx' y (b3 y hy)).1 hy)
    · intro hy
      exact (h.p1 _ mj x hx' y (a3 y hy)).2 ((h.p1 _ mi x hx y (a3 y hy)).1 hy))
  have := List.pairwise_iff_getElem.1 h.p3 j i (by omega) hi hj
  rw [e] at this
  omega
theorem PtA.num {g : List Eg} {n : Nat} {P : List (List Nat)} (h : PtA g n P) : P.length ≤ n := by
  have := nodup_leN n (P.map (fun p => p.getD 0 0)) (List.pairwise_map.2 (h.p3.imp (fun {a b} q => Nat.ne_of_lt q))) (fun x hx => by
    obtain ⟨p, hp, rfl⟩ := List.mem_map.1 hx
    exact (h.p0 p hp).2.2 _ (getD_memN (List.length_pos_iff.2 (h.p0 p hp).1)))
  rwa [List.length_map] at this
/-- By node: its part, so far. -/
structure OfI (P : List (List Nat)) (n i k : Nat) (o : Nat → Nat) : Prop where
  a : ∀ v, v < n → ∀ j, j < i → v ∈ P.getD j [] → o v = j + 1
  b : ∀ v, v < n → v ∈ (P.getD i []).take k → o v = i + 1
  c : ∀ v, v < n → (∀ j, j < i → v ∉ P.getD j []) → v ∉ (P.getD i []).take k → o v = 0
theorem OfI.next {P : List (List Nat)} {n i k : Nat} {o : Nat → Nat} {g : List Eg} (h : OfI P n i k o) (hA : PtA g n P) (hi : i < P.length) (hk : k < (P.getD i []).length) : OfI P n i (k + 1) (upD o ((P.getD i []).getD k 0) (i + 1)) ∧ o ((P.getD i []).getD k 0) = 0 := by
  have hm := getD_memN hk
  have mi : P.getD i [] ∈ P := by rw [List.getD_eq_getElem?_getD, List.getElem?_eq_getElem hi]; exact List.getElem_mem hi
  have hlt := (hA.p0 _ mi).2.2 _ hm
  have hnd : (P.getD i []).Nodup := (hA.p0 _ mi).2.1.imp (fun {a b} h => Nat.ne_of_lt h)
  have hnt : (P.getD i []).getD k 0 ∉ (P.getD i []).take k := fun q => by
    obtain ⟨j, hj, e⟩ := getD_at q
    rw [List.length_take] at hj
    rw [List.getD_eq_getElem?_getD, List.getElem?_take_of_lt (by omega), ← List.getD_eq_getElem?_getD] at e
    have := getD_inj hnd (by omega) hk e
    omega
  refine ⟨⟨fun v hv j hj q => ?_, fun v hv q => ?_, fun v hv q1 q2 => ?_⟩, h.c _ hlt (fun j hj => hA.apart hi hj hm) hnt⟩
  · unfold upD
    rw [if_neg (fun e : v = (P.getD i []).getD k 0 => hA.apart hi hj hm (by rw [← e]; exact q))]
    exact h.a v hv j hj q
  · unfold upD
    split
    · rfl
    · next e =>
      rw [take_nextN hk] at q
      rcases List.mem_append.1 q with q | q
      · exact h.b v hv q
      · simp at q; exact absurd q e
  · rw [take_nextN hk, List.mem_append, not_or] at q2
    unfold upD
    rw [if_neg (fun e => q2.2 (by rw [e]; simp))]
    exact h.c v hv q1 q2.1
theorem OfI.part {P : List (List Nat)} {n i k : Nat} {o : Nat → Nat} (h : OfI P n i k o) (hk : (P.getD i []).length ≤ k) : OfI P n (i + 1) 0 o := by
  have e : (P.getD i []).take k = P.getD i [] := List.take_of_length_le hk
  refine ⟨fun v hv j hj q => ?_, (fun v hv q => by simp at q), fun v hv q1 _ => ?_⟩
  · by_cases c : j = i
    · rw [c] at q ⊢; exact h.b v hv (by rw [e]; exact q)
    · exact h.a v hv j (by omega) q
  · exact h.c v hv (fun j hj => q1 j (by omega)) (by rw [e]; exact q1 i (by omega))
theorem OfI.of {P : List (List Nat)} {n i : Nat} {o : Nat → Nat} {g : List Eg} (h : OfI P n i 0 o) (hA : PtA g n P) (hi : P.length ≤ i) {v : Nat} (hv : v < n) : ∃ j, j < P.length ∧ v ∈ P.getD j [] ∧ o v = j + 1 := by
  obtain ⟨p, hp, hx⟩ := hA.p2 v hv
  obtain ⟨j, hj, e⟩ := List.getElem_of_mem hp
  have ej : P.getD j [] = p := by rw [List.getD_eq_getElem?_getD, List.getElem?_eq_getElem hj]; exact e
  exact ⟨j, hj, by rw [ej]; exact hx, h.a v hv j (by omega) (by rw [ej]; exact hx)⟩
theorem OfI.same {P : List (List Nat)} {n i : Nat} {o : Nat → Nat} {g : List Eg} (h : OfI P n i 0 o) (hA : PtA g n P) (hi : P.length ≤ i) {u v : Nat} (hu : u < n) (hv : v < n) (hne : u ≠ v) : (o u = o v) ↔ (Rch g u v ∧ Rch g v u) := by
  obtain ⟨j, hj, mu, eu⟩ := h.of hA hi hu
  obtain ⟨k, hk, mv, ev⟩ := h.of hA hi hv
  have mj : P.getD j [] ∈ P := by rw [List.getD_eq_getElem?_getD, List.getElem?_eq_getElem hj]; exact List.getElem_mem hj
  have key : v ∈ P.getD j [] ↔ SC g u v := hA.p1 _ mj u mu v hv
  have hsc : SC g u v ↔ (Rch g u v ∧ Rch g v u) := by
    constructor
    · rintro ⟨a, b⟩
      exact ⟨a.resolve_left hne, b.resolve_left (fun e => hne e.symm)⟩
    · rintro ⟨a, b⟩
      exact ⟨.inr a, .inr b⟩
  rw [← hsc, ← key, eu, ev]
  constructor
  · intro e
    obtain rfl : j = k := by omega
    exact mv
  · intro q
    have e : o v = j + 1 := h.a v hv j (by omega) q
    omega
theorem pq_at {base : Nat} {W : World} {v : Value} {qs : List Pq} (h : PV base W v qs) {i : Nat} (hi : i < qs.length) : ∃ q ab, q ∈ qs ∧ (qs.map Pq.l).getD i [] = q.l ∧ (∃ ac, v = .slice (some ⟨ab, 0, none⟩) qs.length ac) ∧ W.cell? ⟨ab, i, none⟩ = some q.val ∧ PM W q.a q.l := by
  obtain ⟨a', c', rfl, hc, -, -⟩ := own_slice h.ra
  have hq : qs[i] ∈ qs := List.getElem_mem hi
  obtain ⟨g, rfl, hcell⟩ := hc i (qs[i]).val (by rw [List.getElem?_map, List.getElem?_eq_getElem hi]; rfl)
  exact ⟨qs[i], g, hq, by rw [List.getD_eq_getElem?_getD, List.getElem?_map, List.getElem?_eq_getElem hi]; rfl, ⟨c', rfl⟩, hcell, PM.of (h.rq _ hq)⟩
set_option maxHeartbeats 1500000 in
set_option maxRecDepth 100000 in
theorem gtogether_any {w : World} {a : Option Addr} {cap : Nat} {l : List Ed} (n : Int) (hl : EL w a l) (_ : a = none → cap = 0) (hlen : l.length ≤ 4398046510976) (fr to_ : Int) : Calls Try.prog 5 #[.agg #[.int .i64 n, .slice a l.length cap, .int .i64 fr, .int .i64 to_]] w fun e w' => e = .returned (.bool true) ∧ Below w.heap.size w w' := by
  obtain ⟨W1, hW1⟩ : ∃ W1, W1 = w.alloc (.cells #[.int .i64 n, .slice a l.length cap, .int .i64 fr, .int .i64 to_] 40) := ⟨_, rfl⟩
  have k1 : Keeps (fun _ => False) w W1 := by rw [hW1]; exact (Keeps.refl _ w).alloc _
  have b1 : CL W1 w.heap.size [.int .i64 n, .slice a l.length cap, .int .i64 fr, .int .i64 to_] := by rw [hW1]; exact CL.made w [.int .i64 n, .slice a l.length cap, .int .i64 fr, .int .i64 to_] 40
  have HW1 : Hid (W1 = w.alloc (.cells #[.int .i64 n, .slice a l.length cap, .int .i64 fr, .int .i64 to_] 40)) := hW1
  clear hW1
  have HB : Hid (∀ W S, Keeps S W1 W → ¬ S w.heap.size → CL W w.heap.size [.int .i64 n, .slice a l.length cap, .int .i64 fr, .int .i64 to_]) := fun W S k hS => b1.keep (by show 0 < 4; decide) k hS
  have HL : Hid (EL W1 a l) := hl.keep k1
  have hpt := Parts_any (cap := cap) n HL.out (by omega)
  have HRE : Hid (∀ W x y, Keeps (fun _ => False) W1 W → Calls Try.prog 8 #[.int .i64 n, .slice a l.length cap, .int .i64 x, .int .i64 y] W (ReP n l x y W)) := fun W x y k => Reaches_any n x y (HL.out.keep k) (by omega)
  have HGD : Hid (∀ W, Keeps (fun _ => False) W1 W → Calls Try.prog 9 #[.int .i64 n, .slice a l.length cap] W fun e w' => e = .returned (.bool (decide (fltG n l = 0))) ∧ Keeps (fun _ => False) W w') := fun W k => good_any n (HL.out.keep k) (by omega)
  have p0 := b1.c 0 _ rfl
  have p1 := b1.c 1 _ rfl
  have p2 := b1.c 2 _ rfl
  have p3 := b1.c 3 _ rfl
  clear hl b1
  have HLL : Hid (l.length ≤ 4398046510976) := hlen
  generalize l.length = N at *
  go_enter Try.func5, Try.ntmps5
  refine wp_seq_k (fun KK hKK => ?_)
  have hKH : Hid _ := hKK
  clear hKK
  go_wp2_with fail
  refine hKH.out _ _ ?_
  clear hKH KK
  rw [← HW1.out]
  clear HW1
  refine wp_seq_k (fun KK hKK => ?_)
  have hKH : Hid _ := hKK
  clear hKK
  go_wp2_with (go_at_call 14; refine hpt.mono ?_; clear hpt; rintro e w2 ⟨v, qs, ec, rfl, hV, hA, k2⟩; obtain ⟨va, vc, rfl, -⟩ := own_slice hV.ra; clear p0 p1 p2 p3; have hb2 := HB.out w2 _ k2 (fun e => e); have p0 := hb2.c 0 _ rfl; have p1 := hb2.c 1 _ rfl; have p2 := hb2.c 2 _ rfl; have p3 := hb2.c 3 _ rfl; clear hb2; have hre := HRE.out w2 fr to_ k2)
  refine hKH.out _ _ ?_
  clear hKH KK
  refine wp_seq_k (fun KK hKK => ?_)
  have hKH : Hid _ := hKK
  clear hKK
  go_wp2_with (go_at_call 8; refine hre.mono ?_; clear hre; rintro e w3 ⟨x1, ec1, rfl, hA1, k3⟩; clear p0 p1 p2 p3; have hb3 := HB.out w3 _ (k2.trans k3) (fun e => e); have p0 := hb3.c 0 _ rfl; have p1 := hb3.c 1 _ rfl; have p2 := hb3.c 2 _ rfl; have p3 := hb3.c 3 _ rfl; clear hb3; have hre := HRE.out w3 to_ fr (k2.trans k3); clear HRE)
  refine hKH.out _ _ ?_
  clear hKH KK
  refine wp_seq_k (fun KK hKK => ?_)
  have hKH : Hid _ := hKK
  clear hKK
  go_wp2_with (go_at_call 8; refine hre.mono ?_; clear hre; rintro e w4 ⟨x2, ec2, rfl, hA2, k4⟩; clear p0 p1 p2 p3; have hb4 := HB.out w4 _ ((k2.trans k3).trans k4) (fun e => e); have p0 := hb4.c 0 _ rfl; have p1 := hb4.c 1 _ rfl; clear hb4; have hgd := HGD.out w4 ((k2.trans k3).trans k4); clear HGD)
  refine hKH.out _ _ ?_
  clear hKH KK
  have K4 : Keeps (fun _ => False) W1 w4 := (k2.trans k3).trans k4
  have HV4 : Hid (PV W1.heap.size w4 (.slice va qs.length vc) qs) := (hV.keep k3).keep k4
  clear hV k2 k3 k4
  by_cases h0 : fltG n l = 0
  · rw [decide_eq_true h0] at hgd
    obtain ⟨m, g, rfl, hm, rfl, hbl⟩ := good_eg h0
    obtain ⟨rfl, hPA⟩ : ec = 0 ∧ PtA g m (qs.map Pq.l) := by
      rcases hA with ⟨q, -⟩ | ⟨-, q2, q3⟩
      · exact absurd h0 q
      · exact ⟨q2, q3 m g rfl rfl⟩
    have HPA : Hid (PtA g m (qs.map Pq.l)) := hPA
    have HR1 : Hid (ReA (m : Int) (g.map Eg.ed) fr to_ x1 ec1) := hA1
    have HR2 : Hid (ReA (m : Int) (g.map Eg.ed) to_ fr x2 ec2) := hA2
    have HF0 : Hid (fltG (m : Int) (g.map Eg.ed) = 0) := h0
    clear hA hPA hA1 hA2 h0
    have HQ : Hid ((qs.map Pq.l).length = qs.length) := List.length_map _
    have hQn : qs.length ≤ 4096 := by
      have := HPA.out.num
      rw [HQ.out] at this
      omega
    generalize hQ : qs.length = Q at *
    have HQL : Hid (qs.length = Q) := hQ
    clear hQ
    have HMK : Hid (∀ W : World, ∃ W2, (Instr.makeSlice 23 (.int .i64 (m : Int)) (.int .i64 (m : Int))).run Try.prog W = .ok (.slice (some ⟨W.heap.size, 0, none⟩) m m) W2 ∧ Keeps (fun _ => False) W W2 ∧ FB W2 W.heap.size m (nms (fun _ => 0))) := fun W => ⟨_, run_make_row' (P := Try.prog) 23 3 (.int .i64 0) 8 Try.underlying23 iI rfl .i64 .i64 m (by omega) (by omega) W, (Keeps.refl _ W).alloc _, FB.made W m (.int .i64 0) 3⟩
    go_wp2_with (first | (go_at_call 9; refine hgd.mono ?_; clear hgd; rintro e w5 ⟨rfl, k5⟩; have hfx := fixed_any w5) | (go_at_call 15; refine hfx.mono ?_; clear hfx; rintro e w6 ⟨rfl, k6⟩; clear p0 p1; have p0 := (HB.out w6 _ ((K4.trans k5).trans k6) (fun e => e)).c 0 _ rfl; obtain ⟨W7, hmk, k7, hF7⟩ := HMK.out w6; clear HMK))
    have K6 : Keeps (fun _ => False) W1 w6 := (K4.trans k5).trans k6
    have HV6 : Hid (PV W1.heap.size w6 (.slice va Q vc) qs) := (HV4.out.keep k5).keep k6
    have HF7 : Hid (FB W7 w6.heap.size m (nms (fun _ => 0))) := hF7
    have HO0 : Hid (OfI (qs.map Pq.l) m 0 0 (fun _ => 0)) := ⟨(fun v _ j hj => absurd hj (by omega)), (fun v _ q => by simp at q), fun v _ _ _ => rfl⟩
    have HB6 : Hid (∀ W, Keeps (fun b => b = w6.heap.size) w6 W → CL W w.heap.size [.int .i64 (m : Int), .slice a N cap, .int .i64 fr, .int .i64 to_]) := fun W k => HB.out W (fun b => b = w6.heap.size) (K6.trans' k (fun _ _ e => e.elim) (fun _ _ e => e)) (fun e => by
      have h1 := (HB.out w6 _ K6 (fun e => e)).lt (by show 0 < 4; decide)
      have e : w.heap.size = w6.heap.size := e
      omega)
    have HV6b : Hid (∀ W, Keeps (fun b => b = w6.heap.size) w6 W → PV W1.heap.size W (.slice va Q vc) qs) := fun W k => ⟨k.owns HV6.out.ra (fun b h1 h2 => by have := owns_lt' HV6.out.ra b h1; have h2 : b = w6.heap.size := h2; omega), fun q hq => k.owns (HV6.out.rq q hq) (fun b h1 h2 => by have := owns_lt' (HV6.out.rq q hq) b h1; have h2 : b = w6.heap.size := h2; omega), HV6.out.dq⟩
    have HKF : Hid (∀ W, Keeps (fun b => b = w6.heap.size) w6 W → Keeps (fun _ => False) w W) := fun W k => (k1.trans K6).trans' k (fun _ _ e => e) (fun b hb e => by have e : b = w6.heap.size := e; have := (k1.trans K6).size; omega)
    have HQO : Hid (∀ q ∈ qs, ∀ b off, q.a = some ⟨b, off, none⟩ → b ≠ w6.heap.size) := fun q hq b off e h => by
      obtain ⟨a', c', e', -, -, ho⟩ := own_slice (HV6.out.rq q hq)
      have e'' : q.val = .slice q.a q.l.length q.c := rfl
      rw [e''] at e'
      injection e' with e1 _ e3
      have h1 := (ho b off (by rw [← e1]; exact e)).2
      have h2 := owns_lt' (HV6.out.rq q hq) b h1
      omega
    have HK7 : Hid (Keeps (fun b => b = w6.heap.size) w6 W7) := k7.mono (fun _ _ e => e.elim)
    clear hF7 k7 hmk p0 HV4 K4 k5 k6 K6 HV6 k1 HB
    generalize hOO : w6.heap.size = O at *
    clear hOO
    go_loopg [10, 11] Q (fun gh fv iv Wr => ∃ (i : Nat) (F : Int) (o : Nat → Nat), gh + i = Q ∧ fv = .int .i64 F ∧ iv = .int .i64 (i : Int) ∧ i ≤ Q ∧ (i < Q → F < ((((qs.map Pq.l).getD i []).getD 0 0 : Nat) : Int)) ∧ FB Wr O m (nms o) ∧ OfI (qs.map Pq.l) m i 0 o ∧ Keeps (fun b => b = O) w6 Wr)
    case atStart => exact ⟨0, -1, _, rfl, rfl, rfl, Nat.zero_le _, fun _ => by omega, HF7.out, HO0.out, HK7.out⟩
    case round =>
      obtain ⟨i, F, o, hgh, rfl, rfl, hiQ, hFi, hFB, hOf, kr⟩ := hrel
      clear HF7 HO0 HK7
      by_cases hlt : i < Q
      · have j1 : decide ((i : Int) < (Q : Int)) = true := decide_eq_true (by omega)
        have j2 : decide (i < Q) = true := decide_eq_true hlt
        have j3 : (i : Int) < (Q : Int) := by omega
        have j4 : (0 : Int) ≤ (i : Int) := by omega
        have hwi : IntKind.i64.wrap ((i : Int) + 1) = (i : Int) + 1 := by rw [IntKind.wrap_i64]; omega
        have hFi := hFi hlt
        obtain ⟨q, ab, hq, hql, ⟨ac, hav⟩, hcell, hPM⟩ := pq_at (HV6b.out wr kr) (i := i) (by rw [HQL.out]; exact hlt)
        rw [HQL.out] at hav
        injection hav with hav _ hvc
        subst hav
        clear hvc
        have hiP : i < (qs.map Pq.l).length := by rw [HQ.out]; exact hlt
        have hqP : q.l ∈ qs.map Pq.l := List.mem_map.2 ⟨q, hq, rfl⟩
        obtain ⟨hq0, hq1, hq2⟩ := HPA.out.p0 _ hqP
        have hln : 0 < q.l.length := List.length_pos_iff.2 hq0
        have hlm : q.l.length ≤ 4096 := by have := nodup_leN m q.l (hq1.imp (fun {a b} h => Nat.ne_of_lt h)) hq2; omega
        rw [hql] at hFi
        obtain ⟨qb, qo, hqa, hc0⟩ := hPM 0 hln
        have HNQ : Hid (qb ≠ O) := HQO.out q hq qb qo hqa
        have HPM : Hid (PM wr q.a q.l) := hPM
        have HNF : Hid (i + 1 < Q → ((q.l.getD 0 0 : Nat) : Int) < ((((qs.map Pq.l).getD (i + 1) []).getD 0 0 : Nat) : Int)) := fun hh => by
          have h1 : i + 1 < (qs.map Pq.l).length := by rw [HQ.out]; exact hh
          have h2 := List.pairwise_iff_getElem.1 HPA.out.p3 i (i + 1) hiP h1 (by omega)
          have e1 : (qs.map Pq.l)[i] = q.l := by rw [← hql, List.getD_eq_getElem?_getD, List.getElem?_eq_getElem hiP]; rfl
          have e2 : (qs.map Pq.l).getD (i + 1) [] = (qs.map Pq.l)[i + 1] := by rw [List.getD_eq_getElem?_getD, List.getElem?_eq_getElem h1]; rfl
          rw [e1] at h2
          rw [e2]
          omega
        have HNX : Hid (∀ k o, OfI (qs.map Pq.l) m i k o → k < q.l.length → OfI (qs.map Pq.l) m i (k + 1) (upD o (q.l.getD k 0) (i + 1)) ∧ o (q.l.getD k 0) = 0) := fun k o h hk => by
          have := h.next HPA.out hiP (k := k) (by rw [hql]; exact hk)
          rw [hql] at this
          exact this
        have HPT : Hid (∀ k o, OfI (qs.map Pq.l) m i k o → q.l.length ≤ k → OfI (qs.map Pq.l) m (i + 1) 0 o) := fun k o h hk => h.part (by rw [hql]; exact hk)
        have HINC : Hid (∀ k, 0 < k → k < q.l.length → q.l.getD (k - 1) 0 < q.l.getD k 0) := fun k hk0 hk => by
          have h := List.pairwise_iff_getElem.1 hq1 (k - 1) k (by omega) hk (by omega)
          rw [List.getD_eq_getElem?_getD, List.getD_eq_getElem?_getD, List.getElem?_eq_getElem hk, List.getElem?_eq_getElem (by omega : k - 1 < q.l.length)]
          exact h
        have HLT : Hid (∀ k, k < q.l.length → q.l.getD k 0 < m) := fun k hk => hq2 _ (getD_memN hk)
        have HOf : Hid (OfI (qs.map Pq.l) m i 0 o) := hOf
        have HFB : Hid (FB wr O m (nms o)) := hFB
        unfold Pq.val at hcell
        obtain ⟨qa, qc, ql⟩ := q
        dsimp only at *
        subst hqa
        rw [Nat.add_zero] at hc0
        have HH0 : Hid ((((ql.getD 0 0 : Nat)) : Int) = ((ql.getD 0 0 : Nat) : Int)) := rfl
        clear hq hql hPM hq0 hq1 hq2 hqP hiP hOf hFB HH0
        generalize hM : ql.length = M at *
        have HM : Hid (ql.length = M) := hM
        clear hM
        have s1 : ((M : Int) == 0) = false := by rw [beq_eq_false_iff_ne]; omega
        have s2 : (M == 0) = false := by rw [beq_eq_false_iff_ne]; omega
        have s3 : (0 : Int) < (M : Int) := by omega
        generalize hh0 : ql.getD 0 0 = h0 at *
        clear hh0
        have s4 : decide ((h0 : Int) ≤ F) = false := decide_eq_false (by omega)
        have HKR : Hid (Keeps (fun b => b = O) w6 wr) := kr
        obtain ⟨wo, hwo⟩ : ∃ wo, wo = wr := ⟨_, rfl⟩
        subst hwo
        clear kr
        go_wp2_with fail
        go_loopw [13] (fun kv Wx => ∃ (k : Nat) (o2 : Nat → Nat), kv = .int .i64 (k : Int) ∧ k ≤ M ∧ FB Wx O m (nms o2) ∧ OfI (qs.map Pq.l) m i k o2 ∧ Keeps (fun b => b = O) w6 Wx ∧ PM Wx (some ⟨qb, qo, none⟩) ql) (fun kv _ => M - (intOf kv).toNat)
        case atStart => exact ⟨0, o, rfl, Nat.zero_le _, HFB.out, HOf.out, HKR.out, HPM.out⟩
        case round =>
          obtain ⟨k, o2, rfl, hkM, hFB2, hOf2, kx, hPM2⟩ := hrel
          by_cases hlk : k < M
          · have o1 : decide ((k : Int) < (M : Int)) = true := decide_eq_true (by omega)
            have o2' : decide (k < M) = true := decide_eq_true hlk
            have o3 : (k : Int) < (M : Int) := by omega
            have o4 : (0 : Int) ≤ (k : Int) := by omega
            have hwk : IntKind.i64.wrap ((k : Int) + 1) = (k : Int) + 1 := by rw [IntKind.wrap_i64]; omega
            have hkl : k < ql.length := by rw [HM.out]; exact hlk
            obtain ⟨b', off', eb, hck⟩ := hPM2 k hkl
            injection eb with eb
            injection eb with eb1 eb2 _
            subst eb1 eb2
            obtain ⟨hnx1, hnx2⟩ := HNX.out k o2 hOf2 hlk
            have hxm := HLT.out k hlk
            have hbx := HB6.out wr kx
            have r0 : ∀ u : KS wr, u.1.cell? ⟨qb, qo + k, none⟩ = some (.int .i64 ((ql.getD k 0 : Nat) : Int)) := ks_cell hck
            have r1 : ∀ u : KS wr, u.1.cell? ⟨w.heap.size, 0, none⟩ = some (.int .i64 (m : Int)) := ks_cell (hbx.c 0 _ rfl)
            have r2 : ∀ u : KS wr, u.1.cell? ⟨O, ql.getD k 0, none⟩ = some (.int .i64 0) := ks_cell (by have := hFB2.c _ hxm; unfold nms at this; rw [hnx2] at this; exact this)
            have HPRV : Hid (0 < k → ∃ y : Nat, y < ql.getD k 0 ∧ wr.cell? ⟨qb, qo + (k - 1), none⟩ = some (.int .i64 (y : Int))) := fun hk0 => by
              obtain ⟨b', off', eb, hcy⟩ := hPM2 (k - 1) (by omega)
              injection eb with eb
              injection eb with eb1 eb2 _
              subst eb1 eb2
              exact ⟨_, HINC.out k hk0 hlk, hcy⟩
            have HFB2 : Hid (FB wr O m (nms o2)) := hFB2
            have HNX1 : Hid (OfI (qs.map Pq.l) m i (k + 1) (upD o2 (ql.getD k 0) (i + 1))) := hnx1
            have HPM2 : Hid (PM wr (some ⟨qb, qo, none⟩) ql) := hPM2
            have HKX : Hid (Keeps (fun b => b = O) w6 wr) := kx
            have hNE : Nonempty (KS wr) := ⟨⟨wr, Keeps.refl _ wr⟩⟩
            clear hFB2 hOf2 kx hPM2 hnx1 hnx2 hbx hkl
            have HCK : Hid (wr.cell? ⟨qb, qo + k, none⟩ = some (.int .i64 ((ql.getD k 0 : Nat) : Int))) := hck
            clear hck
            generalize ql.getD k 0 = x at *
            have n1 : (0 : Int) ≤ (x : Int) := by omega
            have n2 : (x : Int) < (m : Int) := by omega
            have t1 : decide ((x : Int) < 0) = false := decide_eq_false (by omega)
            have t2 : decide ((m : Int) ≤ (x : Int)) = false := decide_eq_false (by omega)
            have t3 : decide (m ≤ x) = false := decide_eq_false (by omega)
            have t4 : decide ((x : Int) ≥ (m : Int)) = false := decide_eq_false (by omega)
            have t5 : ((0 : Int) != 0) = false := by simp
            by_cases hk0 : 0 < k
            · have d1 : decide ((k : Int) > 0) = true := decide_eq_true (by omega)
              have d2 : decide ((0 : Int) < (k : Int)) = true := decide_eq_true (by omega)
              have d3 : decide (0 < k) = true := decide_eq_true hk0
              obtain ⟨y, hyx, hcy⟩ := HPRV.out hk0
              obtain ⟨k', hk'⟩ : ∃ k', k' = k - 1 := ⟨_, rfl⟩
              rw [← hk'] at hcy
              have r3 : ∀ u : KS wr, u.1.cell? ⟨qb, qo + k', none⟩ = some (.int .i64 (y : Int)) := ks_cell hcy
              have hwk3 : IntKind.i64.wrap ((k : Int) - 1) = (k' : Int) := by rw [IntKind.wrap_i64]; omega
              have g1 : (0 : Int) ≤ (k' : Int) := by omega
              have g2 : (k' : Int) < (M : Int) := by omega
              clear hk'
              have d4 : decide ((x : Int) ≤ (y : Int)) = false := decide_eq_false (by omega)
              have d5 : decide (x ≤ y) = false := decide_eq_false (by omega)
              clear hcy
              go_wp2_with fail
              refine wp_region_ks (by kernel_rfl) (by kernel_rfl) ?_
              (repeat (first | go_big_quiet_skip | go_big_quiet_step (fail)))
              refine wpQuiet_nil ?_
              rintro _ ⟨u, rfl⟩
              have ku := u.property
              have hF9 := HFB2.out.keep ku (fun e => e)
              have c9 := ku.cell HCK.out (fun e => e)
              clear r0 r1 r2 hNE
              generalize u.val = wu at *
              go_wp2_with (refine wpList_store_fi rfl rfl _ _ rfl O x rfl ((i : Int) + 1) rfl hF9 hxm ?_; intro w9 hf9 k9 hz9; clear hz9 hF9 c9)
              go_roundw
              case rel => exact ⟨k + 1, _, by go_num, by omega, hf9.congr (fun p _ => by have := nms_up (d := o2) (x := x) (k := i + 1) p; exact this), HNX1.out, (HKX.out.trans' ku (fun _ _ e => e) (fun _ _ e => e.elim)).trans' k9 (fun _ _ e => e) (fun _ _ e => e), (HPM2.out.keep ku).keepS k9 (fun b off e q => HNQ.out (by injection e with e; injection e with e _ _; rw [e]; exact q))⟩
              case measure => simp [intOf]; omega
            · have d1 : decide ((k : Int) > 0) = false := decide_eq_false (by omega)
              have d2 : decide ((0 : Int) < (k : Int)) = false := decide_eq_false (by omega)
              have d3 : decide (0 < k) = false := decide_eq_false hk0
              go_wp2_with fail
              refine wp_region_ks (by kernel_rfl) (by kernel_rfl) ?_
              (repeat (first | go_big_quiet_skip | go_big_quiet_step (fail)))
              refine wpQuiet_nil ?_
              rintro _ ⟨u, rfl⟩
              have ku := u.property
              have hF9 := HFB2.out.keep ku (fun e => e)
              have c9 := ku.cell HCK.out (fun e => e)
              clear r0 r1 r2 hNE
              generalize u.val = wu at *
              go_wp2_with (refine wpList_store_fi rfl rfl _ _ rfl O x rfl ((i : Int) + 1) rfl hF9 hxm ?_; intro w9 hf9 k9 hz9; clear hz9 hF9 c9)
              go_roundw
              case rel => exact ⟨k + 1, _, by go_num, by omega, hf9.congr (fun p _ => by have := nms_up (d := o2) (x := x) (k := i + 1) p; exact this), HNX1.out, (HKX.out.trans' ku (fun _ _ e => e) (fun _ _ e => e.elim)).trans' k9 (fun _ _ e => e) (fun _ _ e => e), (HPM2.out.keep ku).keepS k9 (fun b off e q => HNQ.out (by injection e with e; injection e with e _ _; rw [e]; exact q))⟩
              case measure => simp [intOf]; omega
          · have o1 : decide ((k : Int) < (M : Int)) = false := decide_eq_false (by omega)
            have o2' : decide (k < M) = false := decide_eq_false hlk
            have HO3 : Hid (OfI (qs.map Pq.l) m (i + 1) 0 o2) := HPT.out k o2 hOf2 (by omega)
            have HFB3 : Hid (FB wr O m (nms o2)) := hFB2
            clear hFB2 hOf2 hPM2
            go_wp2_with fail
            go_roundg (gk - 1)
            case measure => omega
            case rel => exact ⟨i + 1, (h0 : Int), o2, by omega, rfl, by go_num, by omega, HNF.out, HFB3.out, HO3.out, kx⟩
      · have j1 : decide ((i : Int) < (Q : Int)) = false := decide_eq_false (by omega)
        have j2 : decide (i < Q) = false := decide_eq_false hlt
        have HOF : Hid (OfI (qs.map Pq.l) m i 0 o) := hOf
        have hPi : (qs.map Pq.l).length ≤ i := by rw [HQ.out]; omega
        have HNZ : Hid (∀ v, v < m → o v ≠ 0) := fun v hv => by
          obtain ⟨j, -, -, e⟩ := HOF.out.of HPA.out hPi hv
          omega
        have HSM : Hid (∀ u v, u < m → v < m → u ≠ v → ((o u = o v) ↔ (Rch g u v ∧ Rch g v u))) := fun u v hu hv hne => HOF.out.same HPA.out hPi hu hv hne
        have p0 := (HB6.out wr kr).c 0 _ rfl
        clear hOf hFi hPi
        go_wp2_with fail
        go_loopw [14] (fun iv Wx => ∃ (v : Nat), iv = .int .i64 (v : Int) ∧ v ≤ m ∧ FB Wx O m (nms o) ∧ Keeps (fun b => b = O) w6 Wx) (fun iv _ => m - (intOf iv).toNat)
        case atStart => exact ⟨0, rfl, Nat.zero_le _, hFB, kr⟩
        case round =>
          obtain ⟨v, rfl, hvm, hFBv, kv⟩ := hrel
          clear p0
          have hbv := HB6.out wr kv
          have p0 := hbv.c 0 _ rfl
          by_cases hlv : v < m
          · have m1 : decide ((v : Int) < (m : Int)) = true := decide_eq_true (by omega)
            have m2 : decide (v < m) = true := decide_eq_true hlv
            have m3 : (v : Int) < (m : Int) := by omega
            have m4 : (0 : Int) ≤ (v : Int) := by omega
            have hwv : IntKind.i64.wrap ((v : Int) + 1) = (v : Int) + 1 := by rw [IntKind.wrap_i64]; omega
            have y0 : wr.cell? ⟨O, v, none⟩ = some (.int .i64 (o v : Int)) := hFBv.c v hlv
            have hnz := HNZ.out v hlv
            have HFV : Hid (FB wr O m (nms o)) := hFBv
            clear hFBv hbv hFB
            obtain ⟨ov, hov⟩ : ∃ ov, ov = o v := ⟨_, rfl⟩
            rw [← hov] at y0 hnz
            clear hov
            have s1 : ((ov : Int) == 0) = false := by rw [beq_eq_false_iff_ne]; omega
            have s2 : (ov == 0) = false := by rw [beq_eq_false_iff_ne]; exact hnz
            go_wp2_with fail
            go_roundw
            case rel => exact ⟨v + 1, by go_num, by omega, HFV.out, kv⟩
            case measure => simp [intOf]; omega
          · have m1 : decide ((v : Int) < (m : Int)) = false := decide_eq_false (by omega)
            have m2 : decide (v < m) = false := decide_eq_false hlv
            have p2 := hbv.c 2 _ rfl
            have p3 := hbv.c 3 _ rfl
            have HEND : Hid (Below w.heap.size w wr) := (HKF.out wr kv).below (Nat.le_refl _) (fun _ _ e => e)
            have HFV : Hid (FB wr O m (nms o)) := hFBv
            have HBV : Hid (CL wr w.heap.size [.int .i64 (m : Int), .slice a N cap, .int .i64 fr, .int .i64 to_]) := hbv
            clear hFBv hbv hFB
            by_cases g1 : fr < 0
            · have s1 : decide (fr < 0) = true := decide_eq_true g1
              clear g1
              go_wp2_with fail
              go_ret
              exact ⟨rfl, HEND.out⟩
            have s1 : decide (fr < 0) = false := decide_eq_false g1
            by_cases g2 : (m : Int) ≤ fr
            · have s2 : decide ((m : Int) ≤ fr) = true := decide_eq_true g2
              clear g1 g2
              go_wp2_with fail
              go_ret
              exact ⟨rfl, HEND.out⟩
            have s2 : decide ((m : Int) ≤ fr) = false := decide_eq_false g2
            by_cases g3 : to_ < 0
            · have s3 : decide (to_ < 0) = true := decide_eq_true g3
              clear g1 g2 g3
              go_wp2_with fail
              go_ret
              exact ⟨rfl, HEND.out⟩
            have s3 : decide (to_ < 0) = false := decide_eq_false g3
            by_cases g4 : (m : Int) ≤ to_
            · have s4 : decide ((m : Int) ≤ to_) = true := decide_eq_true g4
              clear g1 g2 g3 g4
              go_wp2_with fail
              go_ret
              exact ⟨rfl, HEND.out⟩
            have s4 : decide ((m : Int) ≤ to_) = false := decide_eq_false g4
            by_cases g5 : fr = to_
            · have s5 : (fr == to_) = true := by simp [g5]
              clear g1 g2 g3 g4 g5
              go_wp2_with fail
              go_ret
              exact ⟨rfl, HEND.out⟩
            have hA : isN (m : Int) fr = true := isN_iff.2 ⟨by omega, by omega⟩
            have hB : isN (m : Int) to_ = true := isN_iff.2 ⟨by omega, by omega⟩
            obtain ⟨u, rfl⟩ : ∃ u : Nat, fr = (u : Int) := ⟨fr.toNat, by omega⟩
            obtain ⟨t, rfl⟩ : ∃ t : Nat, to_ = (t : Int) := ⟨to_.toNat, by omega⟩
            have hum : u < m := by omega
            have htm : t < m := by omega
            have hne : u ≠ t := fun e => g5 (by rw [e])
            obtain ⟨rfl, hx1⟩ : ec1 = 0 ∧ (x1 = true ↔ Rch g u t) := by
              rcases HR1.out with ⟨q, -⟩ | ⟨-, q, -⟩ | ⟨-, -, q2, q3⟩
              · exact absurd HF0.out q
              · rw [hA, hB] at q; cases q
              · exact ⟨q2, by simpa using q3 g rfl⟩
            have hx2 : x2 = true ↔ Rch g t u := by
              rcases HR2.out with ⟨q, -⟩ | ⟨-, q, -⟩ | ⟨-, -, q2, q3⟩
              · exact absurd HF0.out q
              · rw [hA, hB] at q; cases q
              · simpa using q3 g rfl
            have hsm := HSM.out u t hum htm hne
            have heq : decide (o u = o t) = (x1 && x2) := by
              rw [Bool.eq_iff_iff, decide_eq_true_iff, Bool.and_eq_true, hx1, hx2]
              exact hsm
            have s5 : ((u : Int) == (t : Int)) = false := by rw [beq_eq_false_iff_ne]; omega
            have s6 : (u == t) = false := by rw [beq_eq_false_iff_ne]; exact hne
            have s7 : decide (m ≤ u) = false := decide_eq_false (by omega)
            have s8 : decide (m ≤ t) = false := decide_eq_false (by omega)
            have n1 : (0 : Int) ≤ (u : Int) := by omega
            have n2 : (u : Int) < (m : Int) := by omega
            have n3 : (0 : Int) ≤ (t : Int) := by omega
            have n4 : (t : Int) < (m : Int) := by omega
            have r0 : ∀ z : KS wr, z.1.cell? ⟨w.heap.size, 2, none⟩ = some (.int .i64 (u : Int)) := ks_cell p2
            have r1 : ∀ z : KS wr, z.1.cell? ⟨w.heap.size, 3, none⟩ = some (.int .i64 (t : Int)) := ks_cell p3
            have r2 : ∀ z : KS wr, z.1.cell? ⟨O, u, none⟩ = some (.int .i64 (o u : Int)) := ks_cell (HFV.out.c u hum)
            have r3 : ∀ z : KS wr, z.1.cell? ⟨O, t, none⟩ = some (.int .i64 (o t : Int)) := ks_cell (HFV.out.c t htm)
            have hNE : Nonempty (KS wr) := ⟨⟨wr, Keeps.refl _ wr⟩⟩
            have HKE : Hid (∀ z : KS wr, Below w.heap.size w z.1) := fun z => ((HKF.out wr kv).trans z.property).below (Nat.le_refl _) (fun _ _ e => e)
            clear hsm hx1 hx2 HSM HNZ g1 g2 g3 g4 g5 hA hB HR1 HR2 HFV HBV HOF
            generalize o u = ou at *
            generalize o t = ot at *
            have e1 : ((ou : Int) == (ot : Int)) = (x1 && x2) := by rw [← heq, Bool.eq_iff_iff, beq_iff_eq, decide_eq_true_iff]; omega
            have e2 : (ou == ot) = (x1 && x2) := by rw [← heq, Bool.eq_iff_iff]; simp
            clear heq
            cases x1 <;> cases x2 <;> (
              simp only [Bool.and_false, Bool.and_true] at e1 e2
              go_wp2_with fail
              refine wp_region_ks (by kernel_rfl) (by kernel_rfl) ?_
              (repeat (first | go_big_quiet_skip | go_big_quiet_step (fail)))
              refine wpQuiet_nil ?_
              rintro _ ⟨z, rfl⟩
              have hz := HKE.out z
              clear r0 r1 r2 r3 hNE
              generalize z.val = wz at *
              go_wp2_with fail
              go_ret
              exact ⟨rfl, hz⟩)
  · rw [decide_eq_false h0] at hgd
    obtain ⟨rfl, hP0⟩ : ec = fltG n l ∧ qs.map Pq.l = [] := by
      rcases hA with ⟨-, q2, q3⟩ | ⟨q, -⟩
      · exact ⟨q2, q3⟩
      · exact absurd q h0
    obtain rfl : qs = [] := List.map_eq_nil_iff.1 hP0
    obtain rfl : ec1 = fltG n l := by
      rcases hA1 with ⟨-, q2, -⟩ | ⟨q, -⟩ | ⟨q, -⟩
      · exact q2
      · exact absurd q h0
      · exact absurd q h0
    have s1 : (fltG n l == 0) = false := by rw [beq_eq_false_iff_ne]; exact h0
    have s2 : (fltG n l != 0) = true := by rw [bne_iff_ne]; exact h0
    have s3 : (fltG n l == fltG n l) = true := by simp
    clear hA hA1 hA2 hP0 h0 HV4
    generalize fltG n l = R at *
    go_wp2_with (first | (go_at_call 9; refine hgd.mono ?_; clear hgd; rintro e w5 ⟨rfl, k5⟩; have hfx := fixed_any w5) | (go_at_call 15; refine hfx.mono ?_; clear hfx; rintro e w6 ⟨rfl, k6⟩))
    go_ret
    exact ⟨rfl, (((k1.trans K4).trans k5).trans k6).below (Nat.le_refl _) (fun _ _ e => e)⟩
end Go.Proofs.Ytfbbllokpikbiab
