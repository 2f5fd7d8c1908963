import Derived.Test.YtfbbllokpikbiaaGrY
namespace Go.Proofs.Ytfbbllokpikbiaa
open Go.RowKit Go.Deep
attribute [local go_sem] Oper.semAt_some run_store_nf run_store_f
theorem SC.symm {g : List Eg} {u v : Nat} (h : SC g u v) : SC g v u := ⟨h.2, h.1⟩
theorem SC.trans {g : List Eg} {u v x : Nat} (h : SC g u v) (h' : SC g v x) : SC g u x := ⟨h.1.trans h'.1, h'.2.trans h.2⟩
theorem SC.refl (g : List Eg) (u : Nat) : SC g u u := ⟨Rs.refl g u, Rs.refl g u⟩
theorem sc_iff {g : List Eg} {u v : Nat} (h : u ≠ v) : SC g u v ↔ (Rch g u v ∧ Rch g v u) := by
  constructor
  · rintro ⟨a, b⟩
    exact ⟨a.resolve_left h, b.resolve_left (fun e => h e.symm)⟩
  · rintro ⟨a, b⟩
    exact ⟨.inr a, .inr b⟩
/-- A node's part, so far. -/
structure ClI (g : List Eg) (a b : Nat) (L : List Nat) : Prop where
  s : L.Pairwise (· < ·)
  l : ∀ x ∈ L, x < b
  m : ∀ y, y < b → (y ∈ L ↔ SC g a y)
theorem ClI.start (g : List Eg) (a : Nat) : ClI g a 0 [] := ⟨List.Pairwise.nil, (fun x hx => by cases hx), fun y hy => absurd hy (by omega)⟩
theorem ClI.yes {g : List Eg} {a b : Nat} {L : List Nat} (h : ClI g a b L) (hs : SC g a b) : ClI g a (b + 1) (L ++ [b]) := by
  refine ⟨?_, fun x hx => ?_, fun y hy => ?_⟩
  · rw [List.pairwise_append]
    exact ⟨h.s, by simp, fun x hx y hy => by simp at hy; subst hy; exact h.l x hx⟩
  · rcases List.mem_append.1 hx with hx | hx
    · have := h.l x hx; omega
    · simp at hx; omega
  · rw [List.mem_append, List.mem_singleton]
    by_cases e : y = b
    · subst e; simp [hs]
    · rw [h.m y (by omega)]; simp [e]
theorem ClI.no {g : List Eg} {a b : Nat} {L : List Nat} (h : ClI g a b L) (hs : ¬ SC g a b) : ClI g a (b + 1) L := by
  refine ⟨h.s, fun x hx => by have := h.l x hx; omega, fun y hy => ?_⟩
  by_cases e : y = b
  · subst e
    exact ⟨fun q => absurd (h.l y q) (by omega), fun q => absurd q hs⟩
  · exact h.m y (by omega)
/-- The document's parts, so far. -/
structure PlI (g : List Eg) (n a : Nat) (P : List (List Nat)) : Prop where
  p0 : ∀ p ∈ P, p ≠ [] ∧ p.Pairwise (· < ·) ∧ ∀ x ∈ p, x < n
  p1 : ∀ p ∈ P, ∀ x ∈ p, ∀ y, y < n → (y ∈ p ↔ SC g x y)
  p3 : P.Pairwise (fun p q => p.getD 0 0 < q.getD 0 0)
  hd : ∀ p ∈ P, p.getD 0 0 < a
  cv : ∀ u, u < n → ∀ y, y < a → SC g u y → ∃ p ∈ P, u ∈ p
theorem PlI.start (g : List Eg) (n : Nat) : PlI g n 0 [] := ⟨(fun p hp => by cases hp), (fun p hp => by cases hp), List.Pairwise.nil, (fun p hp => by cases hp), fun u _ y hy => absurd hy (by omega)⟩
theorem PlI.done {g : List Eg} {n : Nat} {P : List (List Nat)} (h : PlI g n n P) : PtA g n P := ⟨h.p0, h.p1, fun u hu => h.cv u hu u hu (SC.refl g u), h.p3⟩
theorem ClI.pos {g : List Eg} {n a : Nat} {L : List Nat} (h : ClI g a n L) (ha : a < n) : 0 < L.length := List.length_pos_iff.2 (fun e => by have := (h.m a ha).2 (SC.refl g a); rw [e] at this; cases this)
theorem ClI.head {g : List Eg} {n a : Nat} {L : List Nat} (h : ClI g a n L) (ha : a < n) : L.getD 0 0 ≤ a ∧ SC g a (L.getD 0 0) := by
  have hp := h.pos ha
  have hm := (h.m a ha).2 (SC.refl g a)
  have h0 := getD_memN hp
  refine ⟨?_, (h.m _ (h.l _ h0)).1 h0⟩
  obtain ⟨i, hi, e⟩ := getD_at hm
  by_cases c : i = 0
  · rw [← e, c]; exact Nat.le_refl _
  · have := List.pairwise_iff_getElem.1 h.s 0 i hp hi (by omega)
    rw [← e, List.getD_eq_getElem?_getD, List.getD_eq_getElem?_getD, List.getElem?_eq_getElem hp, List.getElem?_eq_getElem hi]
    exact Nat.le_of_lt this
theorem PlI.add {g : List Eg} {n a : Nat} {P : List (List Nat)} {L : List Nat} (h : PlI g n a P) (hc : ClI g a n L) (ha : a < n) (h0 : L.getD 0 0 = a) : PlI g n (a + 1) (P ++ [L]) := by
  have hp := hc.pos ha
  have key : ∀ x ∈ L, ∀ y, y < n → (y ∈ L ↔ SC g x y) := fun x hx y hy => by
    have hxa := (hc.m x (hc.l x hx)).1 hx
    rw [hc.m y hy]
    exact ⟨fun q => hxa.symm.trans q, fun q => hxa.trans q⟩
  refine ⟨fun p q => ?_, fun p q => ?_, ?_, fun p q => ?_, fun u hu y hy q => ?_⟩
  · rcases List.mem_append.1 q with q | q
    · exact h.p0 p q
    · simp only [List.mem_singleton] at q; subst q
      exact ⟨List.length_pos_iff.1 hp, hc.s, hc.l⟩
  · rcases List.mem_append.1 q with q | q
    · exact h.p1 p q
    · simp only [List.mem_singleton] at q; subst q
      exact key
  · rw [List.pairwise_append]
    exact ⟨h.p3, by simp, fun p hp' q hq => by simp only [List.mem_singleton] at hq; subst hq; rw [h0]; exact h.hd p hp'⟩
  · rcases List.mem_append.1 q with q | q
    · have := h.hd p q; omega
    · simp only [List.mem_singleton] at q; subst q; omega
  · by_cases e : y = a
    · subst e
      exact ⟨L, by simp, (hc.m u hu).2 q.symm⟩
    · obtain ⟨p, h1, h2⟩ := h.cv u hu y (by omega) q
      exact ⟨p, List.mem_append_left _ h1, h2⟩
theorem PlI.skip {g : List Eg} {n a : Nat} {P : List (List Nat)} {L : List Nat} (h : PlI g n a P) (hc : ClI g a n L) (ha : a < n) (h0 : L.getD 0 0 ≠ a) : PlI g n (a + 1) P := by
  obtain ⟨h1, h2⟩ := hc.head ha
  refine ⟨h.p0, h.p1, h.p3, fun p q => by have := h.hd p q; omega, fun u hu y hy q => ?_⟩
  by_cases e : y = a
  · subst e
    exact h.cv u hu _ (by omega) (q.trans h2)
  · exact h.cv u hu y (by omega) q
theorem append_q2 {W : World} {base m : Nat} {v : Value} {xs : List Value} (hO : W.ownsRow base 35 1 v m xs) (hb : base ≤ W.heap.size) (hm : (m + 1) * 24 ≤ 140737488355328) (x : Option Addr) (n c : Nat) :
    ∃ a' c' W', (Builtin.append_ #[57, 57] 57 #[v, .slice (some ⟨W.heap.size, 0, none⟩) 1 1]).run Try.prog (W.alloc (.cells #[.slice x n c] 35)) = .ok (.slice a' (m + 1) c') W' ∧ W'.ownsRow base 35 1 (.slice a' (m + 1) c') (m + 1) (xs ++ [.slice x n c]) ∧ Keeps (fun i => v.ownBlock = some i) W W' ∧ ((Value.slice a' (m + 1) c').ownBlock = v.ownBlock ∨ (Value.slice a' (m + 1) c').ownBlock = some (W.heap.size + 1)) := by
  obtain ⟨v', W', q1, q2, q3, q4⟩ := append_sz uQ iQ rfl (by decide) hO hb (by decide) hm [.slice x n c] rfl (fun u hu => by simp at hu; subst hu; rfl)
  obtain ⟨a', c', rfl, -⟩ := own_slice q2
  exact ⟨a', c', W', q1, q2, q3, q4⟩
/-- A list more in a list of lists. -/
theorem PV.add {base : Nat} {W W' : World} {v v' : Value} {qs : List Pq} {q : Pq} (h : PV base W v qs) (hq : W.ownsRow base 3 1 q.val q.l.length (pvs q.l)) (hd : ∀ p ∈ qs, ∀ b, p.val.ownBlock = some b → q.val.ownBlock ≠ some b) (k : Keeps (fun i => v.ownBlock = some i) W W') (hr : W'.ownsRow base 35 1 v' (qs.length + 1) (qs.map Pq.val ++ [q.val])) : PV base W' v' (qs ++ [q]) := by
  have ap : ∀ {u : Value} {m : Nat} {xs : List Value}, W.ownsRow base 3 1 u m xs → W'.ownsRow base 3 1 u m xs := fun ho => k.owns ho (fun b hb e => own_apart ho h.ra (by decide) b hb e)
  refine ⟨by rw [List.length_append, List.map_append]; exact hr, fun p hp => ?_, ?_⟩
  · rcases List.mem_append.1 hp with hp | hp
    · exact ap (h.rq p hp)
    · simp only [List.mem_singleton] at hp; subst hp; exact ap hq
  · rw [List.pairwise_append]
    exact ⟨h.dq, by simp, fun p hp p' hp' => by simp only [List.mem_singleton] at hp'; subst hp'; exact hd p hp⟩
/-- The lists of distances, so far. -/
structure DT (base : Nat) (W : World) (g : List Eg) (m i : Nat) (v : Value) (A : Nat → Nat) (D : Nat → Nat → Nat) : Prop where
  r : W.ownsRow base 35 1 v i ((List.range i).map (fun j => Value.slice (some ⟨A j, 0, none⟩) m m))
  f : ∀ j, j < i → FB W (A j) m (nms (D j)) ∧ Aw g m j (D j) ∧ AwF g j (D j)
  a : ∀ j, j < i → A j < W.heap.size ∧ v.ownBlock ≠ some (A j)
theorem DT.start (base : Nat) (W : World) (g : List Eg) (m : Nat) : DT base W g m 0 (.slice none 0 0) (fun _ => 0) (fun _ _ => 0) := ⟨World.ownsRow_nil _ _ _ _, fun j hj => absurd hj (by omega), fun j hj => absurd hj (by omega)⟩
theorem DT.keep {base : Nat} {W W' : World} {g : List Eg} {m i : Nat} {v : Value} {A : Nat → Nat} {D : Nat → Nat → Nat} (h : DT base W g m i v A D) (k : Keeps (fun _ => False) W W') : DT base W' g m i v A D := ⟨k.owns h.r (fun _ _ e => e), fun j hj => ⟨(h.f j hj).1.keep k (fun e => e), (h.f j hj).2⟩, fun j hj => ⟨Nat.lt_of_lt_of_le (h.a j hj).1 k.size, (h.a j hj).2⟩⟩
theorem DT.next {base : Nat} {W W1 : World} {g : List Eg} {m i : Nat} {v v' : Value} {A : Nat → Nat} {D : Nat → Nat → Nat} (h : DT base W g m i v A D) {b : Nat} {d : Nat → Nat} (hb : b < W.heap.size) (hvb : v.ownBlock ≠ some b) (hd : FB W b m (nms d)) (h1 : Aw g m i d) (h2 : AwF g i d) (hr : W1.ownsRow base 35 1 v' (i + 1) ((List.range i).map (fun j => Value.slice (some ⟨A j, 0, none⟩) m m) ++ [.slice (some ⟨b, 0, none⟩) m m])) (k : Keeps (fun x => v.ownBlock = some x) W W1) (ho : v'.ownBlock = v.ownBlock ∨ v'.ownBlock = some (W.heap.size + 1)) : DT base W1 g m (i + 1) v' (upD A i b) (fun j => if j = i then d else D j) := by
  have eA : ∀ j, j < i → upD A i b j = A j := fun j hj => by unfold upD; rw [if_neg (by omega)]
  have eI : upD A i b i = b := by unfold upD; rw [if_pos rfl]
  have nv : ∀ x, x < W.heap.size → v.ownBlock ≠ some x → v'.ownBlock ≠ some x := fun x hx hv e => by
    rcases ho with q | q
    · rw [q] at e; exact hv e
    · rw [q] at e
      injection e with e
      omega
  refine ⟨?_, fun j hj => ?_, fun j hj => ?_⟩
  · rw [List.range_succ, List.map_append]
    have e1 : (List.range i).map (fun j => Value.slice (some ⟨upD A i b j, 0, none⟩) m m) = (List.range i).map (fun j => Value.slice (some ⟨A j, 0, none⟩) m m) := List.map_congr_left (fun j hj => by rw [eA j (List.mem_range.1 hj)])
    rw [e1]
    show W1.ownsRow _ _ _ _ _ (_ ++ [Value.slice (some ⟨upD A i b i, 0, none⟩) m m])
    rw [eI]
    exact hr
  · by_cases e : j = i
    · subst e
      rw [eI, if_pos rfl]
      exact ⟨hd.keep k hvb, h1, h2⟩
    · rw [eA j (by omega), if_neg e]
      obtain ⟨q1, q2⟩ := h.f j (by omega)
      exact ⟨q1.keep k (h.a j (by omega)).2, q2⟩
  · by_cases e : j = i
    · subst e
      rw [eI]
      exact ⟨Nat.lt_of_lt_of_le hb k.size, nv b hb hvb⟩
    · rw [eA j (by omega)]
      obtain ⟨q1, q2⟩ := h.a j (by omega)
      exact ⟨Nat.lt_of_lt_of_le q1 k.size, nv _ q1 q2⟩
theorem DT.cell {base : Nat} {W : World} {g : List Eg} {m i : Nat} {v : Value} {A : Nat → Nat} {D : Nat → Nat → Nat} (h : DT base W g m i v A D) {j : Nat} (hj : j < i) : ∃ tb tc, v = .slice (some ⟨tb, 0, none⟩) i tc ∧ W.cell? ⟨tb, j, none⟩ = some (.slice (some ⟨A j, 0, none⟩) m m) := by
  obtain ⟨a', c', rfl, hc, -, -⟩ := own_slice h.r
  obtain ⟨tb, rfl, hcell⟩ := hc j (.slice (some ⟨A j, 0, none⟩) m m) (by rw [List.getElem?_map, List.getElem?_range hj]; rfl)
  exact ⟨tb, c', rfl, hcell⟩
set_option maxHeartbeats 1500000 in
set_option maxRecDepth 100000 in
theorem rParts_any {w : World} {a : Option Addr} {cap : Nat} {l : List Ed} (n : Int) (hl : EL w a l) (hlen : l.length ≤ 4398046510976) : Calls Try.prog 23 #[.int .i64 n, .slice a l.length cap] w (PsP n l w) := by
  have hfa := refused_any (cap := cap) n hl (by omega)
  have HP : Hid (∀ v qs ec w', PV w.heap.size w' v qs → PsA n l (qs.map Pq.l) ec → Keeps (fun _ => False) w w' → PsP n l w (.returned (.tuple #[v, .int .i64 ec])) w') := fun v qs ec w' h1 h2 h3 => ⟨v, qs, ec, rfl, h1, h2, h3⟩
  by_cases h0 : fltG n l = 0
  · obtain ⟨m, g, rfl, hm, rfl, hbl⟩ := good_eg h0
    have HPX : Hid (∀ v qs w', PV w.heap.size w' v qs → PtA g m (qs.map Pq.l) → Keeps (fun _ => False) w w' → PsP (m : Int) (g.map Eg.ed) w (.returned (.tuple #[v, .int .i64 0])) w') := fun v qs w' h1 h2 h3 => HP.out v qs 0 w' h1 (PsA.ok h0 h2) h3
    rw [List.length_map] at hlen
    have HAW : Hid (∀ W (x : Nat), Keeps (fun _ => False) w W → Calls Try.prog 25 #[.int .i64 (m : Int), .slice a g.length cap, .int .i64 (x : Int)] W (AwP g m x W)) := fun W x k => away_any (hl.keep k) hbl hm (by omega)
    have HBL : Hid (Bln g m) := hbl
    rw [h0] at hfa
    clear HP h0 hl hbl
    rw [List.length_map] at hfa ⊢
    generalize g.length = N at *
    go_enter Try.func23, Try.ntmps23
    go_wp2_with (go_at_call 24; refine hfa.mono ?_; clear hfa; rintro e w1 ⟨rfl, k1⟩)
    have HK1 : Hid (Keeps (fun _ => False) w w1) := k1
    clear k1
    go_loopw [7, 8] (fun tv iv Wr => ∃ (i : Nat) (ta : Option Addr) (tc : Nat) (A : Nat → Nat) (D : Nat → Nat → Nat), tv = .slice ta i tc ∧ iv = .int .i64 (i : Int) ∧ i ≤ m ∧ DT w1.heap.size Wr g m i (.slice ta i tc) A D ∧ Keeps (fun _ => False) w1 Wr) (fun _ iv _ => m - (intOf iv).toNat)
    case atStart => exact ⟨0, none, 0, _, _, rfl, rfl, Nat.zero_le _, DT.start _ _ _ _, Keeps.refl _ _⟩
    case round =>
      obtain ⟨i, ta, tc, A, D, rfl, rfl, him, hD, kr⟩ := hrel
      by_cases hlt : i < m
      · have j1 : decide ((i : Int) < (m : Int)) = true := decide_eq_true (by omega)
        have j2 : decide (i < m) = true := decide_eq_true hlt
        have j3 : (i : Int) < (m : Int) := by omega
        have j4 : (0 : Int) ≤ (i : Int) := by omega
        have hwi : IntKind.i64.wrap ((i : Int) + 1) = (i : Int) + 1 := by rw [IntKind.wrap_i64]; omega
        have haw := HAW.out wr i (HK1.out.trans kr)
        have HX : Hid (∀ w2 d, FB w2 wr.heap.size m (nms d) → Aw g m i d → AwF g i d → Keeps (fun _ => False) wr w2 → ∃ a3 c3 W3, (Builtin.append_ #[57, 57] 57 #[.slice ta i tc, .slice (some ⟨w2.heap.size, 0, none⟩) 1 1]).run Try.prog (w2.alloc (.cells #[.slice (some ⟨wr.heap.size, 0, none⟩) m m] 35)) = .ok (.slice a3 (i + 1) c3) W3 ∧ (∃ A' D', DT w1.heap.size W3 g m (i + 1) (.slice a3 (i + 1) c3) A' D') ∧ Keeps (fun _ => False) w1 W3) := fun w2 d hf h1 h2 k2 => by
          have hD2 := hD.keep k2
          have hsz := kr.size
          have hs2 := k2.size
          obtain ⟨a3, c3, W3, q1, q2, q3, q4⟩ := append_q2 hD2.r (by omega) (by omega) (some ⟨wr.heap.size, 0, none⟩) m m
          have hlt2 : wr.heap.size < w2.heap.size := World.block_lt_of_cell? _ _ (hf.c 0 (by omega))
          refine ⟨a3, c3, W3, q1, ⟨_, _, hD2.next hlt2 (fun e => by have := owns_lt' hD.r _ e; omega) hf h1 h2 q2 q3 q4⟩, (kr.trans k2).trans' q3 (fun _ _ e => e) (fun b hb e => by have := owns_baseT hD2.r b e; omega)⟩
        clear hD
        go_wp2_with (first | (go_at_call 25; refine haw.mono ?_; clear haw; rintro e w2 ⟨d, rfl, hf2, h12, h22, k2⟩; obtain ⟨a3, c3, W3, hr3, hD3, k3⟩ := HX.out w2 d hf2 h12 h22 k2; have HD3 : Hid (∃ A' D', DT w1.heap.size W3 g m (i + 1) (.slice a3 (i + 1) c3) A' D') := hD3; clear hD3 HX hf2 h12 h22) | (at_builtin; refine wpList_append_tL rfl _ _ _ rfl _ _ _ W3 rfl rfl hr3 ?_; clear hr3))
        go_roundw
        case rel =>
          obtain ⟨A', D', h⟩ := HD3.out
          exact ⟨i + 1, a3, c3, A', D', rfl, by go_num, by omega, h, k3⟩
        case measure => simp [intOf]; omega
      · have j1 : decide ((i : Int) < (m : Int)) = false := decide_eq_false (by omega)
        have j2 : decide (i < m) = false := decide_eq_false hlt
        obtain rfl : i = m := by omega
        have HDT : Hid (DT w1.heap.size wr g i i (.slice ta i tc) A D) := hD
        have HKB : Hid (Keeps (fun _ => False) w wr) := HK1.out.trans kr
        clear hD kr HK1 him hlt
        have HSC : Hid (∀ x y, x < i → y < i → x ≠ y → (SC g x y ↔ (D x y < 1073741824 ∧ D y x < 1073741824))) := fun x y hx hy hne => by
          rw [sc_iff hne]
          obtain ⟨-, a1, a2⟩ := HDT.out.f x hx
          obtain ⟨-, b1, b2⟩ := HDT.out.f y hy
          rw [aw_rch a1 HBL.out a2 hm hy, aw_rch b1 HBL.out b2 hm hx]
          exact and_comm
        go_wp2_with fail
        obtain ⟨wb, hwb⟩ : ∃ wb, wb = wr := ⟨_, rfl⟩
        subst hwb
        go_loopg [9, 10] i (fun gh lv av Wr => ∃ (x : Nat) (la : Option Addr) (lc : Nat) (qs : List Pq), gh + x = i ∧ lv = .slice la qs.length lc ∧ av = .int .i64 (x : Int) ∧ x ≤ i ∧ PV wb.heap.size Wr (.slice la qs.length lc) qs ∧ PlI g i x (qs.map Pq.l) ∧ Keeps (fun _ => False) wb Wr)
        case atStart => exact ⟨0, none, 0, [], rfl, rfl, rfl, Nat.zero_le _, ⟨World.ownsRow_nil _ _ _ _, (fun q hq => by cases hq), List.Pairwise.nil⟩, PlI.start g i, Keeps.refl _ _⟩
        case round =>
          obtain ⟨x, la, lc, qs, hgh, rfl, rfl, hxi, hV, hPl, kr⟩ := hrel
          have HV : Hid (PV wb.heap.size wr (.slice la qs.length lc) qs) := hV
          have HPl : Hid (PlI g i x (qs.map Pq.l)) := hPl
          clear hV hPl
          by_cases hlx : x < i
          · have m1 : decide ((x : Int) < (i : Int)) = true := decide_eq_true (by omega)
            have m2 : decide (x < i) = true := decide_eq_true hlx
            have m3 : (x : Int) < (i : Int) := by omega
            have m4 : (0 : Int) ≤ (x : Int) := by omega
            have hwx : IntKind.i64.wrap ((x : Int) + 1) = (x : Int) + 1 := by rw [IntKind.wrap_i64]; omega
            obtain ⟨tb, tc', etv, htx⟩ := HDT.out.cell hlx
            injection etv with etv _ etc
            subst etv
            clear etc
            have HTX : Hid (∀ y, y < i → wb.cell? ⟨tb, y, none⟩ = some (.slice (some ⟨A y, 0, none⟩) i i)) := fun y hy => by
              obtain ⟨tb', tc'', e, h⟩ := HDT.out.cell hy
              injection e with e _ _
              injection e with e
              injection e with e _ _
              rw [e]
              exact h
            clear htx
            obtain ⟨wa, hwa⟩ : ∃ wa, wa = wr := ⟨_, rfl⟩
            subst hwa
            have HKA : Hid (Keeps (fun _ => False) wb wa) := kr
            clear kr
            go_wp2_with fail
            go_loopw [11, 12] (fun pv bv Wx => ∃ (b : Nat) (pa : Option Addr) (pc : Nat) (L : List Nat), pv = .slice pa L.length pc ∧ bv = .int .i64 (b : Int) ∧ b ≤ i ∧ L.length ≤ b ∧ ClI g x b L ∧ Wx.ownsRow wa.heap.size 3 1 (.slice pa L.length pc) L.length (pvs L) ∧ Keeps (fun _ => False) wa Wx) (fun _ bv _ => i - (intOf bv).toNat)
            case atStart => exact ⟨0, none, 0, [], rfl, rfl, Nat.zero_le _, Nat.le_refl _, ClI.start g x, World.ownsRow_nil _ _ _ _, Keeps.refl _ _⟩
            case round =>
              obtain ⟨b, pa, pc, L, rfl, rfl, hbi, hLb, hCl, hrow, kx⟩ := hrel
              have HCl : Hid (ClI g x b L) := hCl
              clear hCl
              by_cases hlb : b < i
              · have o1 : decide ((b : Int) < (i : Int)) = true := decide_eq_true (by omega)
                have o2 : decide (b < i) = true := decide_eq_true hlb
                have o3 : (b : Int) < (i : Int) := by omega
                have o4 : (0 : Int) ≤ (b : Int) := by omega
                have hwb2 : IntKind.i64.wrap ((b : Int) + 1) = (b : Int) + 1 := by rw [IntKind.wrap_i64]; omega
                have KX := HKA.out.trans kx
                have t1 := KX.cell (HTX.out x hlx) (fun e => e)
                have t2 := KX.cell (HTX.out b hlb) (fun e => e)
                have y1 : wr.cell? ⟨A x, b, none⟩ = some (.int .i64 (D x b : Int)) := KX.cell ((HDT.out.f x hlx).1.c b hlb) (fun e => e)
                have y2 : wr.cell? ⟨A b, x, none⟩ = some (.int .i64 (D b x : Int)) := KX.cell ((HDT.out.f b hlb).1.c x hlx) (fun e => e)
                have hsc := HSC.out x b hlx hlb
                have hsz := kx.size
                obtain ⟨a3, c3, W3, hr3, hO3, k3, -⟩ := append_n hrow hsz (by omega) b
                have HYES : Hid (SC g x b → ClI g x (b + 1) (L ++ [b]) ∧ W3.ownsRow wa.heap.size 3 1 (.slice a3 (L.length + 1) c3) (L.length + 1) (pvs (L ++ [b])) ∧ Keeps (fun _ => False) wa W3) := fun hs => ⟨HCl.out.yes hs, hO3, kx.trans' k3 (fun _ _ e => e) (fun c hc e => by have := owns_baseT hrow c e; omega)⟩
                have HNO : Hid (¬ SC g x b → ClI g x (b + 1) L ∧ wr.ownsRow wa.heap.size 3 1 (.slice pa L.length pc) L.length (pvs L)) := fun hs => ⟨HCl.out.no hs, hrow⟩
                clear hO3 k3 hrow hsz KX
                obtain ⟨dx, hdx⟩ : ∃ dx, dx = D x b := ⟨_, rfl⟩
                obtain ⟨db, hdb⟩ : ∃ db, db = D b x := ⟨_, rfl⟩
                rw [← hdx] at y1 hsc
                rw [← hdb] at y2 hsc
                clear hdx hdb
                by_cases hxb : x = b
                · have s1 : ((x : Int) == (b : Int)) = true := by simp [hxb]
                  have s2 : (x == b) = true := by simp [hxb]
                  have HY := HYES.out (by rw [hxb]; exact SC.refl g b)
                  have HYY : Hid (ClI g x (b + 1) (L ++ [b]) ∧ W3.ownsRow wa.heap.size 3 1 (.slice a3 (L.length + 1) c3) (L.length + 1) (pvs (L ++ [b])) ∧ Keeps (fun _ => False) wa W3) := HY
                  clear hxb HY HYES HNO hsc t1 t2 y1 y2
                  go_wp2_with (at_builtin; refine wpList_append_tL rfl _ _ _ rfl _ _ _ W3 rfl rfl hr3 ?_; clear hr3)
                  go_roundw
                  case rel => exact ⟨b + 1, a3, c3, L ++ [b], by rw [List.length_append]; rfl, by go_num, by omega, by rw [List.length_append]; show L.length + 1 ≤ b + 1; omega, HYY.out.1, by rw [List.length_append]; exact HYY.out.2.1, HYY.out.2.2⟩
                  case measure => simp [intOf]; omega
                · have s1 : ((x : Int) == (b : Int)) = false := by rw [beq_eq_false_iff_ne]; omega
                  have s2 : (x == b) = false := by rw [beq_eq_false_iff_ne]; exact hxb
                  have hsc := hsc hxb
                  by_cases g1 : dx < 1073741824
                  · have e1 : decide ((dx : Int) < 1073741824) = true := decide_eq_true (by omega)
                    have e2 : decide (dx < 1073741824) = true := decide_eq_true g1
                    by_cases g2 : db < 1073741824
                    · have e3 : decide ((db : Int) < 1073741824) = true := decide_eq_true (by omega)
                      have e4 : decide (db < 1073741824) = true := decide_eq_true g2
                      have HYY : Hid (ClI g x (b + 1) (L ++ [b]) ∧ W3.ownsRow wa.heap.size 3 1 (.slice a3 (L.length + 1) c3) (L.length + 1) (pvs (L ++ [b])) ∧ Keeps (fun _ => False) wa W3) := HYES.out (hsc.2 ⟨g1, g2⟩)
                      clear hxb HYES HNO hsc g1 g2
                      go_wp2_with (at_builtin; refine wpList_append_tL rfl _ _ _ rfl _ _ _ W3 rfl rfl hr3 ?_; clear hr3)
                      go_roundw
                      case rel => exact ⟨b + 1, a3, c3, L ++ [b], by rw [List.length_append]; rfl, by go_num, by omega, by rw [List.length_append]; show L.length + 1 ≤ b + 1; omega, HYY.out.1, by rw [List.length_append]; exact HYY.out.2.1, HYY.out.2.2⟩
                      case measure => simp [intOf]; omega
                    · have e3 : decide ((db : Int) < 1073741824) = false := decide_eq_false (by omega)
                      have e4 : decide (db < 1073741824) = false := decide_eq_false g2
                      have HNN : Hid (ClI g x (b + 1) L ∧ wr.ownsRow wa.heap.size 3 1 (.slice pa L.length pc) L.length (pvs L)) := HNO.out (fun q => g2 (hsc.1 q).2)
                      clear hxb HYES HNO hsc g1 g2 hr3
                      go_wp2_with fail
                      go_roundw
                      case rel => exact ⟨b + 1, pa, pc, L, rfl, by go_num, by omega, by omega, HNN.out.1, HNN.out.2, kx⟩
                      case measure => simp [intOf]; omega
                  · have e1 : decide ((dx : Int) < 1073741824) = false := decide_eq_false (by omega)
                    have e2 : decide (dx < 1073741824) = false := decide_eq_false g1
                    have HNN : Hid (ClI g x (b + 1) L ∧ wr.ownsRow wa.heap.size 3 1 (.slice pa L.length pc) L.length (pvs L)) := HNO.out (fun q => g1 (hsc.1 q).1)
                    clear hxb HYES HNO hsc g1 hr3
                    go_wp2_with fail
                    go_roundw
                    case rel => exact ⟨b + 1, pa, pc, L, rfl, by go_num, by omega, by omega, HNN.out.1, HNN.out.2, kx⟩
                    case measure => simp [intOf]; omega
              · have o1 : decide ((b : Int) < (i : Int)) = false := decide_eq_false (by omega)
                have o2 : decide (b < i) = false := decide_eq_false hlb
                have hCi : ClI g x i L := (show b = i by omega) ▸ HCl.out
                have hpos := hCi.pos hlx
                obtain ⟨pbx, po, hpa, hc0⟩ := PM.of hrow 0 hpos
                obtain ⟨pb, pc', epv, hpb1, hpb2⟩ := row_some hrow hpos
                injection epv with epv _ epc
                rw [epv] at hpa
                injection hpa with hpa
                injection hpa with e1 e2 _
                subst epv e1 e2
                clear epc
                rw [Nat.zero_add] at hc0
                have s3 : (0 : Int) < (L.length : Int) := by omega
                have HADD : Hid (L.getD 0 0 = x → PlI g i (x + 1) (qs.map Pq.l ++ [L])) := fun q => HPl.out.add hCi hlx q
                have HSKIP : Hid (L.getD 0 0 ≠ x → PlI g i (x + 1) (qs.map Pq.l)) := fun q => HPl.out.skip hCi hlx q
                have hVx := HV.out.keep kx
                have hnum : qs.length ≤ i := by
                  have h1 := nodup_leN i ((qs.map Pq.l).map (fun p => p.getD 0 0)) (List.pairwise_map.2 (HPl.out.p3.imp (fun {a b} q => Nat.ne_of_lt q))) (fun y hy => by
                    obtain ⟨p, hp, rfl⟩ := List.mem_map.1 hy
                    have := HPl.out.hd p hp
                    omega)
                  rwa [List.length_map, List.length_map] at h1
                obtain ⟨a4, c4, W4, hr4, hO4, k4, -⟩ := append_q2 hVx.ra (by have := HKA.out.size; have := kx.size; omega) (by omega) (some ⟨pb, 0, none⟩) L.length pc
                have HAV : Hid (PV wb.heap.size W4 (.slice a4 (qs.length + 1) c4) (qs ++ [⟨some ⟨pb, 0, none⟩, pc, L⟩])) := hVx.add (q := ⟨some ⟨pb, 0, none⟩, pc, L⟩) (owns_low hrow (by have := HKA.out.size; omega)) (fun p hp c hc e => by
                  have h1 := owns_lt' (HV.out.rq p hp) c hc
                  have e : (Value.slice (some ⟨pb, 0, none⟩) L.length pc).ownBlock = some c := e
                  injection e with e
                  have e : pb = c := e
                  omega) k4 hO4
                have HVX : Hid (PV wb.heap.size wr (.slice la qs.length lc) qs) := hVx
                have HK4 : Hid (Keeps (fun _ => False) wb W4) := (HKA.out.trans kx).trans' k4 (fun _ _ e => e) (fun c hc e => by have := owns_baseT hVx.ra c e; omega)
                have HKX : Hid (Keeps (fun _ => False) wb wr) := HKA.out.trans kx
                clear hVx hO4 k4 hrow hCi kx hnum hpb1 hpb2
                obtain ⟨h0, hh0⟩ : ∃ h0, h0 = L.getD 0 0 := ⟨_, rfl⟩
                rw [← hh0] at hc0 HADD HSKIP
                clear hh0
                by_cases hx0 : h0 = x
                · have s1 : ((h0 : Int) == (x : Int)) = true := by simp [hx0]
                  have s2 : (h0 == x) = true := by simp [hx0]
                  have HA2 : Hid (PlI g i (x + 1) (qs.map Pq.l ++ [L])) := HADD.out hx0
                  clear hx0 HADD HSKIP
                  go_wp2_with (at_builtin; refine wpList_append_tL rfl _ _ _ rfl _ _ _ W4 rfl rfl hr4 ?_; clear hr4)
                  go_roundg (gk - 1)
                  case measure => omega
                  case rel => exact ⟨x + 1, a4, c4, qs ++ [⟨some ⟨pb, 0, none⟩, pc, L⟩], by omega, by rw [List.length_append]; rfl, by go_num, by omega, by rw [List.length_append]; exact HAV.out, by rw [List.map_append]; exact HA2.out, HK4.out⟩
                · have s1 : ((h0 : Int) == (x : Int)) = false := by rw [beq_eq_false_iff_ne]; omega
                  have s2 : (h0 == x) = false := by rw [beq_eq_false_iff_ne]; exact hx0
                  have HA2 : Hid (PlI g i (x + 1) (qs.map Pq.l)) := HSKIP.out hx0
                  clear hx0 HADD HSKIP hr4
                  go_wp2_with fail
                  go_roundg (gk - 1)
                  case measure => omega
                  case rel => exact ⟨x + 1, la, lc, qs, by omega, rfl, by go_num, by omega, HVX.out, HA2.out, HKX.out⟩
          · have m1 : decide ((x : Int) < (i : Int)) = false := decide_eq_false (by omega)
            have m2 : decide (x < i) = false := decide_eq_false hlx
            have HX : Hid (PsP (i : Int) (g.map Eg.ed) w (.returned (.tuple #[.slice la qs.length lc, .int .i64 0])) wr) := HPX.out _ qs wr (HV.out.low HKB.out.size) ((show x = i by omega) ▸ HPl.out : PlI g i i (qs.map Pq.l)).done (HKB.out.trans kr)
            clear HV HPl
            generalize qs.length = Q at *
            go_wp2_with fail
            go_ret2
            exact HX.out
  · have s1 : (fltG n l == 0) = false := by rw [beq_eq_false_iff_ne]; exact h0
    have s2 : (fltG n l != 0) = true := by rw [bne_iff_ne]; exact h0
    have HPX : Hid (∀ w', Keeps (fun _ => False) w w' → PsP n l w (.returned (.tuple #[.slice none 0 0, .int .i64 (fltG n l)])) w') := fun w' k => HP.out _ [] _ w' ⟨World.ownsRow_nil _ _ _ _, (fun q hq => by cases hq), List.Pairwise.nil⟩ (.inl ⟨h0, rfl, rfl⟩) k
    clear HP h0
    generalize fltG n l = R at *
    generalize l.length = N at *
    go_enter Try.func23, Try.ntmps23
    go_wp2_with (go_at_call 24; refine hfa.mono ?_; clear hfa; rintro e w1 ⟨rfl, k1⟩)
    go_ret2
    exact HPX.out _ k1
end Go.Proofs.Ytfbbllokpikbiaa
