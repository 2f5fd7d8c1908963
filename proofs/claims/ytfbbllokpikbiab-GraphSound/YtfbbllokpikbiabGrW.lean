import Derived.Test.YtfbbllokpikbiabGrV
namespace Go.Proofs.Ytfbbllokpikbiab
open Go.RowKit Go.Deep
attribute [local go_sem] Oper.semAt_some run_store_nf run_store_f
theorem um_le (M : Nat → Bool) : ∀ n, um M n ≤ n
  | 0 => Nat.le_refl _
  | n + 1 => by have := um_le M n; unfold um; split <;> omega
/-- Lists that rise by a key and hold the same are the same. -/
theorem inc_ext {α : Type} (f : α → Nat) : ∀ (l l' : List α), l.Pairwise (fun a b => f a < f b) → l'.Pairwise (fun a b => f a < f b) → (∀ x, x ∈ l ↔ x ∈ l') → l = l'
  | [], [], _, _, _ => rfl
  | [], y :: l', _, _, h => by have := (h y).2 (by simp); cases this
  | x :: l, [], _, _, h => by have := (h x).1 (by simp); cases this
  | x :: l, y :: l', h1, h2, h => by
    obtain ⟨a1, a2⟩ := List.pairwise_cons.1 h1
    obtain ⟨b1, b2⟩ := List.pairwise_cons.1 h2
    have exy : x = y := by
      rcases List.mem_cons.1 ((h x).1 (by simp)) with e | e
      · exact e
      · rcases List.mem_cons.1 ((h y).2 (by simp)) with e2 | e2
        · exact e2.symm
        · have := a1 y e2
          have := b1 x e
          omega
    subst exy
    have ht : l = l' := inc_ext f l l' a2 b2 (fun z => by
      constructor
      · intro hz
        rcases List.mem_cons.1 ((h z).1 (List.mem_cons_of_mem _ hz)) with e | e
        · have := a1 z hz; rw [e] at this; omega
        · exact e
      · intro hz
        rcases List.mem_cons.1 ((h z).2 (List.mem_cons_of_mem _ hz)) with e | e
        · have := b1 z hz; rw [e] at this; omega
        · exact e)
    rw [ht]
/-- What Parts answers, the program's and the document's. -/
structure PtA (g : List Eg) (n : Nat) (P : List (List Nat)) : Prop where
  p0 : ∀ p ∈ P, p ≠ [] ∧ p.Pairwise (· < ·) ∧ ∀ x ∈ p, x < n
  p1 : ∀ p ∈ P, ∀ x ∈ p, ∀ y, y < n → (y ∈ p ↔ SC g x y)
  p2 : ∀ u, u < n → ∃ p ∈ P, u ∈ p
  p3 : P.Pairwise (fun p q => p.getD 0 0 < q.getD 0 0)
theorem PtA.sub {g : List Eg} {n : Nat} {P P' : List (List Nat)} (h : PtA g n P) (h' : PtA g n P') {p : List Nat} (hp : p ∈ P) : p ∈ P' := by
  obtain ⟨h1, h2, h3⟩ := h.p0 p hp
  obtain ⟨x, hx⟩ := List.exists_mem_of_ne_nil p h1
  obtain ⟨p', hp', hx'⟩ := h'.p2 x (h3 x hx)
  obtain ⟨-, g2, g3⟩ := h'.p0 p' hp'
  have e : p = p' := inc_ext id p p' h2 g2 (fun y => by
    constructor
    · intro hy
      exact (h'.p1 p' hp' x hx' y (h3 y hy)).2 ((h.p1 p hp x hx y (h3 y hy)).1 hy)
    · intro hy
      exact (h.p1 p hp x hx y (g3 y hy)).2 ((h'.p1 p' hp' x hx' y (g3 y hy)).1 hy))
  rw [e]
  exact hp'
theorem PtA.one {g : List Eg} {n : Nat} {P P' : List (List Nat)} (h : PtA g n P) (h' : PtA g n P') : P = P' := inc_ext (fun p => p.getD 0 0) P P' h.p3 h'.p3 (fun _ => ⟨fun q => h.sub h' q, fun q => h'.sub h q⟩)
/-- Lists of a list in memory, all apart. -/
structure PV (base : Nat) (w : World) (v : Value) (qs : List Pq) : Prop where
  ra : w.ownsRow base 23 1 v qs.length (qs.map Pq.val)
  rq : ∀ q ∈ qs, w.ownsRow base 3 1 q.val q.l.length (pvs q.l)
  dq : qs.Pairwise (fun p q => ∀ b, p.val.ownBlock = some b → q.val.ownBlock ≠ some b)
theorem PV.keep {base : Nat} {w w' : World} {v : Value} {qs : List Pq} (h : PV base w v qs) (k : Keeps (fun _ => False) w w') : PV base w' v qs := ⟨k.owns h.ra (fun _ _ e => e), fun q hq => k.owns (h.rq q hq) (fun _ _ e => e), h.dq⟩
/-- What parts answers. -/
def PaP (g : List Eg) (n : Nat) (w : World) (e : Ending) (w' : World) : Prop := ∃ v qs, e = .returned v ∧ PV w.heap.size w' v qs ∧ PtA g n (qs.map Pq.l) ∧ Keeps (fun _ => False) w w'
theorem pta_of {g : List Eg} {n : Nat} {bk : Nat → Nat} {qs qs' : List Pq} (h : TS g n [] bk (qs.map Pq.l)) (hm : ∀ u, u < n → bk u ≠ 0) (hp : qs'.Perm qs) (hs : qs'.Pairwise (fun p q => p.l.getD 0 0 ≤ q.l.getD 0 0)) : PtA g n (qs'.map Pq.l) := by
  have hmem : ∀ p, p ∈ qs'.map Pq.l ↔ p ∈ qs.map Pq.l := fun p => (hp.map Pq.l).mem_iff
  have hd : ∀ p ∈ qs.map Pq.l, p.getD 0 0 ∈ p := fun p hp => by
    have := (h.p0 p hp).1
    exact getD_memN (List.length_pos_iff.2 this)
  have hnd : (qs.map (fun q => q.l.getD 0 0)).Nodup := by
    have e : qs.map (fun q => q.l.getD 0 0) = (qs.map Pq.l).map (fun p => p.getD 0 0) := by rw [List.map_map]; rfl
    rw [e]
    exact List.pairwise_map.2 (h.p3.imp_of_mem (fun {a b} ha hb q e => q _ (hd a ha) (by rw [e]; exact hd b hb)))
  have hnd' : (qs'.map (fun q => q.l.getD 0 0)).Pairwise (· ≠ ·) := ((hp.map _).nodup_iff).2 hnd
  refine ⟨fun p q => h.p0 p ((hmem p).1 q), fun p q => h.p1 p ((hmem p).1 q), fun u hu => ?_, ?_⟩
  · rcases h.bt u hu with q | q | q
    · exact absurd q (hm u hu)
    · cases q
    · obtain ⟨p, h1, h2⟩ := (h.p2 u hu).1 q
      exact ⟨p, (hmem p).2 h1, h2⟩
  · rw [List.pairwise_map]
    exact List.Pairwise.imp₂ (fun a b h1 h2 => Nat.lt_of_le_of_ne h1 h2) hs (List.pairwise_map.1 hnd')
theorem pw_all {bc lo hi mb n : Nat} {g : List Eg} (hb : Bln g n) (hn : n ≤ 4096) (hlen : g.length ≤ 4398046511104) : ∀ d, PWd bc lo hi mb n g d
  | 0 => pw_any soI hb hn hlen (fun d' e => by omega)
  | d + 1 => pw_any soI hb hn hlen (fun d' e => by
    obtain rfl : d' = d := by omega
    exact pw_all hb hn hlen d')
set_option maxHeartbeats 1000000 in
set_option maxRecDepth 100000 in
theorem parts_any {w : World} {mb lo hi n : Nat} {g : List Eg} (hl : LR w lo hi mb g) (hb : Bln g n) (hn : n ≤ 4096) (hlen : g.length ≤ 4398046511104) : Calls Try.prog 19 #[.int .i64 (n : Int), .map (some mb)] w (PaP g n w) := by
  have HFD : Hid (PWd w.heap.size lo hi mb n g n) := pw_all hb hn hlen n
  have HP : Hid (∀ v qs w', PV w.heap.size w' v qs → PtA g n (qs.map Pq.l) → Keeps (fun _ => False) w w' → PaP g n w (.returned v) w') := fun v qs w' h1 h2 h3 => ⟨v, qs, rfl, h1, h2, h3⟩
  obtain ⟨W1, hW1⟩ : ∃ W1, W1 = w.alloc (.cells #[.map (some mb)] 50) := ⟨_, rfl⟩
  have k1 : Keeps (fun _ => False) w W1 := by rw [hW1]; exact (Keeps.refl _ w).alloc _
  have z1 : W1.heap.size = w.heap.size + 1 := by rw [hW1]; simp
  have b1 : CL W1 (w.heap.size) [.map (some mb)] := by
    rw [hW1]
    have h := CL.made w [.map (some mb)] 50
    exact h
  have HW1 : Hid (W1 = w.alloc (.cells #[.map (some mb)] 50)) := hW1
  clear hW1
  obtain ⟨W2, hW2⟩ : ∃ W2, W2 = W1.alloc (.cells #[.int .i64 ((n : Int) + 1)] 3) := ⟨_, rfl⟩
  have k2 : Keeps (fun _ => False) W1 W2 := by rw [hW2]; exact (Keeps.refl _ W1).alloc _
  have z2 : W2.heap.size = w.heap.size + 2 := by rw [hW2]; simp [z1]
  have b2 : CL W2 (w.heap.size + 1) [.int .i64 ((n : Int) + 1)] := by
    rw [hW2]
    have h := CL.made W1 [.int .i64 ((n : Int) + 1)] 3
    rw [z1] at h
    exact h
  have HW2 : Hid (W2 = W1.alloc (.cells #[.int .i64 ((n : Int) + 1)] 3)) := hW2
  clear hW2
  obtain ⟨W3, hW3⟩ : ∃ W3, W3 = W2.alloc (.cells #[.slice none 0 0] 41) := ⟨_, rfl⟩
  have k3 : Keeps (fun _ => False) W2 W3 := by rw [hW3]; exact (Keeps.refl _ W2).alloc _
  have z3 : W3.heap.size = w.heap.size + 3 := by rw [hW3]; simp [z2]
  have b3 : CL W3 (w.heap.size + 2) [.slice none 0 0] := by
    rw [hW3]
    have h := CL.made W2 [.slice none 0 0] 41
    rw [z2] at h
    exact h
  have HW3 : Hid (W3 = W2.alloc (.cells #[.slice none 0 0] 41)) := hW3
  clear hW3
  obtain ⟨W4, hW4⟩ : ∃ W4, W4 = W3.alloc (.cells #[.slice none 0 0] 23) := ⟨_, rfl⟩
  have k4 : Keeps (fun _ => False) W3 W4 := by rw [hW4]; exact (Keeps.refl _ W3).alloc _
  have z4 : W4.heap.size = w.heap.size + 4 := by rw [hW4]; simp [z3]
  have b4 : CL W4 (w.heap.size + 3) [.slice none 0 0] := by
    rw [hW4]
    have h := CL.made W3 [.slice none 0 0] 23
    rw [z3] at h
    exact h
  have HW4 : Hid (W4 = W3.alloc (.cells #[.slice none 0 0] 23)) := hW4
  clear hW4
  obtain ⟨W5, hW5⟩ : ∃ W5, W5 = W4.alloc (.cells (madeCells #[.int .i64 0] n) 3) := ⟨_, rfl⟩
  have k5 : Keeps (fun _ => False) W4 W5 := by rw [hW5]; exact (Keeps.refl _ W4).alloc _
  have z5 : W5.heap.size = w.heap.size + 5 := by rw [hW5]; simp [z4]
  have hmk : (Instr.makeSlice 23 (.int .i64 (n : Int)) (.int .i64 (n : Int))).run Try.prog W4 = .ok (.slice (some ⟨w.heap.size + 4, 0, none⟩) n n) W5 := by
    rw [hW5, ← z4]
    exact run_make_row' (P := Try.prog) 23 3 (.int .i64 0) 8 Try.underlying23 iI rfl .i64 .i64 n (by omega) (by omega) W4
  have b5 : FB W5 (w.heap.size + 4) n (nms (fun _ => 0)) := by rw [hW5, ← z4]; exact FB.made W4 n (.int .i64 0) 3
  clear hW5
  obtain ⟨W6, hW6⟩ : ∃ W6, W6 = W5.alloc (.cells #[.slice (some ⟨w.heap.size + 4, 0, none⟩) n n] 23) := ⟨_, rfl⟩
  have k6 : Keeps (fun _ => False) W5 W6 := by rw [hW6]; exact (Keeps.refl _ W5).alloc _
  have z6 : W6.heap.size = w.heap.size + 6 := by rw [hW6]; simp [z5]
  have b6 : CL W6 (w.heap.size + 5) [.slice (some ⟨w.heap.size + 4, 0, none⟩) n n] := by
    rw [hW6]
    have h := CL.made W5 [.slice (some ⟨w.heap.size + 4, 0, none⟩) n n] 23
    rw [z5] at h
    exact h
  have HW6 : Hid (W6 = W5.alloc (.cells #[.slice (some ⟨w.heap.size + 4, 0, none⟩) n n] 23)) := hW6
  clear hW6
  obtain ⟨W7, hW7⟩ : ∃ W7, W7 = W6.alloc (.cells #[.nilFunc] 61) := ⟨_, rfl⟩
  have k7 : Keeps (fun _ => False) W6 W7 := by rw [hW7]; exact (Keeps.refl _ W6).alloc _
  have z7 : W7.heap.size = w.heap.size + 7 := by rw [hW7]; simp [z6]
  have b7 : CL W7 (w.heap.size + 6) [.nilFunc] := by
    rw [hW7]
    have h := CL.made W6 [.nilFunc] 61
    rw [z6] at h
    exact h
  have HW7 : Hid (W7 = W6.alloc (.cells #[.nilFunc] 61)) := hW7
  clear hW7
  have n7 := b7.c 0 _ rfl
  have n7z := b7.z 0 (by show 0 < 1; decide)
  obtain ⟨W8, hW8⟩ : ∃ W8, W8 = W7.setCell ⟨w.heap.size + 6, 0, none⟩ (.func (.func 29) #[] #[.pointer (some ⟨w.heap.size + 3, 0, none⟩), .pointer (some ⟨w.heap.size + 5, 0, none⟩), .pointer (some ⟨w.heap.size, 0, none⟩), .pointer (some ⟨w.heap.size + 6, 0, none⟩), .pointer (some ⟨w.heap.size + 1, 0, none⟩), .pointer (some ⟨w.heap.size + 2, 0, none⟩)]) := ⟨_, rfl⟩
  have k8 : Keeps (fun i => i = w.heap.size + 6) W7 W8 := by rw [hW8]; exact (Keeps.refl (fun i => i = w.heap.size + 6) W7).setCell (p := ⟨w.heap.size + 6, 0, none⟩) (fun _ => rfl) _
  have b8 : CL W8 (w.heap.size + 6) [.func (.func 29) #[] #[.pointer (some ⟨w.heap.size + 3, 0, none⟩), .pointer (some ⟨w.heap.size + 5, 0, none⟩), .pointer (some ⟨w.heap.size, 0, none⟩), .pointer (some ⟨w.heap.size + 6, 0, none⟩), .pointer (some ⟨w.heap.size + 1, 0, none⟩), .pointer (some ⟨w.heap.size + 2, 0, none⟩)]] := by rw [hW8]; exact b7.set (o := 0) (by show 0 < 1; decide) _
  have HW8 : Hid (W8 = W7.setCell ⟨w.heap.size + 6, 0, none⟩ (.func (.func 29) #[] #[.pointer (some ⟨w.heap.size + 3, 0, none⟩), .pointer (some ⟨w.heap.size + 5, 0, none⟩), .pointer (some ⟨w.heap.size, 0, none⟩), .pointer (some ⟨w.heap.size + 6, 0, none⟩), .pointer (some ⟨w.heap.size + 1, 0, none⟩), .pointer (some ⟨w.heap.size + 2, 0, none⟩)])) := hW8
  clear hW8
  have k57 : Keeps (fun _ => False) W5 W7 := k6.trans k7
  have k47 : Keeps (fun _ => False) W4 W7 := k5.trans k57
  have k37 : Keeps (fun _ => False) W3 W7 := k4.trans k47
  have k27 : Keeps (fun _ => False) W2 W7 := k3.trans k37
  have k17 : Keeps (fun _ => False) W1 W7 := k2.trans k27
  have n6 : ∀ {i : Nat}, i ≠ w.heap.size + 6 → ¬ (fun i => i = w.heap.size + 6) i := fun h e => h e
  have HPX0 : Hid (PX w.heap.size lo hi mb n g W8 [] (fun _ => 0) (.slice none 0 0) [] (.slice none 0 0)) := ⟨((b1.stays k17 (fun e => e)).stays k8 (n6 (by omega))).c 0 _ rfl, ((b2.stays k27 (fun e => e)).stays k8 (n6 (by omega))).c 0 _ rfl, (b3.stays k37 (fun e => e)).stays k8 (n6 (by omega)), (b4.stays k47 (fun e => e)).stays k8 (n6 (by omega)), (b5.keep k57 (fun e => e)).keep k8 (n6 (by omega)), ((b6.stays k7 (fun e => e)).stays k8 (n6 (by omega))).c 0 _ rfl, b8.c 0 _ rfl, ((hl.keep k1 (fun _ _ _ e => e)).keep k17 (fun _ _ _ e => e)).keep k8 (fun b _ h e => by have e : b = w.heap.size + 6 := e; have := hl.s; omega), hl.s, by have := k8.size; omega, World.ownsRow_nil _ _ _ _, World.ownsRow_nil _ _ _ _, (fun q hq => by cases hq), List.Pairwise.nil, (fun q hq => by cases hq)⟩
  have HK8 : Hid (Keeps (fun _ => False) w W8) := (k1.trans k17).trans' k8 (fun _ _ e => e) (fun i hi e => by have e : i = w.heap.size + 6 := e; omega)
  have HTS0 : Hid (TS g n [] (fun _ => 0) (([] : List Pq).map Pq.l)) := TS.start g n
  have hwn : IntKind.i64.wrap ((n : Int) + 1) = (n : Int) + 1 := by rw [IntKind.wrap_i64]; omega
  clear hl hb k1 k2 k3 k4 k5 k6 k7 k8 b1 b2 b3 b4 b5 b6 b7 b8 k57 k47 k37 k27 k17 n6
  go_enter Try.func19, Try.ntmps19
  refine wp_seq_k (fun KK hKK => ?_)
  have hKH : Hid _ := hKK
  clear hKK
  go_wp2_with fail
  refine hKH.out _ _ ?_
  clear hKH KK
  rw [← HW1.out]
  clear HW1
  refine wp_seq_k (fun KK hKK => ?_)
  have hKH : Hid _ := hKK
  clear hKK
  go_wp2_with fail
  refine hKH.out _ _ ?_
  clear hKH KK
  rw [← HW2.out]
  clear HW2
  refine wp_seq_k (fun KK hKK => ?_)
  have hKH : Hid _ := hKK
  clear hKK
  go_wp2_with fail
  refine hKH.out _ _ ?_
  clear hKH KK
  rw [← HW3.out]
  clear HW3
  refine wp_seq_k (fun KK hKK => ?_)
  have hKH : Hid _ := hKK
  clear hKK
  go_wp2_with fail
  refine hKH.out _ _ ?_
  clear hKH KK
  rw [← HW4.out]
  clear HW4
  refine wp_seq_k (fun KK hKK => ?_)
  have hKH : Hid _ := hKK
  clear hKK
  go_wp2_with fail
  refine hKH.out _ _ ?_
  clear hKH KK
  rw [← HW6.out]
  clear HW6
  refine wp_seq_k (fun KK hKK => ?_)
  have hKH : Hid _ := hKK
  clear hKK
  go_wp2_with fail
  refine hKH.out _ _ ?_
  clear hKH KK
  rw [← HW7.out]
  clear HW7
  refine wp_seq_k (fun KK hKK => ?_)
  have hKH : Hid _ := hKK
  clear hKK
  go_wp2_with fail
  refine hKH.out _ _ ?_
  clear hKH KK
  rw [← HW8.out]
  clear HW8 n7 n7z hmk z1 z2 z3 z4 z5 z6 z7
  go_wp2_with fail
  go_loopw [17] (fun iv Wr => ∃ (i : Nat) (bk : Nat → Nat) (tv : Value) (qs : List Pq) (av : Value), iv = .int .i64 (i : Int) ∧ i ≤ n ∧ PX w.heap.size lo hi mb n g Wr [] bk tv qs av ∧ TS g n [] bk (qs.map Pq.l) ∧ (∀ u, u < i → bk u ≠ 0) ∧ Keeps (fun _ => False) w Wr) (fun iv _ => n - (intOf iv).toNat)
  case atStart => exact ⟨0, _, _, [], _, rfl, Nat.zero_le _, HPX0.out, HTS0.out, fun u hu => absurd hu (by omega), HK8.out⟩
  case round =>
    obtain ⟨i, bk, tv, qs, av, rfl, hin, hPX, hTS, hmt, kr⟩ := hrel
    clear HPX0 HTS0 HK8
    by_cases hlt : i < n
    · have j1 : decide ((i : Int) < (n : Int)) = true := decide_eq_true (by omega)
      have j2 : decide (i < n) = true := decide_eq_true hlt
      have j3 : (i : Int) < (n : Int) := by omega
      have j4 : (0 : Int) ≤ (i : Int) := by omega
      have hwi : IntKind.i64.wrap ((i : Int) + 1) = (i : Int) + 1 := by rw [IntKind.wrap_i64]; omega
      have e5 := hPX.c5
      have e6 := hPX.c6
      have y0 : wr.cell? ⟨w.heap.size + 4, i, none⟩ = some (.int .i64 (bk i : Int)) := hPX.f4.c i hlt
      by_cases h0 : bk i = 0
      · have s1 : ((bk i : Int) == 0) = true := by simp [h0]
        have s2 : (bk i == 0) = true := by simp [h0]
        have hrc := HFD.out wr [] bk tv qs av i hPX hTS hlt h0 (um_le _ _)
        have HMT : Hid (∀ u, u < i → bk u ≠ 0) := hmt
        clear hPX hTS hmt h0
        generalize bk i = bi at *
        go_wp2_with (go_at_call 29; refine hrc.mono ?_; clear hrc; rintro e w2 ⟨T1, bk2, tv2, qs2, av2, rfl, hWP, hPX2, k2⟩)
        have hT1 := hWP.none
        subst hT1
        have HM2 : Hid (∀ u, u < i + 1 → bk2 u ≠ 0) := fun u hu => by
          by_cases e : u = i
          · rw [e]; exact hWP.m
          · have := HMT.out u (by omega)
            rw [hWP.k0 u (by omega) this]
            exact this
        have HT2 : Hid (TS g n [] bk2 (qs2.map Pq.l)) := hWP.s
        clear hWP HMT
        go_roundw
        case rel => exact ⟨i + 1, bk2, tv2, qs2, av2, by go_num, by omega, hPX2, HT2.out, HM2.out, kr.trans' k2 (fun _ _ e => e) (fun b hb e => by have e : w.heap.size ≤ b := e; omega)⟩
        case measure => simp [intOf]; omega
      · have s1 : ((bk i : Int) == 0) = false := by rw [beq_eq_false_iff_ne]; omega
        have s2 : (bk i == 0) = false := by rw [beq_eq_false_iff_ne]; exact h0
        have HM2 : Hid (∀ u, u < i + 1 → bk u ≠ 0) := fun u hu => by
          by_cases e : u = i
          · rw [e]; exact h0
          · exact hmt u (by omega)
        have HPX : Hid (PX w.heap.size lo hi mb n g wr [] bk tv qs av ∧ TS g n [] bk (qs.map Pq.l)) := ⟨hPX, hTS⟩
        clear hPX hTS hmt h0
        go_wp2_with fail
        go_roundw
        case rel => exact ⟨i + 1, bk, tv, qs, av, by go_num, by omega, HPX.out.1, HPX.out.2, HM2.out, kr⟩
        case measure => simp [intOf]; omega
    · have j1 : decide ((i : Int) < (n : Int)) = false := decide_eq_false (by omega)
      have j2 : decide (i < n) = false := decide_eq_false hlt
      have hnum := hTS.num
      rw [List.length_map] at hnum
      have hne : ∀ q ∈ qs, 0 < q.l.length := fun q hq => List.length_pos_iff.2 (hTS.p0 q.l (List.mem_map.2 ⟨q, hq, rfl⟩)).1
      have hsq := soQ hPX.ra (fun q hq => pqr_of (hPX.rq q hq) (hne q hq)) (fun q hq b hb => own_apart (hPX.rq q hq) hPX.ra (by decide) b (by unfold Pq.val; rw [hb]; rfl)) (by omega)
      obtain ⟨aa, ac, rfl, -⟩ := own_slice hPX.ra
      have e2 := hPX.c2.c 0 _ rfl
      have HEND : Hid (∀ (w9 : World) (qs' : List Pq), qs'.Perm qs → qs'.Pairwise (fun p q => p.l.getD 0 0 ≤ q.l.getD 0 0) → w9.ownsRow (w.heap.size + 7) 23 1 (.slice aa qs.length ac) qs.length (qs'.map Pq.val) → Keeps (fun i => (Value.slice aa qs.length ac).ownBlock = some i) wr w9 → w9.cell? ⟨w.heap.size + 2, 0, none⟩ = some (.slice aa qs.length ac) ∧ PaP g n w (.returned (.slice aa qs.length ac)) w9) := fun w9 qs' hp hs hr k9 => by
        refine ⟨k9.cell e2 (fun e => by have := owns_baseT hPX.ra _ e; have : w.heap.size + 7 ≤ w.heap.size + 2 := this; omega), HP.out _ qs' w9 ⟨by rw [hp.length_eq]; exact owns_low hr (by omega), fun q hq => owns_low (k9.owns (hPX.rq q ((hp.mem_iff).1 hq)) (fun b hb e => own_apart (hPX.rq q ((hp.mem_iff).1 hq)) hPX.ra (by decide) b hb e)) (by omega), ?_⟩ (pta_of hTS (fun u hu => hmt u (by omega)) hp hs) (kr.trans' k9 (fun _ _ e => e) (fun b hb e => by have := owns_baseT hPX.ra b e; omega))⟩
        exact hp.symm.pairwise hPX.dq (fun {a b} h c h1 h2 => h c h2 h1)
      clear hPX hTS hmt hne
      generalize qs.length = Q at *
      go_wp2_with (go_at_call 32; refine hsq.mono ?_; clear hsq; rintro e w9 ⟨rfl, qs', hp9, hs9, hr9, k9⟩; obtain ⟨e9, hend⟩ := HEND.out w9 qs' hp9 hs9 hr9 k9; have HX : Hid (PaP g n w (.returned (.slice aa Q ac)) w9) := hend; clear hend HEND hp9 hs9 hr9 k9)
      go_ret
      exact HX.out
end Go.Proofs.Ytfbbllokpikbiab
