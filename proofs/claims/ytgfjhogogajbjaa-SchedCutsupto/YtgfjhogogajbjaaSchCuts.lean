import Derived.Test.YtgfjhogogajbjaaSchCutsA
namespace Go.Proofs.Ytgfjhogogajbjaa
open Go.RowKit Go.Shelf
attribute [local go_sem] Oper.semAt_some

/-- Two worlds beside a box that may be written. -/
structure CI (w6 : World) (H : Nat) (W : World) (k : Nat) : Prop where
  kp : Keeps (fun k => k = H ∨ w6.heap.size ≤ k) w6 W
  ba : Boxed W H 3 (.int .i64 (k : Int))
theorem CI.kept {w6 A B : World} {H k : Nat} {row : Option Nat} (h : CI w6 H A k) (hg : A.grownBy B row) (hr : ∀ r, row = some r → w6.heap.size ≤ r ∧ ∃ o : Obj, A.heap[r]? = some o ∧ o.isCells = false) : CI w6 H B k :=
  ⟨h.kp.grown hg (fun i _ e => .inr (hr i e).1), boxed_kept h.ba hg (fun r e => (hr r e).2)⟩
theorem CI.new {w6 A B : World} {H k : Nat} (h : CI w6 H A k) (kk : Keeps (fun _ => False) A B) : CI w6 H B k :=
  ⟨h.kp.trans (kk.mono (fun _ _ e => e.elim)), boxed_keeps h.ba kk (fun e => e)⟩
theorem CI.set {w6 A : World} {H k : Nat} (h : CI w6 H A k) (j : Nat) : CI w6 H (A.setCell ⟨H, 0, none⟩ (.int .i64 (j : Int))) j :=
  ⟨h.kp.setCell (p := ⟨H, 0, none⟩) (fun _ => .inl rfl) _, h.ba.set _⟩
theorem cu_ext {c d : Cu} (h1 : c.th = d.th) (h2 : c.fr = d.fr) (h3 : c.len = d.len) : c = d := by
  cases c; cases d; simp_all

/-- How long the two stretches of [0, 0, 7] are. -/
def ln4 (x : Fin 2) : Nat := if x.val = 0 then 2 else 1
theorem ln4_le (x : Fin 2) : ln4 x ≤ 2 := by unfold ln4; split <;> omega
def acc4 (v : Nat) (l : List (Fin 2)) : Nat := l.foldl (fun n y => 10 * n + ln4 y) v
def val4 (l : List (Fin 2)) : Nat := l.foldl (fun n x => 10 * (100 * n + 21) + ln4 x) 0
theorem acc4_snoc (v : Nat) (l : List (Fin 2)) (y : Fin 2) : acc4 v (l ++ [y]) = 10 * acc4 v l + ln4 y := by simp [acc4]
theorem val4_snoc (l : List (Fin 2)) (x : Fin 2) : val4 (l ++ [x]) = 10 * (100 * val4 l + 21) + ln4 x := by simp [val4]
theorem acc4_le {v : Nat} {l : List (Fin 2)} (h : l.length < 2) : acc4 v l ≤ 10 * v + 2 := by
  rcases l with _ | ⟨y, _ | ⟨y', l⟩⟩
  · simp [acc4]; omega
  · have := ln4_le y; simp [acc4]; omega
  · simp at h; omega
theorem val4_le {l : List (Fin 2)} (h : l.length < 2) : val4 l ≤ 212 := by
  rcases l with _ | ⟨y, _ | ⟨y', l⟩⟩
  · simp [val4]
  · have := ln4_le y; simp [val4]; omega
  · simp at h; omega
theorem acc4_all (v : Nat) : acc4 v (idx 2 2) = 100 * v + 21 := by
  rw [show idx 2 2 = [0, 1] from rfl]
  show 10 * (10 * v + 2) + 1 = 100 * v + 21
  omega
theorem val4_all : val4 (idx 2 2) = 212211 := rfl

set_option maxRecDepth 100000 in
set_option maxHeartbeats 6400000 in
theorem cuts_gen {w : World} {a : Option Addr} {m cap : Nat} {n : Int} {z : Nat → Int} (h : NL w a m z) (hm : m ≤ 1048576) (stop : Int) {gf M : Nat} {c : Nat → Cu} (hM : M ≤ 4096) (eg : ∀ args w, (callFunc gf args).run Try.prog w = .ok (.enter gf args) w)
    (hw : ∀ W, Keeps (fun _ => False) w W → CallsIn Fence.wide 5 Try.prog 11 #[.int .i64 n, .slice a m cap] W fun e w' => ∃ v, e = .returned v ∧ w'.ownsRow W.heap.size 37 3 v M (fl ucells ((List.range M).map c)) ∧ Keeps (fun _ => False) W w')
    (hs : ∀ W a1 cap1, NL W a1 m z → CallsIn Fence.wide 5 Try.prog 12 #[.int .i64 n, .slice a1 m cap1] W fun e w' => ∃ lb, e = .returned (.func (.func gf) #[] lb) ∧ Keeps (fun _ => False) W w' ∧ Gives gf lb M c W w') :
    CallsIn Fence.wide 6 Try.prog 6 #[.int .i64 n, .slice a m cap, .int .i64 stop] w fun e w' => e = .returned (.bool true) ∧ Keeps (fun _ => False) w w' := by
  have hnil : ∀ (fn : Fn) (first cap : Array Value) (W : World), (binOp .eql 33 (.func fn first cap) Value.nilFunc).run Try.prog W = .ok (.bool false) W := fun fn first cap W => rfl
  have K0 : ∀ o o', Keeps (fun _ => False) w ((w.alloc o).alloc o') := fun o o' => ((Keeps.refl _ w).alloc o).alloc o'
  obtain ⟨W0, hW0⟩ : ∃ W0, W0 = (w.alloc (.cells #[.int .i64 stop] 3)).alloc (.cells #[.bool false] 4) := ⟨_, rfl⟩
  have KW0 : Keeps (fun _ => False) w W0 := by rw [hW0]; exact K0 _ _
  have zW0 : W0.heap.size = w.heap.size + 2 := by rw [hW0]; simp
  obtain ⟨v1, w1, r1, o1, k1, n1⟩ := append_nl (cap := cap) (made_empty W0 z) (by simp) ((h.new KW0).new ((Keeps.refl _ W0).alloc _)) (by omega) (by simp)
  rw [cat_zero, Nat.zero_add] at o1
  have K1 : Keeps (fun _ => False) W0 w1 := ((Keeps.refl _ W0).alloc _).trans' k1 (fun _ _ e => e) (fun i hi e => by simp [Value.ownBlock] at e; omega)
  have hw := hw _ (KW0.trans K1)
  obtain ⟨a1, cap1, rfl, hnl1, hb1⟩ := owns_nl o1
  have hb1' : ∀ b off, a1 = some ⟨b, off, none⟩ → W0.heap.size ≤ b ∧ b < w1.heap.size := fun b off e => ⟨(hb1 b off e).1, owns_lt' o1 b (hb1 b off e).2.2⟩
  have hs1 := fun (W : World) (k : Keeps (fun _ => False) w1 W) => hs W a1 cap1 (hnl1.new k)
  have hs2 := fun (W : World) => callsIn_wide (n := 5).2 (stretches_any (cap := 3) (lit_nl W [0, 0, 7]) (nt := 1) (by omega) (by simp))
  refine callsIn_of_wp_marks Try.func6 rfl trivial ?_
  simp only [Try.ntmps6, List.size_toArray, List.length_cons, List.length_nil, Nat.reduceAdd, Nat.reduceSub, Array.replicate_succ, Array.replicate_zero, List.push_toArray, List.append_toArray, List.nil_append, List.cons_append]
  have bS := (Boxed.new w 3 (.int .i64 stop)).alloc (.cells #[.bool false] 4)
  have bR := Boxed.new (w.alloc (.cells #[.int .i64 stop] 3)) 4 (.bool false)
  rw [World.size_alloc] at bR
  rw [← hW0] at bS bR
  rw [hW0] at r1
  simp only [World.size_alloc] at r1
  have hsf := store_func
  gi_wp2_with (first | (gi_at_builtin; refine wpListIn_append_run rfl _ _ _ rfl _ _ _ w1 rfl rfl r1 ?_; clear r1) | (refine ⟨trivial, ?_⟩; gi_at_call 11; refine hw.mono ?_; clear hw; rintro e w2 ⟨v2, rfl, o2, k2⟩; obtain ⟨a2, cap2, rfl⟩ := owns_shape o2) | (refine ⟨trivial, ?_⟩; gi_at_call 12; refine (hs1 _ (k2.alloc _)).mono ?_; clear hs1; rintro e w3 ⟨lb, rfl, k3, hg3⟩) | (refine ⟨trivial, ?_⟩; gi_at_call 12; refine (hs2 _).mono ?_; clear hs2; rintro e w4 ⟨B3, B4, a4, cap4, rfl, hq4⟩))
  have k4 := hq4.keeps
  have hM4 : Many (nmf 1 fun i => [0, 0, 7].getD i 0) 3 2 := ⟨by omega, rfl, by decide⟩
  have hg4 := gives_any hq4 (by simp) hM4
  obtain ⟨c4, hc4⟩ : ∃ c4 : Nat → Cu, c4 = fun j => cut (nmf 1 fun i => ([0, 0, 7] : List Int).getD i 0) ([0, 0, 7] : List Int).length j := ⟨_, rfl⟩
  rw [← hc4] at hg4
  have hl4 : ∀ x : Fin 2, (c4 x).len = ln4 x := by rw [hc4]; decide
  clear hc4
  have z1 := K1.size
  have z2 := k2.size
  have z3 : w2.heap.size + 1 ≤ w3.heap.size := by simpa using k3.size
  have z4 : w3.heap.size + 1 ≤ w4.heap.size := by simpa using k4.size
  obtain ⟨w5, hw5⟩ : ∃ w5, w5 = w4.alloc (.cells #[.func (.func 21) #[] #[.pointer (some ⟨B3, 0, none⟩), .pointer (some ⟨B4, 0, none⟩)]] 33) := ⟨_, rfl⟩
  have z5 : w5.heap.size = w4.heap.size + 1 := by rw [hw5]; simp
  have k45 : Keeps (fun _ => False) w4 w5 := by rw [hw5]; exact (Keeps.refl _ w4).alloc _
  have k35 : Keeps (fun _ => False) w3 w5 := (((Keeps.refl _ w3).alloc _).trans k4).trans k45
  have k25 : Keeps (fun _ => False) w2 w5 := (((Keeps.refl _ w2).alloc _).trans k3).trans k35
  have k15 : Keeps (fun _ => False) w1 w5 := k2.trans k25
  have k05 : Keeps (fun _ => False) W0 w5 := K1.trans k15
  have KW5 : Keeps (fun _ => False) w w5 := KW0.trans k05
  have bF : Boxed w5 w4.heap.size 33 (.func (.func 21) #[] #[.pointer (some ⟨B3, 0, none⟩), .pointer (some ⟨B4, 0, none⟩)]) := by rw [hw5]; exact Boxed.new w4 _ _
  have bW : Boxed w5 w2.heap.size 30 (.slice a2 M cap2) := boxed_keeps (Boxed.new w2 _ _) (k3.trans k35) (fun e => e)
  have o15 := k15.owns o1 (fun _ _ e => e)
  have o25 := k25.owns o2 (fun _ _ e => e)
  have bS5 := boxed_keeps bS k05 (fun e => e)
  have bR5 := boxed_keeps bR k05 (fun e => e)
  have hnl5 := hnl1.new k15
  have hp5 := h.new KW5
  rw [← hw5]
  clear hw5 bS bR hnl1 o1 n1 k1 hs K0 hW0 hsf
  gi_loopw [11] (fun iv wr => ∃ j : Nat, j ≤ m ∧ iv = .int .i64 (j : Int) ∧ Keeps (fun k => ∃ o, a1 = some ⟨k, o, none⟩) w5 wr ∧ ∀ g, a1 = some ⟨g, 0, none⟩ → (∀ i, j ≤ i → i < m → wr.cell? ⟨g, i, none⟩ = some (.int .i64 (z i))) ∧ ∀ o, wr.frozen? ⟨g, o, none⟩ = false) (fun iv _ => m - (intOf iv).toNat)
  case atStart =>
    refine ⟨0, Nat.zero_le _, rfl, Keeps.refl _ _, fun g e => ⟨fun i _ hi => ?_, fun o => ?_⟩⟩
    · rcases hnl5 with e0 | ⟨b, off, e1, _, hc⟩
      · omega
      · have := (hb1 b off e1).2.1
        subst this
        cases e1.symm.trans e
        simpa using hc i hi
    · subst e
      exact owns_frozen o15 o
  case round =>
    obtain ⟨j, hj, rfl, kj, hc⟩ := hrel
    by_cases hjm : j < m
    · obtain ⟨g, off, rfl, hg, _⟩ := hnl5.resolve_left (by omega)
      obtain ⟨hb, rfl, _⟩ := hb1 g off rfl
      obtain ⟨hc1, hz1⟩ := hc g rfl
      obtain ⟨b, off, rfl, hbl, hcp⟩ := h.resolve_left (by omega)
      have e1 := hc1 j (Nat.le_refl _) hjm
      have e2 := kj.cell (KW5.cell (hcp j hjm) (fun e => e)) (by rintro ⟨o, e⟩; simp at e; try omega)
      have fz := hz1 j
      have hjI : (j : Int) < (m : Int) := by omega
      have hjb : decide (j < m) = true := decide_eq_true hjm
      have W1 : IntKind.i64.wrap ((j : Int) + 1) = (j : Int) + 1 := by rw [IntKind.wrap_i64]; omega
      have hNE : Nonempty (KS wr) := ⟨⟨wr, Keeps.refl _ wr⟩⟩
      have C1 := ks_cell e1
      have C2 := ks_cell e2
      gi_wp2
      refine wpIn_wide.2 ?_
      refine wp_region_ks (by kernel_rfl) (by kernel_rfl) ?_
      repeat (go_big_quiet_step (fail))
      refine wpQuiet_nil ?_
      rintro _ ⟨u, rfl⟩
      have K6 := u.property
      clear C1 C2 hNE
      generalize u.val = W6 at K6 ⊢
      (try simp only [Exit.then])
      have f1 := K6.cell e1 (fun e => e)
      have fz1 := (K6.frozen (p := ⟨g, j, none⟩) (World.block_lt_of_cell? _ _ e1) (fun e => e)).trans fz
      have HH : Hid (∀ i, j + 1 ≤ i → i < m → (W6.setCell ⟨g, j, none⟩ (.int .i64 (wrap64 (1 - z j)))).cell? ⟨g, i, none⟩ = some (.int .i64 (z i))) := fun i hi hm' => by
        rw [World.cell?_setCell_other _ _ _ _ (by intro e; cases e; omega)]
        exact K6.cell (hc1 i (by omega) hm') (fun e => e)
      have HZ : Hid (∀ o, (W6.setCell ⟨g, j, none⟩ (.int .i64 (wrap64 (1 - z j)))).frozen? ⟨g, o, none⟩ = false) := fun o => by
        rw [World.frozen?_setCell]
        exact (K6.frozen (p := ⟨g, o, none⟩) (show g < wr.heap.size from World.block_lt_of_cell? wr ⟨g, j, none⟩ e1) (fun e => e)).trans (hz1 o)
      clear hc1 hz1 e1 e2 hc hcp
      gi_wp2
      refine ⟨⟨j + 1, by omega, by go_num, ?_, fun g' e => by cases e; exact ⟨HH.out, HZ.out⟩⟩, by simp [intOf]; omega⟩
      exact (kj.trans (K6.mono (fun _ _ e => e.elim))).setCell (p := ⟨g, j, none⟩) (fun _ => ⟨0, rfl⟩) _
    · obtain rfl : m = j := by omega
      have hjI : ¬ (m : Int) < (m : Int) := by omega
      have hwant : M = 0 ∨ ∃ g2, a2 = some ⟨g2, 0, none⟩ ∧ w1.heap.size ≤ g2 ∧ g2 < w2.heap.size ∧ ∀ i, i < M → w5.cell? ⟨g2, i * 3, none⟩ = some (.int .i64 (c i).th) ∧ w5.cell? ⟨g2, i * 3 + 1, none⟩ = some (.int .i64 ((c i).fr : Int)) ∧ w5.cell? ⟨g2, i * 3 + 2, none⟩ = some (.int .i64 ((c i).len : Int)) := by
        rcases Nat.eq_zero_or_pos M with e | e
        · exact .inl e
        · obtain ⟨L, hL⟩ : ∃ L, L = (List.range M).map c := ⟨_, rfl⟩
          have hLl : L.length = M := by rw [hL]; simp
          obtain ⟨M', rfl⟩ : ∃ M', M = M' + 1 := ⟨M - 1, by omega⟩
          obtain ⟨g2, cap2', e2⟩ := ownsRow_succ o25
          cases e2
          have ho : w5.ownsRow w1.heap.size 37 3 (.slice (some ⟨g2, 0, none⟩) L.length cap2) L.length (fl ucells L) := by rw [hLl, hL]; exact o25
          refine .inr ⟨g2, rfl, owns_base ho g2 rfl, owns_lt' o2 g2 rfl, fun i hi => ?_⟩
          have := cut_cell ho (i := i) (by omega)
          have e9 : L.getD i cu0 = c i := by rw [hL]; simp [List.getD_eq_getElem?_getD, hi]
          rwa [e9] at this
      obtain ⟨w6, hw6⟩ : ∃ w6, w6 = wr.alloc (.cells #[.int .i64 0] 3) := ⟨_, rfl⟩
      have zr := kj.size
      have z6 : w6.heap.size = wr.heap.size + 1 := by rw [hw6]; simp
      have k6 : Keeps (fun k => ∃ o, a1 = some ⟨k, o, none⟩) w5 w6 := by rw [hw6]; exact kj.alloc _
      have bA : Boxed w6 wr.heap.size 3 (.int .i64 ((0 : Nat) : Int)) := by rw [hw6]; exact Boxed.new wr _ _
      have bS6 := boxed_keeps bS5 k6 (by rintro ⟨o, e⟩; have := hb1' _ _ e; omega)
      have bR6 := boxed_keeps bR5 k6 (by rintro ⟨o, e⟩; have := hb1' _ _ e; omega)
      have bW6 := boxed_keeps bW k6 (by rintro ⟨o, e⟩; have := hb1' _ _ e; omega)
      have bF6 := boxed_keeps bF k6 (by rintro ⟨o, e⟩; have := hb1' _ _ e; omega)
      have Kw6 : Keeps (fun _ => False) w w6 := KW5.trans' k6 (fun _ _ e => e) (fun i hi => by rintro ⟨o, e⟩; have := hb1' _ _ e; omega)
      have k36 : Keeps (fun k => k < w2.heap.size + 1 ∨ w3.heap.size ≤ k) w3 w6 := k35.trans' k6 (fun _ _ e => e.elim) (fun i hi => by rintro ⟨o, e⟩; have := hb1' _ _ e; omega)
      have k46 : Keeps (fun k => k < w3.heap.size + 1 ∨ w4.heap.size ≤ k) w4 w6 := k45.trans' k6 (fun _ _ e => e.elim) (fun i hi => by rintro ⟨o, e⟩; have := hb1' _ _ e; omega)
      have hwant6 : M = 0 ∨ ∃ g2, a2 = some ⟨g2, 0, none⟩ ∧ g2 < w2.heap.size ∧ ∀ i, i < M → w6.cell? ⟨g2, i * 3, none⟩ = some (.int .i64 (c i).th) ∧ w6.cell? ⟨g2, i * 3 + 1, none⟩ = some (.int .i64 ((c i).fr : Int)) ∧ w6.cell? ⟨g2, i * 3 + 2, none⟩ = some (.int .i64 ((c i).len : Int)) := by
        rcases hwant with e | ⟨g2, e, hl, hu, hc2⟩
        · exact .inl e
        · have hn : ¬ ∃ o, a1 = some ⟨g2, o, none⟩ := by rintro ⟨o, e⟩; have := hb1' _ _ e; omega
          exact .inr ⟨g2, e, hu, fun i hi => ⟨k6.cell (hc2 i hi).1 hn, k6.cell (hc2 i hi).2.1 hn, k6.cell (hc2 i hi).2.2 hn⟩⟩
      have HW6 := (show Hid _ from hwant6)
      have HG3 := (show Hid _ from hg3)
      have HG4 := (show Hid _ from hg4)
      clear hwant hwant6 hg3 hg4 bS5 bR5 bW bF o15 o25 o2 hnl5 hp5 hb1 hc h k25 k15 k05 k35 k45 KW5 KW0 K1 k2 k3 k4 hw hj hjm
      gi_wp2
      rw [← hw6]
      clear hw6
      rename_i K1 hK1
      have hrest : ∀ (D : Nat) (W : World) (k : Nat), w6.heap.size ≤ D → k ≤ M → (k = M ∨ (k : Int) = stop) → CI w6 wr.heap.size W k → W.heap[D]? = some (.deferred (some [])) → K1 { tmps := #[.int .i64 n, .slice a m cap, .int .i64 stop, undef, undef, .pointer (some ⟨w.heap.size, 0, none⟩), .pointer (some ⟨w.heap.size + 1, 0, none⟩), .slice a1 m cap1, .pointer (some ⟨w2.heap.size, 0, none⟩), .func (.func gf) #[] lb, .pointer (some ⟨w4.heap.size, 0, none⟩), .int .i64 (m : Int), .pointer (some ⟨wr.heap.size, 0, none⟩), undef, undef, undef, undef, undef, .slice (some ⟨w.heap.size + 1 + 1, 0, none⟩) 0 0, .slice a m cap, .slice a1 m cap1, .int .i64 n, .slice a m cap, .slice a2 M cap2, .int .i64 n, .slice a1 m cap1, .func (.func gf) #[] lb, .slice (some ⟨w3.heap.size, 0, none⟩) 3 3, .func (.func 21) #[] #[.pointer (some ⟨B3, 0, none⟩), .pointer (some ⟨B4, 0, none⟩)], .func (.func gf) #[] lb, .bool false, .bool false, .func (.func 21) #[] #[.pointer (some ⟨B3, 0, none⟩), .pointer (some ⟨B4, 0, none⟩)], .bool false, .bool false, .int .i64 (m : Int), .slice a1 m cap1, .int .i64 (m : Int), .bool false, u39, u40, u41, u42, u43, u44, u45, u46, u47, u48, u49, u50, u51, u52, u53, u54, u55, u56, u57, .func (.func gf) #[] lb, undef, undef, undef, undef, undef, undef, undef, undef, undef, undef, undef, undef, undef, undef, undef, undef, undef, undef, undef, undef, undef, undef, undef, undef, undef, undef, undef, undef, undef, undef, undef, undef, undef, undef, undef, undef, undef, undef, undef, undef, undef, undef, undef, undef, undef, undef, undef, undef, undef, undef, undef, undef, undef, undef, undef, undef, undef, undef, undef, undef, undef, undef, undef, undef, undef, undef, undef, undef, undef, undef, undef, undef, undef, undef, undef, undef, undef, undef, undef, undef, undef, undef, undef, undef, undef, undef, undef, undef, undef, undef, undef, undef, undef, undef, undef, undef, undef, undef, undef, undef, undef, undef, undef, undef, undef, undef, undef, undef, undef], defers := [{ target := .collected D, args := #[] }] } W := by
        intro D W k hD hkM hkS hI hK
        refine hK1 _ _ ?_
        have hkk := hI.kp
        have nH : ∀ k, k < w4.heap.size + 1 → ¬ (k = wr.heap.size ∨ w6.heap.size ≤ k) := fun k hk => by omega
        have s5 := (boxed_keeps bS6 hkk (nH _ (by omega))).cell
        have w8 := (boxed_keeps bW6 hkk (nH _ (by omega))).cell
        have a12 := hI.ba.cell
        have az := hI.ba.frozen
        have I7 := hI.set 0
        have HI7 := (show Hid _ from I7)
        have zW := hkk.size
        have hDl : D < W.heap.size := (Array.getElem?_eq_some_iff.1 hK).1
        have hD7 : (W.setCell ⟨wr.heap.size, 0, none⟩ (.int .i64 ((0 : Nat) : Int))).heap[D]? = some (.deferred (some [])) := (KeepsOthers.setCell W ⟨wr.heap.size, 0, none⟩ (.int .i64 ((0 : Nat) : Int))).same D _ hK rfl
        have HD7 := (show Hid _ from hD7)
        clear I7 hD7 hK
        have hcase : ((k : Int) != (M : Int)) = false ∨ (((k : Int) != (M : Int)) = true ∧ ((k : Int) != stop) = false) := by
          rcases hkS with e | e
          · exact .inl (by simp; omega)
          · by_cases e' : k = M
            · exact .inl (by simp; omega)
            · exact .inr ⟨by simp; omega, by simp; omega⟩
        clear hkS
        rcases hcase with F1 | ⟨F1, F2⟩
        all_goals
          gi_wp2
          have HI7 := HI7.out
          have HD7 := HD7.out
          rw [show ((0 : Nat) : Int) = 0 from rfl] at HD7
          have hI7 := (show CI w6 wr.heap.size (W.setCell ⟨wr.heap.size, 0, none⟩ (.int .i64 0)) 0 from HI7)
          obtain ⟨w7, hw7⟩ : ∃ w7, w7 = W.setCell ⟨wr.heap.size, 0, none⟩ (.int .i64 0) := ⟨_, rfl⟩
          rw [← hw7] at hI7 HD7 ⊢
          have z7 : w7.heap.size = W.heap.size := by rw [hw7]; simp
          have K67 := hI7.kp
          have bA7 := hI7.ba
          clear hw7 hI7 HI7 hI hkk s5 w8 a12 az
          have k37 : Keeps (fun k => k < w2.heap.size + 1 ∨ w3.heap.size ≤ k) w3 w7 := k36.trans' K67 (fun _ _ e => e) (fun i hi e => by omega)
          have k47 : Keeps (fun k => k < w3.heap.size + 1 ∨ w4.heap.size ≤ k) w4 w7 := k46.trans' K67 (fun _ _ e => e) (fun i hi e => by omega)
          refine wpIn_rangeFunc_ownH (α := Fin M) rfl (by omega) (gf := gf) (lb := lb) rfl trivial eg
            (HG3.out 5 w7 (fun k => k = wr.heap.size) (by omega) (by simpa using k37) (fun k e => by subst e; right; omega)) keepsK_t keepsK_b (Below.refl _ _) (fun _ => rfl)
            (fun pre W => CI w7 wr.heap.size W pre.length)
            (fun cd pre W => cd = .ret ∧ ∃ (p : List (Fin M)) (x : Fin M), pre = p ++ [x] ∧ (x : Nat) ≠ p.length)
            (fun pre A B row hs hg hr => hs.kept hg (fun r e => ⟨(hr r e).1, (hr r e).2⟩))
            (fun cd pre A B row hs hg hr => hs)
            ⟨Keeps.refl _ _, bA7⟩
            (fun x av W => ∃ Bx v102 v103 v104 v105 v106, w7.heap.size ≤ Bx ∧ CA W Bx (c x) ∧ av = { tmps := #[.int .i64 n, .slice a m cap, .int .i64 stop, undef, undef, .pointer (some ⟨w.heap.size, 0, none⟩), .pointer (some ⟨w.heap.size + 1, 0, none⟩), .slice a1 m cap1, .pointer (some ⟨w2.heap.size, 0, none⟩), .func (.func gf) #[] lb, .pointer (some ⟨w4.heap.size, 0, none⟩), .int .i64 (m : Int), .pointer (some ⟨wr.heap.size, 0, none⟩), undef, .pointer (some ⟨Bx, 0, none⟩), undef, undef, undef, .slice (some ⟨w.heap.size + 1 + 1, 0, none⟩) 0 0, .slice a m cap, .slice a1 m cap1, .int .i64 n, .slice a m cap, .slice a2 M cap2, .int .i64 n, .slice a1 m cap1, .func (.func gf) #[] lb, .slice (some ⟨w3.heap.size, 0, none⟩) 3 3, .func (.func 21) #[] #[.pointer (some ⟨B3, 0, none⟩), .pointer (some ⟨B4, 0, none⟩)], .func (.func gf) #[] lb, .bool false, .bool false, .func (.func 21) #[] #[.pointer (some ⟨B3, 0, none⟩), .pointer (some ⟨B4, 0, none⟩)], .bool false, .bool false, .int .i64 (m : Int), .slice a1 m cap1, .int .i64 (m : Int), .bool false, u39, u40, u41, u42, u43, u44, u45, u46, u47, u48, u49, u50, u51, u52, u53, u54, u55, u56, u57, .func (.func gf) #[] lb, undef, undef, undef, undef, undef, undef, undef, undef, undef, undef, undef, undef, undef, undef, undef, undef, undef, undef, undef, undef, undef, undef, undef, undef, undef, undef, undef, undef, undef, undef, undef, undef, undef, undef, undef, undef, undef, undef, undef, undef, .int .i64 (k : Int), .slice a2 M cap2, .int .i64 (M : Int), v102, v103, v104, v105, v106, .bool false, .func (.func gf) #[] lb, .agg #[.int .i64 (c x).th, .int .i64 ((c x).fr : Int), .int .i64 ((c x).len : Int)], undef, undef, undef, undef, undef, undef, undef, undef, undef, undef, undef, undef, undef, undef, undef, undef, undef, undef, undef, undef, undef, undef, undef, undef, undef, undef, undef, undef, undef, undef, undef, undef, undef, undef, undef, undef, undef, undef, undef, undef, undef, undef, undef, undef, undef, undef, undef, undef, undef, undef, undef, undef, undef, undef, undef, undef, undef, undef], defers := [] })
            (fun x av _ W W' row hs hg hr => by
              obtain ⟨Bx, v102, v103, v104, v105, v106, h0, h1, e⟩ := hs
              exact ⟨Bx, v102, v103, v104, v105, v106, h0, h1.kept hg (fun r e => (hr r e).2), e⟩) ?assign ?body ?done ?stop
          case assign =>
            rintro l pre x W K hI hK
            obtain ⟨cx, hcx⟩ : ∃ cx, Hid (cx = c x) := ⟨_, rfl⟩
            rw [← hcx.out]
            simp only [encu]
            gi_wp2
            exact hK _ _ ((KeepsOthers.alloc _ _).from _) ((Keeps.refl _ W).alloc _) (hI.new ((Keeps.refl _ W).alloc _)) ⟨W.heap.size, _, _, _, _, _, hI.kp.size, by rw [← hcx.out]; exact ⟨by simp, by simp, by simp, by simp, by simp, by simp⟩, by rw [← hcx.out]⟩
          case body =>
            rintro l pre x av W hl _ hI ⟨Bx, v102, v103, v104, v105, v106, hBx, hC, rfl⟩ hlt
            obtain ⟨k', hk⟩ : ∃ k', Hid (k' = pre.length) := ⟨_, rfl⟩
            rw [← hk.out] at hI hlt
            obtain ⟨g2, rfl, hg2, hcs⟩ := HW6.out.resolve_left (by omega)
            have hkk := K67.trans (hI.kp.mono (fun i hi e => by omega))
            have nH : ∀ k, k < w4.heap.size + 1 → ¬ (k = wr.heap.size ∨ w6.heap.size ≤ k) := fun k hk => by omega
            obtain ⟨q0, q1, q2⟩ := hcs k' hlt
            have q0 := hkk.cell q0 (nH _ (by show g2 < _; omega))
            have q1 := hkk.cell q1 (nH _ (by show g2 < _; omega))
            have q2 := hkk.cell q2 (nH _ (by show g2 < _; omega))
            have s5 := (boxed_keeps bS6 hkk (nH _ (by omega))).cell
            have rB := boxed_keeps bR6 hkk (nH _ (by omega))
            have r6 := rB.cell
            have rz := rB.frozen
            have w8 := (boxed_keeps bW6 hkk (nH _ (by omega))).cell
            have a12 := hI.ba.cell
            have az := hI.ba.frozen
            have x0 := hC.c0
            have x1 := hC.c1
            have x2 := hC.c2
            have hxk : (c x).th ≠ (c k').th ∨ ((c x).th = (c k').th ∧ (c x).fr ≠ (c k').fr) ∨ ((c x).th = (c k').th ∧ (c x).fr = (c k').fr ∧ (c x).len ≠ (c k').len) ∨ ((c x).th = (c k').th ∧ (c x).fr = (c k').fr ∧ (c x).len = (c k').len) := by
              by_cases h1 : (c x).th = (c k').th
              · by_cases h2 : (c x).fr = (c k').fr
                · by_cases h3 : (c x).len = (c k').len
                  · exact .inr (.inr (.inr ⟨h1, h2, h3⟩))
                  · exact .inr (.inr (.inl ⟨h1, h2, h3⟩))
                · exact .inr (.inl ⟨h1, h2⟩)
              · exact .inl h1
            have hne : (x : Nat) = k' → c x = c k' := fun e => by rw [e]
            have HNE := (show Hid _ from hne)
            obtain ⟨cx, hcx⟩ : ∃ cx, Hid (cx = c x) := ⟨_, rfl⟩
            obtain ⟨ck, hck⟩ : ∃ ck, Hid (ck = c k') := ⟨_, rfl⟩
            rw [← hcx.out] at x0 x1 x2 hxk HNE ⊢
            rw [← hck.out] at q0 q1 q2 hxk HNE
            clear hC hcs hne
            obtain ⟨xt, xf, xl⟩ := cx
            obtain ⟨kt, kf, kl⟩ := ck
            simp only at x0 x1 x2 q0 q1 q2 hxk
            have D0 : decide ((M : Int) ≤ (k' : Int)) = false := decide_eq_false (by omega)
            have D0n : decide (M ≤ k') = false := decide_eq_false (by omega)
            have hkI : (k' : Int) < (M : Int) := by omega
            have hNE : Nonempty (KS W) := ⟨⟨W, Keeps.refl _ W⟩⟩
            have Q0 := ks_cell q0
            have Q1 := ks_cell q1
            have Q2 := ks_cell q2
            have X0 := ks_cell x0
            have X1 := ks_cell x1
            have X2 := ks_cell x2
            have A12 := ks_cell a12
            have W8 := ks_cell w8
            rcases hxk with h1 | ⟨h1, h2⟩ | ⟨h1, h2, h3⟩ | ⟨h1, h2, h3⟩
            · have E1 : (xt != kt) = true := by simpa using h1
              have HX : Hid ((x : Nat) ≠ k') := fun e => h1 (by have := HNE.out e; injection this)
              clear h1
              clear HNE
              gi_wp2
              refine wpIn_region_ks (by kernel_rfl) (by kernel_rfl) (by kernel_rfl) ?_
              repeat (go_big_quiet_step (fail))
              refine wpQuiet_nil ?_
              rintro _ ⟨u, rfl⟩
              have K9 := u.property
              clear Q0 Q1 Q2 X0 X1 X2 A12 W8 hNE
              generalize u.val = W9 at K9 ⊢
              have hko : KeepsOthers W W9 := ⟨K9.size, fun k o h _ => (K9.block k (Array.getElem?_eq_some_iff.1 h).1 (fun e => e)).trans h⟩
              have rB9 := boxed_keeps rB K9 (fun e => e)
              have r9 := rB9.cell
              have rz9 := rB9.frozen
              (try simp only [Exit.then])
              gi_wp2
              exact ⟨(hko.trans (KeepsOthers.setCell _ _ _)).from _, ⟨rfl, pre, x, rfl, by rw [← hk.out]; exact HX.out⟩⟩
            · have E1 : (xt != kt) = false := by simpa using h1
              have E2 : ((xf : Int) != (kf : Int)) = true := by simp; omega
              have HX : Hid ((x : Nat) ≠ k') := fun e => h2 (by have := HNE.out e; injection this)
              clear h1 h2
              clear HNE
              gi_wp2
              refine wpIn_region_ks (by kernel_rfl) (by kernel_rfl) (by kernel_rfl) ?_
              repeat (go_big_quiet_step (fail))
              refine wpQuiet_nil ?_
              rintro _ ⟨u, rfl⟩
              have K9 := u.property
              clear Q0 Q1 Q2 X0 X1 X2 A12 W8 hNE
              generalize u.val = W9 at K9 ⊢
              have hko : KeepsOthers W W9 := ⟨K9.size, fun k o h _ => (K9.block k (Array.getElem?_eq_some_iff.1 h).1 (fun e => e)).trans h⟩
              have rB9 := boxed_keeps rB K9 (fun e => e)
              have r9 := rB9.cell
              have rz9 := rB9.frozen
              (try simp only [Exit.then])
              gi_wp2
              exact ⟨(hko.trans (KeepsOthers.setCell _ _ _)).from _, ⟨rfl, pre, x, rfl, by rw [← hk.out]; exact HX.out⟩⟩
            · have E1 : (xt != kt) = false := by simpa using h1
              have E2 : ((xf : Int) != (kf : Int)) = false := by simp; omega
              have E3 : ((xl : Int) != (kl : Int)) = true := by simp; omega
              have HX : Hid ((x : Nat) ≠ k') := fun e => h3 (by have := HNE.out e; injection this)
              clear h1 h2 h3
              clear HNE
              gi_wp2
              refine wpIn_region_ks (by kernel_rfl) (by kernel_rfl) (by kernel_rfl) ?_
              repeat (go_big_quiet_step (fail))
              refine wpQuiet_nil ?_
              rintro _ ⟨u, rfl⟩
              have K9 := u.property
              clear Q0 Q1 Q2 X0 X1 X2 A12 W8 hNE
              generalize u.val = W9 at K9 ⊢
              have hko : KeepsOthers W W9 := ⟨K9.size, fun k o h _ => (K9.block k (Array.getElem?_eq_some_iff.1 h).1 (fun e => e)).trans h⟩
              have rB9 := boxed_keeps rB K9 (fun e => e)
              have r9 := rB9.cell
              have rz9 := rB9.frozen
              (try simp only [Exit.then])
              gi_wp2
              exact ⟨(hko.trans (KeepsOthers.setCell _ _ _)).from _, ⟨rfl, pre, x, rfl, by rw [← hk.out]; exact HX.out⟩⟩
            · have E1 : (xt != kt) = false := by simpa using h1
              have E2 : ((xf : Int) != (kf : Int)) = false := by simp; omega
              have E3 : ((xl : Int) != (kl : Int)) = false := by simp; omega
              have W1 : IntKind.i64.wrap ((k' : Int) + 1) = (k' : Int) + 1 := by rw [IntKind.wrap_i64]; omega
              clear HNE h1 h2 h3
              gi_wp2
              refine wpIn_region_ks (by kernel_rfl) (by kernel_rfl) (by kernel_rfl) ?_
              repeat (go_big_quiet_step (fail))
              refine wpQuiet_nil ?_
              rintro _ ⟨u, rfl⟩
              have K9 := u.property
              clear Q0 Q1 Q2 X0 X1 X2 A12 W8 hNE
              generalize u.val = W9 at K9 ⊢
              have hko : KeepsOthers W W9 := ⟨K9.size, fun k o h _ => (K9.block k (Array.getElem?_eq_some_iff.1 h).1 (fun e => e)).trans h⟩
              have I9 := hI.new K9
              have a9 := I9.ba.cell
              have az9 := I9.ba.frozen
              have s9 := K9.cell s5 (fun e => e)
              have SN := (I9.set (k' + 1))
              have e1 : (((k' + 1 : Nat)) : Int) = (k' : Int) + 1 := by omega
              rw [e1] at SN
              have HSN := (show Hid _ from SN)
              clear SN e1
              (try simp only [Exit.then])
              gi_wp2
              refine ⟨(hko.trans (KeepsOthers.setCell _ _ _)).from _, (K9.mono (fun _ _ e => e.elim)).setCell (p := ⟨wr.heap.size, 0, none⟩) (fun _ => .inl rfl) _, ?_⟩
              show CI _ _ _ (pre ++ [x]).length; rw [List.length_append, List.length_singleton, ← hk.out]; exact HSN.out

          case stop =>
            rintro D cd pre W hD ⟨k, hk0, hk, rfl⟩ ⟨rfl, p, x, e1, e3⟩ hK
            exfalso
            have := idx_succ (N := M) (k := k - 1) (by omega)
            rw [show k - 1 + 1 = k by omega, e1] at this
            obtain ⟨h1, h2⟩ := List.append_inj' this rfl
            simp only [List.cons.injEq, and_true] at h2
            exact e3 (by rw [h2, h1, idx_length (by omega)])
          case done =>
            rintro D2 ys W2 hD2 rfl hI2 hKd2
            rw [idx_length (Nat.le_refl _)] at hI2
            have K72 := hI2.kp
            have K62 : Keeps (fun k => k = wr.heap.size ∨ w6.heap.size ≤ k) w6 W2 := K67.trans (K72.mono (fun i hi e => by omega))
            have nH : ∀ k, k < w4.heap.size + 1 → ¬ (k = wr.heap.size ∨ w6.heap.size ≤ k) := fun k hk => by omega
            have zW2 := K72.size
            have hDl2 : D2 < W2.heap.size := (Array.getElem?_eq_some_iff.1 hKd2).1
            have hKd1 : W2.heap[D]? = some (.deferred (some [])) := (K72.block D (by omega) (by omega)).trans HD7
            have f10 := (boxed_keeps bF6 K62 (nH _ (by omega))).cell
            have d10 : ∀ o, (W2.alloc o).cell? ⟨w4.heap.size, 0, none⟩ = some (.func (.func 21) #[] #[.pointer (some ⟨B3, 0, none⟩), .pointer (some ⟨B4, 0, none⟩)]) := fun o => ((Keeps.refl (fun _ => False) W2).alloc o).cell f10 (fun e => e)
            have HI2 := (show Hid _ from hI2)
            have HK1 := (show Hid _ from hKd1)
            have HK2 := (show Hid _ from hKd2)
            clear hI2 hKd1 hKd2
            gi_wp2
            obtain ⟨w8, hw8⟩ : ∃ w8, w8 = W2.alloc (.cells #[.int .i64 0] 3) := ⟨_, rfl⟩
            have z8 : w8.heap.size = W2.heap.size + 1 := by rw [hw8]; simp
            have k28 : Keeps (fun _ => False) W2 w8 := by rw [hw8]; exact (Keeps.refl _ W2).alloc _
            have bN : Boxed w8 W2.heap.size 3 (.int .i64 ((0 : Nat) : Int)) := by rw [hw8]; exact Boxed.new W2 _ _
            rw [← hw8]
            clear hw8 d10
            have k48 : Keeps (fun k => k < w3.heap.size + 1 ∨ w4.heap.size ≤ k) w4 w8 := (k47.trans (K72.mono (fun i hi e => by omega))).trans (k28.mono (fun _ _ e => e.elim))
            have f8 := k28.cell f10 (fun e => e)
            refine wpIn_rangeFunc_ownH (α := Fin 2) rfl (by omega) (gf := 21) (lb := #[.pointer (some ⟨B3, 0, none⟩), .pointer (some ⟨B4, 0, none⟩)]) rfl trivial (enters_of Try.func21 (by kernel_rfl) rfl)
              (HG4.out 5 w8 (fun k => k = W2.heap.size) (by omega) (by simpa using k48) (fun k e => by subst e; right; omega)) keepsK_t keepsK_b (Below.refl _ _) (fun _ => rfl)
              (fun pre W => CI w8 W2.heap.size W (val4 pre))
              (fun _ _ _ => False)
              (fun pre A B row hs hg hr => hs.kept hg (fun r e => ⟨(hr r e).1, (hr r e).2⟩))
              (fun cd pre A B row hs hg hr => hs)
              ⟨Keeps.refl _ _, bN⟩
              (fun x av W => ∃ Bx v102 v103 v104 v105 v106, w8.heap.size ≤ Bx ∧ CA W Bx (c4 x) ∧ av = { tmps := #[.int .i64 n, .slice a m cap, .int .i64 stop, undef, undef, .pointer (some ⟨w.heap.size, 0, none⟩), .pointer (some ⟨w.heap.size + 1, 0, none⟩), .slice a1 m cap1, .pointer (some ⟨w2.heap.size, 0, none⟩), .func (.func gf) #[] lb, .pointer (some ⟨w4.heap.size, 0, none⟩), .int .i64 (m : Int), .pointer (some ⟨wr.heap.size, 0, none⟩), undef, undef, .pointer (some ⟨W2.heap.size, 0, none⟩), .pointer (some ⟨Bx, 0, none⟩), undef, .slice (some ⟨w.heap.size + 1 + 1, 0, none⟩) 0 0, .slice a m cap, .slice a1 m cap1, .int .i64 n, .slice a m cap, .slice a2 M cap2, .int .i64 n, .slice a1 m cap1, .func (.func gf) #[] lb, .slice (some ⟨w3.heap.size, 0, none⟩) 3 3, .func (.func 21) #[] #[.pointer (some ⟨B3, 0, none⟩), .pointer (some ⟨B4, 0, none⟩)], .func (.func gf) #[] lb, .bool false, .bool false, .func (.func 21) #[] #[.pointer (some ⟨B3, 0, none⟩), .pointer (some ⟨B4, 0, none⟩)], .bool false, .bool false, .int .i64 (m : Int), .slice a1 m cap1, .int .i64 (m : Int), .bool false, u39, u40, u41, u42, u43, u44, u45, u46, u47, u48, u49, u50, u51, u52, u53, u54, u55, u56, u57, .func (.func gf) #[] lb, undef, undef, undef, undef, undef, undef, undef, undef, undef, undef, undef, undef, undef, undef, undef, undef, undef, undef, undef, undef, undef, undef, undef, undef, undef, undef, undef, undef, undef, undef, undef, undef, undef, undef, undef, undef, undef, undef, undef, undef, .int .i64 (k : Int), .slice a2 M cap2, .int .i64 (M : Int), v102, v103, v104, v105, v106, .bool false, .func (.func gf) #[] lb, undef, undef, undef, undef, undef, undef, undef, undef, undef, undef, undef, undef, undef, undef, undef, undef, undef, undef, undef, undef, undef, undef, undef, undef, undef, undef, undef, undef, undef, undef, undef, undef, undef, undef, undef, undef, undef, .func (.func 21) #[] #[.pointer (some ⟨B3, 0, none⟩), .pointer (some ⟨B4, 0, none⟩)], .agg #[.int .i64 (c4 x).th, .int .i64 ((c4 x).fr : Int), .int .i64 ((c4 x).len : Int)], undef, undef, undef, undef, undef, undef, undef, undef, undef, undef, undef, undef, undef, undef, undef, undef, undef, undef, undef, undef], defers := [] })
              (fun x av _ W W' row hs hg hr => by
                obtain ⟨Bx, v102, v103, v104, v105, v106, h0, h1, e⟩ := hs
                exact ⟨Bx, v102, v103, v104, v105, v106, h0, h1.kept hg (fun r e => (hr r e).2), e⟩) ?assign3 ?body3 ?done3 ?stop3
            case assign3 =>
              rintro l pre x W K hI hK
              obtain ⟨cx, hcx⟩ : ∃ cx, Hid (cx = c4 x) := ⟨_, rfl⟩
              rw [← hcx.out]
              simp only [encu]
              gi_wp2
              exact hK _ _ ((KeepsOthers.alloc _ _).from _) ((Keeps.refl _ W).alloc _) (hI.new ((Keeps.refl _ W).alloc _)) ⟨W.heap.size, _, _, _, _, _, hI.kp.size, by rw [← hcx.out]; exact ⟨by simp, by simp, by simp, by simp, by simp, by simp⟩, by rw [← hcx.out]⟩
            case stop3 => exact fun D cd pre W _ _ hf => hf.elim
            case body3 =>
              rintro l pre x av W hl ⟨r, hr⟩ hI ⟨Bx, v102, v103, v104, v105, v106, hBx, hC, rfl⟩ hlt
              have hv := val4_le hlt
              obtain ⟨v, hvv⟩ : ∃ v, Hid (v = val4 pre) := ⟨_, rfl⟩
              rw [← hvv.out] at hI hv
              have hkk := hI.kp
              have zW := hkk.size
              have f9 := hkk.cell f8 (by show ¬ (w4.heap.size = W2.heap.size ∨ w8.heap.size ≤ w4.heap.size); omega)
              have hBl : Bx < W.heap.size := World.block_lt_of_cell? _ _ hC.c0
              have k49 : Keeps (fun k => k < w3.heap.size + 1 ∨ w4.heap.size ≤ k) w4 W := k48.trans (hkk.mono (fun i hi e => by omega))
              obtain ⟨cx, hcx⟩ : ∃ cx, Hid (cx = c4 x) := ⟨_, rfl⟩
              have hlx : Hid (cx.len = ln4 x) := by rw [hcx.out]; exact hl4 x
              have hl2 := ln4_le x
              rw [← hcx.out] at hC ⊢
              gi_wp2
              refine wpIn_rangeFunc_ownN (α := Fin 2) (l₀ := l) (r₀ := r) rfl hr (by omega) (gf := 21) (lb := #[.pointer (some ⟨B3, 0, none⟩), .pointer (some ⟨B4, 0, none⟩)]) rfl trivial (enters_of Try.func21 (by kernel_rfl) rfl)
                ((HG4.out 3 W (fun k => k = W2.heap.size) (by omega) (by simpa using k49) (fun k e => by subst e; right; omega)).inRound l) keepsK_t keepsK_b (Below.refl _ _) (fun _ => rfl)
                (fun pre' W' => CI W W2.heap.size W' (acc4 v pre') ∧ KeepsFrom w8.heap.size W W')
                (fun _ _ _ => False)
                (fun pre A B row hs hg hr => ⟨hs.1.kept hg (fun r e => ⟨(hr r e).1, (hr r e).2⟩), ownFrom_keepsFrom (β := Unit) (Nat.le_refl _) () A B row hs.2 hg hr⟩)
                (fun cd pre A B row hs hg hr => hs)
                ⟨⟨Keeps.refl _ _, hI.ba⟩, KeepsFrom.refl _ _⟩
                (fun y av W' => ∃ By, W.heap.size ≤ By ∧ CA W' By (c4 y) ∧ av = { tmps := #[.int .i64 n, .slice a m cap, .int .i64 stop, undef, undef, .pointer (some ⟨w.heap.size, 0, none⟩), .pointer (some ⟨w.heap.size + 1, 0, none⟩), .slice a1 m cap1, .pointer (some ⟨w2.heap.size, 0, none⟩), .func (.func gf) #[] lb, .pointer (some ⟨w4.heap.size, 0, none⟩), .int .i64 (m : Int), .pointer (some ⟨wr.heap.size, 0, none⟩), undef, undef, .pointer (some ⟨W2.heap.size, 0, none⟩), .pointer (some ⟨Bx, 0, none⟩), .pointer (some ⟨By, 0, none⟩), .slice (some ⟨w.heap.size + 1 + 1, 0, none⟩) 0 0, .slice a m cap, .slice a1 m cap1, .int .i64 n, .slice a m cap, .slice a2 M cap2, .int .i64 n, .slice a1 m cap1, .func (.func gf) #[] lb, .slice (some ⟨w3.heap.size, 0, none⟩) 3 3, .func (.func 21) #[] #[.pointer (some ⟨B3, 0, none⟩), .pointer (some ⟨B4, 0, none⟩)], .func (.func gf) #[] lb, .bool false, .bool false, .func (.func 21) #[] #[.pointer (some ⟨B3, 0, none⟩), .pointer (some ⟨B4, 0, none⟩)], .bool false, .bool false, .int .i64 (m : Int), .slice a1 m cap1, .int .i64 (m : Int), .bool false, u39, u40, u41, u42, u43, u44, u45, u46, u47, u48, u49, u50, u51, u52, u53, u54, u55, u56, u57, .func (.func gf) #[] lb, undef, undef, undef, undef, undef, undef, undef, undef, undef, undef, undef, undef, undef, undef, undef, undef, undef, undef, undef, undef, undef, undef, undef, undef, undef, undef, undef, undef, undef, undef, undef, undef, undef, undef, undef, undef, undef, undef, undef, undef, .int .i64 (k : Int), .slice a2 M cap2, .int .i64 (M : Int), v102, v103, v104, v105, v106, .bool false, .func (.func gf) #[] lb, undef, undef, undef, undef, undef, undef, undef, undef, undef, undef, undef, undef, undef, undef, undef, undef, undef, undef, undef, undef, undef, undef, undef, undef, undef, undef, undef, undef, undef, undef, undef, undef, undef, undef, undef, undef, undef, .func (.func 21) #[] #[.pointer (some ⟨B3, 0, none⟩), .pointer (some ⟨B4, 0, none⟩)], .agg #[.int .i64 (cx).th, .int .i64 ((cx).fr : Int), .int .i64 ((cx).len : Int)], .func (.func 21) #[] #[.pointer (some ⟨B3, 0, none⟩), .pointer (some ⟨B4, 0, none⟩)], .agg #[.int .i64 (c4 y).th, .int .i64 ((c4 y).fr : Int), .int .i64 ((c4 y).len : Int)], undef, undef, undef, undef, undef, undef, undef, undef, undef, undef, undef, undef, undef, undef, undef, undef, undef, undef], defers := [] })
                (fun y av _ W W' row hs hg hr => by
                  obtain ⟨By, h0, h1, e⟩ := hs
                  exact ⟨By, h0, h1.kept hg (fun r e => (hr r e).2), e⟩) ?assign4 ?body4 ?done4 ?stop4
              case assign4 =>
                rintro l pre y W' K ⟨hI', hF'⟩ hK
                obtain ⟨cy, hcy⟩ : ∃ cy, Hid (cy = c4 y) := ⟨_, rfl⟩
                rw [← hcy.out]
                simp only [encu]
                gi_wp2
                exact hK _ _ ((KeepsOthers.alloc _ _).from _) ((Keeps.refl _ W').alloc _) ⟨hI'.new ((Keeps.refl _ W').alloc _), hF'.trans ((KeepsOthers.alloc _ _).from _)⟩ ⟨W'.heap.size, hI'.kp.size, by rw [← hcy.out]; exact ⟨by simp, by simp, by simp, by simp, by simp, by simp⟩, by rw [← hcy.out]⟩
              case stop4 => exact fun cd pre W _ hf => hf.elim
              case body4 =>
                rintro l pre' y av W' _ _ ⟨hI', hF'⟩ ⟨By, hBy, hC', rfl⟩ hlt'
                have hv' := acc4_le (v := v) hlt'
                have hly : (c4 y).len = ln4 y := hl4 y
                have hl2' := ln4_le y
                have y2 := hC'.c2
                rw [hly] at y2
                obtain ⟨q, hq⟩ : ∃ q, Hid (q = acc4 v pre') := ⟨_, rfl⟩
                rw [← hq.out] at hI' hv'
                have n15 := hI'.ba.cell
                have nz := hI'.ba.frozen
                have SN := hI'.set (10 * q + ln4 y)
                have e1 : ((10 * q + ln4 y : Nat) : Int) = 10 * (q : Int) + (ln4 y : Int) := by omega
                rw [e1] at SN
                have HSN := (show Hid _ from SN)
                clear SN e1 hly
                have W1 : IntKind.i64.wrap (10 * (q : Int)) = 10 * (q : Int) := by rw [IntKind.wrap_i64]; omega
                have W2' : IntKind.i64.wrap (10 * (q : Int) + (ln4 y : Int)) = 10 * (q : Int) + (ln4 y : Int) := by rw [IntKind.wrap_i64]; omega
                gi_wp2
                refine ⟨(KeepsOthers.setCell _ _ _).from _, (Keeps.refl _ W').setCell (p := ⟨W2.heap.size, 0, none⟩) (fun _ => .inl rfl) _, ?_, hF'.trans ((KeepsOthers.setCell _ _ _).from _)⟩
                show CI _ _ _ (acc4 v (pre' ++ [y]))
                rw [acc4_snoc, ← hq.out]
                exact HSN.out
              case done4 =>
                rintro ys W' rfl ⟨hI', hF'⟩
                rw [acc4_all] at hI'
                have hC' := hC.keeps hI'.kp (by omega)
                have x2 := hC'.c2
                rw [hlx.out] at x2
                have n15 := hI'.ba.cell
                have nz := hI'.ba.frozen
                have SN := hI'.set (10 * (100 * v + 21) + ln4 x)
                have e1 : ((10 * (100 * v + 21) + ln4 x : Nat) : Int) = 10 * ((100 * v + 21 : Nat) : Int) + (ln4 x : Int) := by omega
                rw [e1] at SN
                have HSN := (show Hid _ from SN)
                have HF := (show Hid _ from hF')
                have hkw := hI'.kp
                clear SN e1 hF' hI' hC'
                obtain ⟨q, hq⟩ : ∃ q : Nat, q = 100 * v + 21 := ⟨_, rfl⟩
                rw [← hq] at n15 HSN
                have W1 : IntKind.i64.wrap (10 * (q : Int)) = 10 * (q : Int) := by rw [IntKind.wrap_i64]; omega
                have W2' : IntKind.i64.wrap (10 * (q : Int) + (ln4 x : Int)) = 10 * (q : Int) + (ln4 x : Int) := by rw [IntKind.wrap_i64]; omega
                have HQ := (show Hid _ from hq)
                clear hq
                gi_wp2
                refine ⟨HF.out.trans ((KeepsOthers.setCell _ _ _).from _), (hkw.mono (fun i hi e => by omega)).setCell (p := ⟨W2.heap.size, 0, none⟩) (fun _ => .inl rfl) _, ?_⟩
                show CI _ _ _ (val4 (pre ++ [x]))
                rw [val4_snoc, ← hvv.out]
                have := HSN.out
                refine ⟨(hkk.trans (hkw.mono (fun i hi e => by omega))).setCell (p := ⟨W2.heap.size, 0, none⟩) (fun _ => .inl rfl) _, ?_⟩
                have hb := this.ba
                rw [show ((10 * (100 * v + 21) + ln4 x : Nat) : Int) = 10 * (q : Int) + (ln4 x : Int) by rw [HQ.out]; omega]
                exact hb
            case done3 =>
              rintro D3 ys W3 hD3 rfl hI3 hKd3
              rw [val4_all] at hI3
              have kk3 := hI3.kp
              have zW3 := kk3.size
              have KW3 : Keeps (fun k => k = wr.heap.size ∨ w6.heap.size ≤ k) w6 W3 := K62.trans' (k28.trans' kk3 (fun _ _ e => e.elim) (fun i hi e => e)) (fun _ _ e => e) (fun i hi e => by omega)
              have a12 := kk3.cell (k28.cell HI2.out.ba.cell (fun e => e)) (by show ¬ (wr.heap.size = W2.heap.size ∨ w8.heap.size ≤ wr.heap.size); omega)
              have w8c := (boxed_keeps bW6 KW3 (nH _ (by omega))).cell
              have rB := boxed_keeps bR6 KW3 (nH _ (by omega))
              have r6 := rB.cell
              have rz := rB.frozen
              have n15 := hI3.ba.cell
              have hk1 : W3.heap[D]? = some (.deferred (some [])) := (kk3.block D (by omega) (by omega)).trans ((k28.block D (by omega) (fun e => e)).trans HK1.out)
              have hk2 : W3.heap[D2]? = some (.deferred (some [])) := (kk3.block D2 (by omega) (by omega)).trans ((k28.block D2 (by omega) (fun e => e)).trans HK2.out)
              have HK1' := (show Hid _ from hk1)
              have HK2' := (show Hid _ from hk2)
              have HK3' := (show Hid _ from hKd3)
              clear hk1 hk2 hKd3
              gi_wp2
              have b6 := rB.set (.bool true)
              have hB : Keeps (fun _ => False) w (W3.setCell ⟨w.heap.size + 1, 0, none⟩ (.bool true)) := (Kw6.trans' KW3 (fun _ _ e => e) (fun i hi e => by omega)).setCell (p := ⟨w.heap.size + 1, 0, none⟩) (fun hh => by simp at hh; omega) _
              have h3 := (KeepsOthers.setCell W3 ⟨w.heap.size + 1, 0, none⟩ (.bool true)).same D3 _ HK3'.out rfl
              have h2 := (KeepsOthers.setCell W3 ⟨w.heap.size + 1, 0, none⟩ (.bool true)).same D2 _ HK2'.out rfl
              have h1 := (KeepsOthers.setCell W3 ⟨w.heap.size + 1, 0, none⟩ (.bool true)).same D _ HK1'.out rfl
              generalize W3.setCell ⟨w.heap.size + 1, 0, none⟩ (.bool true) = W4 at b6 hB h3 h2 h1 ⊢
              have e23 : D2 ≠ D3 := by omega
              have e13 : D ≠ D3 := by omega
              have e12 : D ≠ D2 := by omega
              refine ⟨by simp, .inl ⟨_, _, rfl, run_takeDeferred h3, ?_⟩⟩
              have k3' := grownBy_putObj' W4 D3 (.deferred none)
              have b7 := boxed_kept b6 k3' (fun r e => by cases e; exact ⟨_, h3, rfl⟩)
              have hB3 := hB.grown k3' (fun i hi e => by cases e; omega)
              have h2' := (k3'.block D2 (Array.getElem?_eq_some_iff.1 h2).1 (by simpa using e23)).trans h2
              have h1' := (k3'.block D (Array.getElem?_eq_some_iff.1 h1).1 (by simpa using e13)).trans h1
              generalize W4.putObj D3 (.deferred none) = W5 at b7 hB3 h2' h1' ⊢
              refine ⟨by simp, .inl ⟨_, _, rfl, run_takeDeferred h2', ?_⟩⟩
              have k2' := grownBy_putObj' W5 D2 (.deferred none)
              have b8 := boxed_kept b7 k2' (fun r e => by cases e; exact ⟨_, h2', rfl⟩)
              have hB2 := hB3.grown k2' (fun i hi e => by cases e; omega)
              have h1'' := (k2'.block D (Array.getElem?_eq_some_iff.1 h1').1 (by simpa using e12)).trans h1'
              generalize W5.putObj D2 (.deferred none) = W6 at b8 hB2 h1'' ⊢
              refine ⟨by simp, .inl ⟨_, _, rfl, run_takeDeferred h1'', ?_⟩⟩
              have k1' := grownBy_putObj' W6 D (.deferred none)
              have b9 := boxed_kept b8 k1' (fun r e => by cases e; exact ⟨_, h1'', rfl⟩)
              have hB1 := hB2.grown k1' (fun i hi e => by cases e; omega)
              generalize W6.putObj D (.deferred none) = W7 at b9 hB1 ⊢
              have c9 := b9.cell
              refine ⟨.bool true, ?_, rfl, hB1⟩
              simp [results, Try.f6, go_sem, c9]

      refine wpIn_rangeFunc_ownH (α := Fin M) rfl (by omega) (gf := gf) (lb := lb) rfl trivial eg
        (HG3.out 5 w6 (fun k => k = wr.heap.size) (by omega) (by simpa using k36) (fun k e => by subst e; right; omega)) keepsK_t keepsK_b (Below.refl _ _) (fun _ => rfl)
        (fun pre W => CI w6 wr.heap.size W pre.length)
        (fun cd pre W => (cd = .ret ∧ ∃ (p : List (Fin M)) (x : Fin M), pre = p ++ [x] ∧ (x : Nat) ≠ p.length) ∨ (cd = .exit 2 ∧ CI w6 wr.heap.size W pre.length ∧ (pre.length : Int) = stop))
        (fun pre A B row hs hg hr => hs.kept hg (fun r e => ⟨(hr r e).1, (hr r e).2⟩))
        (fun cd pre A B row hs hg hr => hs.imp_right (fun hh => ⟨hh.1, hh.2.1.kept hg (fun r e => ⟨(hr r e).1, (hr r e).2⟩), hh.2.2⟩))
        ⟨Keeps.refl _ _, bA⟩
        (fun x av W => ∃ Bx, w6.heap.size ≤ Bx ∧ CA W Bx (c x) ∧ av = { tmps := #[.int .i64 n, .slice a m cap, .int .i64 stop, undef, undef, .pointer (some ⟨w.heap.size, 0, none⟩), .pointer (some ⟨w.heap.size + 1, 0, none⟩), .slice a1 m cap1, .pointer (some ⟨w2.heap.size, 0, none⟩), .func (.func gf) #[] lb, .pointer (some ⟨w4.heap.size, 0, none⟩), .int .i64 (m : Int), .pointer (some ⟨wr.heap.size, 0, none⟩), .pointer (some ⟨Bx, 0, none⟩), undef, undef, undef, undef, .slice (some ⟨w.heap.size + 1 + 1, 0, none⟩) 0 0, .slice a m cap, .slice a1 m cap1, .int .i64 n, .slice a m cap, .slice a2 M cap2, .int .i64 n, .slice a1 m cap1, .func (.func gf) #[] lb, .slice (some ⟨w3.heap.size, 0, none⟩) 3 3, .func (.func 21) #[] #[.pointer (some ⟨B3, 0, none⟩), .pointer (some ⟨B4, 0, none⟩)], .func (.func gf) #[] lb, .bool false, .bool false, .func (.func 21) #[] #[.pointer (some ⟨B3, 0, none⟩), .pointer (some ⟨B4, 0, none⟩)], .bool false, .bool false, .int .i64 (m : Int), .slice a1 m cap1, .int .i64 (m : Int), .bool false, u39, u40, u41, u42, u43, u44, u45, u46, u47, u48, u49, u50, u51, u52, u53, u54, u55, u56, u57, .func (.func gf) #[] lb, .agg #[.int .i64 (c x).th, .int .i64 ((c x).fr : Int), .int .i64 ((c x).len : Int)], undef, undef, undef, undef, undef, undef, undef, undef, undef, undef, undef, undef, undef, undef, undef, undef, undef, undef, undef, undef, undef, undef, undef, undef, undef, undef, undef, undef, undef, undef, undef, undef, undef, undef, undef, undef, undef, undef, undef, undef, undef, undef, undef, undef, undef, undef, undef, undef, undef, undef, undef, undef, undef, undef, undef, undef, undef, undef, undef, undef, undef, undef, undef, undef, undef, undef, undef, undef, undef, undef, undef, undef, undef, undef, undef, undef, undef, undef, undef, undef, undef, undef, undef, undef, undef, undef, undef, undef, undef, undef, undef, undef, undef, undef, undef, undef, undef, undef, undef, undef, undef, undef, undef, undef, undef, undef, undef, undef], defers := [] })
        (fun x av _ W W' row hs hg hr => by
          obtain ⟨Bx, h0, h1, e⟩ := hs
          exact ⟨Bx, h0, h1.kept hg (fun r e => (hr r e).2), e⟩) ?assign ?body ?done ?stop
      case assign =>
        rintro l pre x W K hI hK
        obtain ⟨cx, hcx⟩ : ∃ cx, Hid (cx = c x) := ⟨_, rfl⟩
        rw [← hcx.out]
        simp only [encu]
        gi_wp2
        exact hK _ _ ((KeepsOthers.alloc _ _).from _) ((Keeps.refl _ W).alloc _) (hI.new ((Keeps.refl _ W).alloc _)) ⟨W.heap.size, hI.kp.size, by rw [← hcx.out]; exact ⟨by simp, by simp, by simp, by simp, by simp, by simp⟩, by rw [← hcx.out]⟩
      case body =>
        rintro l pre x av W hl _ hI ⟨Bx, hBx, hC, rfl⟩ hlt
        obtain ⟨k, hk⟩ : ∃ k, Hid (k = pre.length) := ⟨_, rfl⟩
        rw [← hk.out] at hI hlt
        obtain ⟨g2, rfl, hg2, hcs⟩ := HW6.out.resolve_left (by omega)
        have hkk := hI.kp
        have nH : ∀ k, k < w4.heap.size + 1 → ¬ (k = wr.heap.size ∨ w6.heap.size ≤ k) := fun k hk => by omega
        obtain ⟨q0, q1, q2⟩ := hcs k hlt
        have q0 := hkk.cell q0 (nH _ (by show g2 < _; omega))
        have q1 := hkk.cell q1 (nH _ (by show g2 < _; omega))
        have q2 := hkk.cell q2 (nH _ (by show g2 < _; omega))
        have s5 := (boxed_keeps bS6 hkk (nH _ (by omega))).cell
        have rB := boxed_keeps bR6 hkk (nH _ (by omega))
        have r6 := rB.cell
        have rz := rB.frozen
        have w8 := (boxed_keeps bW6 hkk (nH _ (by omega))).cell
        have a12 := hI.ba.cell
        have az := hI.ba.frozen
        have x0 := hC.c0
        have x1 := hC.c1
        have x2 := hC.c2
        have hxk : (c x).th ≠ (c k).th ∨ ((c x).th = (c k).th ∧ (c x).fr ≠ (c k).fr) ∨ ((c x).th = (c k).th ∧ (c x).fr = (c k).fr ∧ (c x).len ≠ (c k).len) ∨ ((c x).th = (c k).th ∧ (c x).fr = (c k).fr ∧ (c x).len = (c k).len) := by
          by_cases h1 : (c x).th = (c k).th
          · by_cases h2 : (c x).fr = (c k).fr
            · by_cases h3 : (c x).len = (c k).len
              · exact .inr (.inr (.inr ⟨h1, h2, h3⟩))
              · exact .inr (.inr (.inl ⟨h1, h2, h3⟩))
            · exact .inr (.inl ⟨h1, h2⟩)
          · exact .inl h1
        have hne : (x : Nat) = k → c x = c k := fun e => by rw [e]
        have HNE := (show Hid _ from hne)
        obtain ⟨cx, hcx⟩ : ∃ cx, Hid (cx = c x) := ⟨_, rfl⟩
        obtain ⟨ck, hck⟩ : ∃ ck, Hid (ck = c k) := ⟨_, rfl⟩
        rw [← hcx.out] at x0 x1 x2 hxk HNE ⊢
        rw [← hck.out] at q0 q1 q2 hxk HNE
        clear hC hcs hne
        obtain ⟨xt, xf, xl⟩ := cx
        obtain ⟨kt, kf, kl⟩ := ck
        simp only at x0 x1 x2 q0 q1 q2 hxk
        have D0 : decide ((M : Int) ≤ (k : Int)) = false := decide_eq_false (by omega)
        have D0n : decide (M ≤ k) = false := decide_eq_false (by omega)
        have hkI : (k : Int) < (M : Int) := by omega
        have hNE : Nonempty (KS W) := ⟨⟨W, Keeps.refl _ W⟩⟩
        have Q0 := ks_cell q0
        have Q1 := ks_cell q1
        have Q2 := ks_cell q2
        have X0 := ks_cell x0
        have X1 := ks_cell x1
        have X2 := ks_cell x2
        have A12 := ks_cell a12
        have W8 := ks_cell w8
        rcases hxk with h1 | ⟨h1, h2⟩ | ⟨h1, h2, h3⟩ | ⟨h1, h2, h3⟩
        · have E1 : (xt != kt) = true := by simpa using h1
          have HX : Hid ((x : Nat) ≠ k) := fun e => h1 (by have := HNE.out e; injection this)
          clear h1
          clear HNE
          gi_wp2
          refine wpIn_region_ks (by kernel_rfl) (by kernel_rfl) (by kernel_rfl) ?_
          repeat (go_big_quiet_step (fail))
          refine wpQuiet_nil ?_
          rintro _ ⟨u, rfl⟩
          have K9 := u.property
          clear Q0 Q1 Q2 X0 X1 X2 A12 W8 hNE
          generalize u.val = W9 at K9 ⊢
          have hko : KeepsOthers W W9 := ⟨K9.size, fun k o h _ => (K9.block k (Array.getElem?_eq_some_iff.1 h).1 (fun e => e)).trans h⟩
          have rB9 := boxed_keeps rB K9 (fun e => e)
          have r9 := rB9.cell
          have rz9 := rB9.frozen
          (try simp only [Exit.then])
          gi_wp2
          exact ⟨(hko.trans (KeepsOthers.setCell _ _ _)).from _, .inl ⟨rfl, pre, x, rfl, by rw [← hk.out]; exact HX.out⟩⟩
        · have E1 : (xt != kt) = false := by simpa using h1
          have E2 : ((xf : Int) != (kf : Int)) = true := by simp; omega
          have HX : Hid ((x : Nat) ≠ k) := fun e => h2 (by have := HNE.out e; injection this)
          clear h1 h2
          clear HNE
          gi_wp2
          refine wpIn_region_ks (by kernel_rfl) (by kernel_rfl) (by kernel_rfl) ?_
          repeat (go_big_quiet_step (fail))
          refine wpQuiet_nil ?_
          rintro _ ⟨u, rfl⟩
          have K9 := u.property
          clear Q0 Q1 Q2 X0 X1 X2 A12 W8 hNE
          generalize u.val = W9 at K9 ⊢
          have hko : KeepsOthers W W9 := ⟨K9.size, fun k o h _ => (K9.block k (Array.getElem?_eq_some_iff.1 h).1 (fun e => e)).trans h⟩
          have rB9 := boxed_keeps rB K9 (fun e => e)
          have r9 := rB9.cell
          have rz9 := rB9.frozen
          (try simp only [Exit.then])
          gi_wp2
          exact ⟨(hko.trans (KeepsOthers.setCell _ _ _)).from _, .inl ⟨rfl, pre, x, rfl, by rw [← hk.out]; exact HX.out⟩⟩
        · have E1 : (xt != kt) = false := by simpa using h1
          have E2 : ((xf : Int) != (kf : Int)) = false := by simp; omega
          have E3 : ((xl : Int) != (kl : Int)) = true := by simp; omega
          have HX : Hid ((x : Nat) ≠ k) := fun e => h3 (by have := HNE.out e; injection this)
          clear h1 h2 h3
          clear HNE
          gi_wp2
          refine wpIn_region_ks (by kernel_rfl) (by kernel_rfl) (by kernel_rfl) ?_
          repeat (go_big_quiet_step (fail))
          refine wpQuiet_nil ?_
          rintro _ ⟨u, rfl⟩
          have K9 := u.property
          clear Q0 Q1 Q2 X0 X1 X2 A12 W8 hNE
          generalize u.val = W9 at K9 ⊢
          have hko : KeepsOthers W W9 := ⟨K9.size, fun k o h _ => (K9.block k (Array.getElem?_eq_some_iff.1 h).1 (fun e => e)).trans h⟩
          have rB9 := boxed_keeps rB K9 (fun e => e)
          have r9 := rB9.cell
          have rz9 := rB9.frozen
          (try simp only [Exit.then])
          gi_wp2
          exact ⟨(hko.trans (KeepsOthers.setCell _ _ _)).from _, .inl ⟨rfl, pre, x, rfl, by rw [← hk.out]; exact HX.out⟩⟩
        · have E1 : (xt != kt) = false := by simpa using h1
          have E2 : ((xf : Int) != (kf : Int)) = false := by simp; omega
          have E3 : ((xl : Int) != (kl : Int)) = false := by simp; omega
          have W1 : IntKind.i64.wrap ((k : Int) + 1) = (k : Int) + 1 := by rw [IntKind.wrap_i64]; omega
          clear HNE h1 h2 h3
          gi_wp2
          refine wpIn_region_ks (by kernel_rfl) (by kernel_rfl) (by kernel_rfl) ?_
          repeat (go_big_quiet_step (fail))
          refine wpQuiet_nil ?_
          rintro _ ⟨u, rfl⟩
          have K9 := u.property
          clear Q0 Q1 Q2 X0 X1 X2 A12 W8 hNE
          generalize u.val = W9 at K9 ⊢
          have hko : KeepsOthers W W9 := ⟨K9.size, fun k o h _ => (K9.block k (Array.getElem?_eq_some_iff.1 h).1 (fun e => e)).trans h⟩
          have I9 := hI.new K9
          have a9 := I9.ba.cell
          have az9 := I9.ba.frozen
          have s9 := K9.cell s5 (fun e => e)
          have SN := (I9.set (k + 1))
          have e1 : (((k + 1 : Nat)) : Int) = (k : Int) + 1 := by omega
          rw [e1] at SN
          have HSN := (show Hid _ from SN)
          clear SN e1
          (try simp only [Exit.then])
          by_cases hst : (k : Int) + 1 = stop
          · have E4 : ((k : Int) + 1 == stop) = true := by simpa using hst
            have HST := (show Hid _ from hst)
            clear hst
            have s9' := (Keeps.setCell (Keeps.refl (fun k => k = wr.heap.size) W9) (p := ⟨wr.heap.size, 0, none⟩) (fun _ => rfl) (.int .i64 ((k : Int) + 1))).cell s9 (by show ¬ w.heap.size = wr.heap.size; omega)
            gi_wp2
            refine ⟨(hko.trans (KeepsOthers.setCell _ _ _)).from _, .inr ⟨rfl, ?_, ?_⟩⟩
            · show CI _ _ _ (pre ++ [x]).length; rw [List.length_append, List.length_singleton, ← hk.out]; exact HSN.out
            · rw [List.length_append, List.length_singleton, ← hk.out]; have := HST.out; omega
          · have E4 : ((k : Int) + 1 == stop) = false := by simpa using hst
            clear hst
            have s9' := (Keeps.setCell (Keeps.refl (fun k => k = wr.heap.size) W9) (p := ⟨wr.heap.size, 0, none⟩) (fun _ => rfl) (.int .i64 ((k : Int) + 1))).cell s9 (by show ¬ w.heap.size = wr.heap.size; omega)
            gi_wp2
            refine ⟨(hko.trans (KeepsOthers.setCell _ _ _)).from _, (K9.mono (fun _ _ e => e.elim)).setCell (p := ⟨wr.heap.size, 0, none⟩) (fun _ => .inl rfl) _, ?_⟩
            show CI _ _ _ (pre ++ [x]).length; rw [List.length_append, List.length_singleton, ← hk.out]; exact HSN.out

      case done =>
        rintro D ys W hD rfl hI hK
        rw [idx_length (Nat.le_refl _)] at hI
        exact hrest D W M hD (Nat.le_refl _) (.inl rfl) hI hK
      case stop =>
        rintro D cd pre W hD ⟨k, hk0, hk, rfl⟩ (⟨rfl, p, x, e1, e3⟩ | ⟨rfl, hI, he⟩) hK
        · exfalso
          have := idx_succ (N := M) (k := k - 1) (by omega)
          rw [show k - 1 + 1 = k by omega, e1] at this
          obtain ⟨h1, h2⟩ := List.append_inj' this rfl
          simp only [List.cons.injEq, and_true] at h2
          exact e3 (by rw [h2, h1, idx_length (by omega)])
        · rw [idx_length hk] at hI he
          gi_wp2
          exact hrest D W k hD hk (.inr he) hI hK
end Go.Proofs.Ytgfjhogogajbjaa
