import Derived.Test.YtgfjhogogajbjaaSchSq
namespace Go.Proofs.Ytgfjhogogajbjaa
open Go.RowKit Go.Shelf
attribute [local go_sem] Oper.semAt_some

theorem max_run (x y : Int) (w : World) : (Builtin.max_ #[3, 3] 3 #[.int .i64 x, .int .i64 y]).run Try.prog w = .ok (.int .i64 (max x y)) w := by
  by_cases h : x < y
  · have e : max x y = y := by omega
    rw [e]; simp [Builtin.max_, Builtin.max2, h]
  · have e : max x y = x := by omega
    rw [e]; simp [Builtin.max_, Builtin.max2, h]
theorem block_kept {A B : World} {row : Option Nat} {b : Nat} {cs : Array Value} {t : TypeId} {fr : Nat × Nat} (h : A.heap[b]? = some (.cells cs t fr)) (hg : A.grownBy B row) (hr : ∀ r, row = some r → ∃ o : Obj, A.heap[r]? = some o ∧ o.isCells = false) : B.heap[b]? = some (.cells cs t fr) :=
  (grownBy_keeps_cells hg hr h rfl).trans h
theorem boxed_kept {A B : World} {row : Option Nat} {b t : Nat} {v : Value} (hb : Boxed A b t v) (hg : A.grownBy B row) (hr : ∀ r, row = some r → ∃ o : Obj, A.heap[r]? = some o ∧ o.isCells = false) : Boxed B b t v :=
  hb.kept hg (fun e' => by obtain ⟨o, ho, hc⟩ := hr _ e'.symm; rw [show _ = _ from hb] at ho; cases ho; cases hc)
theorem cut_ok {f : Nat → Int} {m M : Nat} (hM : Many f m M) (x : Fin M) : (cut f m x).fr + (cut f m x).len ≤ m ∧ (cut f m x).fr + (cut f m x).len = pos f m (x + 1) ∧ 0 < (cut f m x).len := by
  have h1 := pos_lt (hM.2.2 x x.2)
  have h2 := pos_le f m (x + 1)
  simp only [cut]
  omega

/-- What Least has: the places behind the last picks and the longest. -/
structure LI (w : World) (H : Nat) (W : World) (L : Nat) (bs : Nat → Nat) : Prop where
  ar : ∀ t, t < 6 → W.cell? ⟨w.heap.size, t, none⟩ = some (.int .i64 (bs t : Int))
  az : ∀ t, t < 6 → W.frozen? ⟨w.heap.size, t, none⟩ = false
  lg : Boxed W (w.heap.size + 1) 3 (.int .i64 (L : Int))
  bl : ∀ t, t < 6 → bs t ≤ 4096
  ll : L ≤ 4096
  below : Below w.heap.size w W
  size : H ≤ W.heap.size
theorem LI.kept {w : World} {H : Nat} {A B : World} {L : Nat} {bs : Nat → Nat} {row : Option Nat} (h : LI w H A L bs) (hw : w.heap.size < H) (hg : A.grownBy B row) (hr : ∀ r, row = some r → H ≤ r ∧ ∃ o : Obj, A.heap[r]? = some o ∧ o.isCells = false) : LI w H B L bs :=
  have hr' : ∀ r, row = some r → ∃ o : Obj, A.heap[r]? = some o ∧ o.isCells = false := fun r e => (hr r e).2
  ⟨fun t ht => cell_kept (h.ar t ht) hg hr', fun t ht => (frozen_kept (h.ar t ht) hg hr').trans (h.az t ht), boxed_kept h.lg hg hr', h.bl, h.ll, h.below.grown hg (by have := h.size; omega) (fun k e => by have := (hr k e).1; omega), Nat.le_trans h.size hg.size⟩
theorem LI.alloc {w : World} {H : Nat} {A : World} {L : Nat} {bs : Nat → Nat} (h : LI w H A L bs) (hw : w.heap.size < H) (o : Obj) : LI w H (A.alloc o) L bs := h.kept hw (World.grownBy_alloc A o none) (fun _ e => by cases e)
theorem LI.long {w : World} {H : Nat} {A : World} {L : Nat} {bs : Nat → Nat} (h : LI w H A L bs) (L' : Nat) (hl : L' ≤ 4096) : LI w H (A.setCell ⟨w.heap.size + 1, 0, none⟩ (.int .i64 (L' : Int))) L' bs where
  ar t ht := (World.cell?_setCell_far A ⟨w.heap.size + 1, 0, none⟩ ⟨w.heap.size, t, none⟩ _ (by simp)).trans (h.ar t ht)
  az t ht := by rw [World.frozen?_setCell]; exact h.az t ht
  lg := h.lg.set _
  bl := h.bl
  ll := hl
  below := h.below.setCell (p := ⟨w.heap.size + 1, 0, none⟩) (by show w.heap.size ≤ w.heap.size + 1; omega) _
  size := by simpa using h.size
theorem LI.put {w : World} {H : Nat} {A : World} {L : Nat} {bs : Nat → Nat} (h : LI w H A L bs) (t b : Nat) (ht : t < 6) (hb : b ≤ 4096) : LI w H (A.setCell ⟨w.heap.size, t, none⟩ (.int .i64 (b : Int))) L (fun t' => if t' = t then b else bs t') where
  ar t' ht' := by
    by_cases e : t' = t
    · rw [e, if_pos rfl]; exact World.cell?_setCell_same (h := h.ar t ht) ..
    · rw [if_neg e]; exact (World.cell?_setCell_other (h := by intro e'; cases e'; exact e rfl) ..).trans (h.ar t' ht')
  az t' ht' := by rw [World.frozen?_setCell]; exact h.az t' ht'
  lg := (Below.heap_setCell A ⟨w.heap.size, t, none⟩ _ (w.heap.size + 1) (by show w.heap.size + 1 ≠ w.heap.size; omega)).trans h.lg
  bl t' ht' := by
    show (if t' = t then b else bs t') ≤ 4096
    split
    · exact hb
    · exact h.bl t' ht'
  ll := h.ll
  below := h.below.setCell (p := ⟨w.heap.size, t, none⟩) (by show w.heap.size ≤ w.heap.size; omega) _
  size := by simpa using h.size

theorem LI.drew {w : World} {H : Nat} {A : World} {L : Nat} {bs : Nat → Nat} (h : LI w H A L bs) : LI w H A.drew L bs := ⟨h.ar, h.az, h.lg, h.bl, h.ll, ⟨h.below.os, h.below.tape, h.below.output, h.below.size, h.below.block⟩, h.size⟩

set_option maxRecDepth 100000 in
set_option maxHeartbeats 6400000 in
theorem least_in {w : World} {a : Option Addr} {m cap nt : Nat} {z : Nat → Int} (h : NL w a m z) (hn : 1 ≤ nt ∧ nt ≤ 6) (hm : m ≤ 4096) :
    CallsIn Fence.wide 5 Try.prog 9 #[.int .i64 (nt : Int), .slice a m cap] w fun e w' => ∃ R, Gap (nmf nt z) m nt R ∧ e = .returned (.tuple #[.int .i64 ((R : Int) + 1), .int .i64 0]) ∧ Keeps (fun _ => False) w w' := by
  have hz : rfz (nt : Int) m = 0 := by unfold rfz; rw [if_neg (by omega), if_neg (by omega)]
  have hf := fun (w : World) => callsIn_wide (n := 4).2 (refuse_any w (nt : Int) a m cap)
  rw [hz] at hf
  have K0 : ∀ o o', Keeps (fun _ => False) w ((w.alloc o).alloc o') := fun o o' => ((Keeps.refl _ w).alloc o).alloc o'
  have hs := fun o o' => callsIn_wide (n := 4).2 (stretches_any (cap := cap) (h.new (K0 o o')) hn hm)
  refine callsIn_of_wp_marks Try.func9 rfl trivial ?_
  simp only [Try.ntmps9, List.size_toArray, List.length_cons, List.length_nil, Nat.reduceAdd, Nat.reduceSub, Array.replicate_succ, Array.replicate_zero, List.push_toArray, List.append_toArray, List.nil_append, List.cons_append]
  clear hz
  gi_wp2_with (first | (refine ⟨trivial, ?_⟩; gi_at_call 16; refine (hf _).mono ?_; rintro e w ⟨rfl, rfl⟩) | (refine ⟨trivial, ?_⟩; gi_at_call 12; refine (hs _ _).mono ?_; rintro e w3 ⟨B1, B2, a', cap', rfl, hq⟩))
  have z3 : w.heap.size + 2 ≤ w3.heap.size := by simpa using hq.keeps.size
  have q1 : w.heap.size + 2 ≤ B1 := by simpa using hq.n1
  have q2 : w.heap.size + 2 ≤ B2 := by simpa using hq.n2
  obtain ⟨M, hM⟩ := many (nmf nt z) m
  have I0 : LI w w3.heap.size w3 0 (fun _ => 0) := {
    ar := fun t ht => hq.keeps.cell (by
      rcases (by omega : t = 0 ∨ t = 1 ∨ t = 2 ∨ t = 3 ∨ t = 4 ∨ t = 5) with rfl | rfl | rfl | rfl | rfl | rfl <;> simp) (fun e => e)
    az := fun t ht => (hq.keeps.frozen (p := ⟨w.heap.size, t, none⟩) (by simp; omega) (fun e => e)).trans (by simp)
    lg := (hq.keeps.block (w.heap.size + 1) (by simp) (fun e => e)).trans (by have := World.alloc_heap_new (w.alloc (.cells #[.int .i64 0, .int .i64 0, .int .i64 0, .int .i64 0, .int .i64 0, .int .i64 0] 48)) (.cells #[.int .i64 0] 3); rwa [World.size_alloc] at this)
    bl := fun _ _ => Nat.zero_le _
    ll := Nat.zero_le _
    below := ((K0 _ _).trans hq.keeps).below (Nat.le_refl _) (fun _ _ e => e)
    size := Nat.le_refl _ }
  have hsv := hq.sv (T := fun k => k = w.heap.size ∨ k = w.heap.size + 1) (fun k e => by rcases e with rfl | rfl <;> simp <;> omega)
  clear hs hf K0 h
  refine wpIn_rangeFunc_ownH (α := Fin M) rfl (by omega) (gf := 21) (lb := #[.pointer (some ⟨B1, 0, none⟩), .pointer (some ⟨B2, 0, none⟩)]) rfl trivial (enters_of Try.func21 (by kernel_rfl) rfl)
    (cut_stops 4 (by omega) hq hm hM (Keeps (fun k => (k = w.heap.size ∨ k = w.heap.size + 1) ∨ w3.heap.size ≤ k)) hsv) keepsK_t keepsK_b (Below.refl _ _) (fun _ => rfl)
    (fun pre W => ∃ L bs, LI w w3.heap.size W L bs ∧ (pre = idx M pre.length → Far (nmf nt z) nt (pos (nmf nt z) m pre.length) L bs))
    (fun _ _ _ => False)
    (fun pre A B row hs hg hr => by obtain ⟨L, bs, h1, h2⟩ := hs; exact ⟨L, bs, h1.kept (by omega) hg hr, h2⟩)
    (fun _ _ _ _ _ hs _ _ => hs)
    ⟨0, _, I0, fun _ => Far.zero _ _⟩
    (fun x av W => ∃ Bx c, c = cut (nmf nt z) m x ∧ w.heap.size + 1 < Bx ∧ W.cell? ⟨Bx, 0, none⟩ = some (.int .i64 c.th) ∧ W.cell? ⟨Bx, 1, none⟩ = some (.int .i64 (c.fr : Int)) ∧ W.cell? ⟨Bx, 2, none⟩ = some (.int .i64 (c.len : Int)) ∧ av = { tmps := #[.int .i64 (nt : Int), .slice a m cap, undef, undef, .int .i64 0, .int .i64 0, .int .i64 0, .pointer (some ⟨w.heap.size, 0, none⟩), .pointer (some ⟨w.heap.size + 1, 0, none⟩), .pointer (some ⟨Bx, 0, none⟩), undef, undef, .int .i64 (nt : Int), .slice a m cap, .int .i64 0, .int .i64 0, .bool false, undef, .int .i64 (nt : Int), .slice a m cap, .func (.func 21) #[] #[.pointer (some ⟨B1, 0, none⟩), .pointer (some ⟨B2, 0, none⟩)], .agg #[.int .i64 c.th, .int .i64 (c.fr : Int), .int .i64 (c.len : Int)], undef, undef, undef, undef, undef, undef, undef, undef, undef, undef, undef, undef, undef, undef, undef, undef, undef, undef, undef, undef, undef, undef, undef, undef, undef, undef, undef, undef, undef, undef, undef, undef, undef, undef, undef, undef], defers := [] })
    (fun x av _ W W' row hs hg hr => by
      obtain ⟨Bx, c, hc, h0, h1, h2, h3, e⟩ := hs
      have k : ∀ {p : Addr} {v : Value}, W.cell? p = some v → W'.cell? p = some v := fun hc => cell_kept hc hg (fun r e => (hr r e).2)
      exact ⟨Bx, c, hc, h0, k h1, k h2, k h3, e⟩) ?assign ?body ?done ?stop
  case assign =>
    rintro l pre x W K ⟨L, bs, hI, hF⟩ hK
    obtain ⟨c, hc⟩ : ∃ c, Hid (c = cut (nmf nt z) m x) := ⟨_, rfl⟩
    rw [← hc.out]
    simp only [encu]
    have hsz := hI.size
    gi_wp2
    exact hK _ _ ((KeepsOthers.alloc _ _).from _) ((Keeps.refl _ W).alloc _) ⟨L, bs, hI.alloc (by omega) _, hF⟩ ⟨W.heap.size, c, hc.out, by omega, by simp, by simp, by simp, rfl⟩
  case body =>
    rintro l pre x av W hl _ ⟨L, bs, hI, hF⟩ ⟨Bx, c, hc, hBx, h0, h1, h2, rfl⟩ hlt
    have hok := cut_ok hM x
    rw [← hc] at hok
    have hth : -1 ≤ c.th ∧ c.th < nt := by rw [hc]; exact ⟨nmz_lo _ _, nmz_hi _ _⟩
    have hsame : ∀ j, c.fr ≤ j → j < c.fr + c.len → nmf nt z j = c.th := fun j j1 j2 => by
      rw [hok.2.1] at j2
      rw [hc] at j1 ⊢
      exact pos_same (hM.2.2 x x.2) j j1 j2
    have hp1 : (pre ++ [x]).length = pre.length + 1 := by simp
    have hpos : ∀ h : pre ++ [x] = idx M (pre.length + 1), Far (nmf nt z) nt c.fr L bs ∧ c.fr + c.len = pos (nmf nt z) m (pre.length + 1) := fun h => by
      obtain ⟨e1, e2⟩ := idx_snoc h hlt
      have := hF e1
      rw [← e2] at this ⊢
      exact ⟨by rw [hc]; exact this, hok.2.1⟩
    have HSAME := (show Hid _ from hsame)
    have HPOS := (show Hid _ from hpos)
    clear hsame hpos hF hc
    obtain ⟨th, fr, ln⟩ := c
    simp only at h0 h1 h2 hth hok ⊢
    have hok1 := hok.1
    have hok2 := hok.2.2
    clear hok
    have c8 := hI.lg.cell
    have z8 := hI.lg.frozen
    by_cases hx : th = -1
    · subst hx
      gi_wp2
      refine ⟨KeepsFrom.refl _ _, Keeps.refl _ _, L, bs, hI, fun e => ?_⟩
      rw [hp1] at e ⊢
      obtain ⟨e1, e2⟩ := HPOS.out e
      rw [← e2]
      exact e1.none (by omega) HSAME.out
    · obtain ⟨t, rfl⟩ : ∃ t : Nat, th = (t : Int) := ⟨th.toNat, by omega⟩
      have ht6 : t < 6 := by omega
      have htI : (t : Int) < 6 := by omega
      have hxb : ((t : Int) == -1) = false := by simp <;> omega
      have cb := hI.ar t ht6
      have zb := hI.az t ht6
      have hbl := hI.bl t ht6
      have hll := hI.ll
      have hmr := max_run
      have hmx : Try.prog.follows .mixedOrders = true := by kernel_rfl
      have cb' := fun v => (World.cell?_setCell_far W ⟨w.heap.size + 1, 0, none⟩ ⟨w.heap.size, t, none⟩ v (by simp)).trans cb
      have h0' := fun v => (World.cell?_setCell_far W ⟨w.heap.size + 1, 0, none⟩ ⟨Bx, 0, none⟩ v (by show w.heap.size + 1 ≠ Bx; omega)).trans h0
      have h1' := fun v => (World.cell?_setCell_far W ⟨w.heap.size + 1, 0, none⟩ ⟨Bx, 1, none⟩ v (by show w.heap.size + 1 ≠ Bx; omega)).trans h1
      have h2' := fun v => (World.cell?_setCell_far W ⟨w.heap.size + 1, 0, none⟩ ⟨Bx, 2, none⟩ v (by show w.heap.size + 1 ≠ Bx; omega)).trans h2
      have ew : IntKind.i64.wrap ((fr : Int) - (bs t : Int)) = (fr : Int) - (bs t : Int) := by rw [IntKind.wrap_i64]; omega
      clear hx
      gi_wp2
      refine wpIn_mono (Q := fun e a' w' => e = .normal ∧ a' = { tmps := #[.int .i64 (nt : Int), .slice a m cap, undef, undef, .int .i64 0, .int .i64 0, .int .i64 0, .pointer (some ⟨w.heap.size, 0, none⟩), .pointer (some ⟨w.heap.size + 1, 0, none⟩), .pointer (some ⟨Bx, 0, none⟩), undef, undef, .int .i64 (nt : Int), .slice a m cap, .int .i64 0, .int .i64 0, .bool false, undef, .int .i64 (nt : Int), .slice a m cap, .func (.func 21) #[] #[.pointer (some ⟨B1, 0, none⟩), .pointer (some ⟨B2, 0, none⟩)], .agg #[.int .i64 (t : Int), .int .i64 (fr : Int), .int .i64 (ln : Int)], .pointer (some ⟨Bx, 0, none⟩), .int .i64 (t : Int), .bool false, .int .i64 (L : Int), .pointer (some ⟨Bx, 1, none⟩), .int .i64 (fr : Int), .pointer (some ⟨Bx, 0, none⟩), .int .i64 (t : Int), .pointer (some ⟨w.heap.size, t, none⟩), .int .i64 (bs t : Int), .int .i64 ((fr : Int) - (bs t : Int)), .int .i64 (max (L : Int) ((fr : Int) - (bs t : Int))), undef, undef, undef, undef, undef, undef, undef, undef, undef, undef, undef, undef, undef, undef, undef, undef, undef, undef, undef, undef, undef, undef, undef, undef], defers := [] } ∧ w' = (W.setCell ⟨w.heap.size + 1, 0, none⟩ (.int .i64 (max (L : Int) ((fr : Int) - (bs t : Int))))).drew) ?_ ?_
      · gi_region_with_o fail
        all_goals exact ⟨rfl, rfl, rfl⟩
      · rintro e a2 w2 ⟨rfl, rfl, rfl⟩
        (try simp only [Exit.then])
        have e1 : max (L : Int) ((fr : Int) - (bs t : Int)) = ((max L (fr - bs t) : Nat) : Int) := by omega
        rw [e1] at ⊢
        have hL2 := (hI.long (max L (fr - bs t)) (by omega)).drew
        have hL3 := hL2.put t (fr + ln) ht6 (by omega)
        have d0 := h0' (.int .i64 ((max L (fr - bs t) : Nat) : Int))
        have d1 := h1' (.int .i64 ((max L (fr - bs t) : Nat) : Int))
        have d2 := h2' (.int .i64 ((max L (fr - bs t) : Nat) : Int))
        have c3 := hL2.ar t ht6
        have z3 := hL2.az t ht6
        have e2 : (fr : Int) + (ln : Int) = ((fr + ln : Nat) : Int) := by omega
        rw [← e2] at hL3
        have HL3 : Hid (LI w w3.heap.size _ _ _) := hL3
        clear hL2 hL3 e1 e2 h0' h1' h2' cb' ew hmr c8 z8 cb zb h0 h1 h2
        have hko : KeepsOthers W (W.setCell ⟨w.heap.size + 1, 0, none⟩ (.int .i64 ((max L (fr - bs t) : Nat) : Int))).drew := (KeepsOthers.setCell _ _ _).trans (KeepsOthers.drew _)
        have hkk : Keeps (fun k => (k = w.heap.size ∨ k = w.heap.size + 1) ∨ w3.heap.size ≤ k) W (W.setCell ⟨w.heap.size + 1, 0, none⟩ (.int .i64 ((max L (fr - bs t) : Nat) : Int))).drew := ((Keeps.refl _ W).setCell (p := ⟨w.heap.size + 1, 0, none⟩) (fun _ => .inl (.inr rfl)) _).drew
        generalize hW2 : (W.setCell ⟨w.heap.size + 1, 0, none⟩ (.int .i64 ((max L (fr - bs t) : Nat) : Int))).drew = W2 at *
        have d0 : W2.cell? ⟨Bx, 0, none⟩ = some (.int .i64 (t : Int)) := by rw [← hW2]; exact d0
        have d1 : W2.cell? ⟨Bx, 1, none⟩ = some (.int .i64 (fr : Int)) := by rw [← hW2]; exact d1
        have d2 : W2.cell? ⟨Bx, 2, none⟩ = some (.int .i64 (ln : Int)) := by rw [← hW2]; exact d2
        clear hW2
        gi_wp2
        refine ⟨(hko.trans (KeepsOthers.setCell _ _ _)).from _, hkk.setCell (p := ⟨w.heap.size, t, none⟩) (fun _ => .inl (.inl rfl)) _, _, _, HL3.out, fun e => ?_⟩
        rw [hp1] at e ⊢
        obtain ⟨e1, e2⟩ := HPOS.out e
        rw [← e2]
        exact e1.some (u := t) (by omega) (by omega) HSAME.out
  case done =>
    rintro D ys W hD rfl ⟨L, bs, hI, hF⟩ hK
    have hF := hF (by rw [idx_length (Nat.le_refl _)])
    rw [idx_length (Nat.le_refl _), hM.2.1] at hF
    have hmr := max_run
    have hnI : (nt : Int) ≤ 6 := by omega
    have hn0 : (0 : Int) ≤ (nt : Int) := by omega
    gi_wp2
    gi_loopw [45] (fun i wr => ∃ q L' : Nat, q ≤ nt ∧ i = .int .i64 (q : Int) ∧ LI w w3.heap.size wr L' bs ∧ Fin_ (nmf nt z) nt m bs q L' ∧ wr.heap[D]? = some (.deferred (some []))) (fun i _ => nt - (intOf i).toNat)
    case atStart => exact ⟨0, L, Nat.zero_le _, rfl, hI, hF.fin, hK⟩
    case round =>
      obtain ⟨q, L', hq, rfl, hI', hG, hK'⟩ := hrel
      by_cases hlt : q < nt
      · have hltI : (q : Int) < (nt : Int) := by omega
        have cq := hI'.ar q (by omega)
        have cl := hI'.lg.cell
        have zl := hI'.lg.frozen
        have hbl := hI'.bl q (by omega)
        have hll := hI'.ll
        have ew : IntKind.i64.wrap ((m : Int) - (bs q : Int)) = (m : Int) - (bs q : Int) := by rw [IntKind.wrap_i64]; omega
        have e1 : max (L' : Int) ((m : Int) - (bs q : Int)) = ((max L' (m - bs q) : Nat) : Int) := by omega
        have HE1 := (show Hid _ from e1)
        have HG := (show Hid _ from hG.next hF hlt)
        clear e1 hG
        gi_wp2
        go_roundw
        case rel => exact ⟨q + 1, max L' (m - bs q), by omega, by go_num, by rw [HE1.out]; exact hI'.long _ (by omega), HG.out, (KeepsOthers.setCell _ _ _).same D _ hK' rfl⟩
        case measure => simp [intOf]; omega
      · have hltI : ¬ (q : Int) < (nt : Int) := by omega
        obtain rfl : q = nt := by omega
        have cl := hI'.lg.cell
        have hll := hI'.ll
        gi_wp2
        refine ⟨by simp, .inl ⟨_, _, rfl, run_takeDeferred hK', ?_⟩⟩
        have b9 := hI'.below.trans (belowK_b (w := w) (Nat.le_refl _) _ D _ (.deferred none) (by omega) hK' rfl rfl)
        refine ⟨.tuple #[.int .i64 ((L' : Int) + 1), .int .i64 0], ?_, L', hG.gap (by omega), rfl, b9.os, b9.tape, b9.output, b9.size, fun k hk _ => b9.block k hk⟩
        simp [results, Try.f9, go_sem]
  case stop => exact fun D cd pre W _ _ hf => hf.elim
end Go.Proofs.Ytgfjhogogajbjaa
