import Derived.Test.YtgfjhogogajbjabSchSq
import Derived.Test.YtgfjhogogajbjabSchRep
import Derived.Test.YtgfjhogogajbjabRoundAny
namespace Go.Proofs.Ytgfjhogogajbjab
open Go.RowKit Go.Shelf
attribute [local go_sem] Oper.semAt_some

/-- A plan: its block, its names. -/
structure PL (w : World) (pb : Nat) (vs : Value) (nt m : Nat) (f : Nat → Int) (at_ : Nat) (fin : Nat → Bool) : Prop where
  c0 : w.cell? ⟨pb, 0, none⟩ = some (.int .i64 (nt : Int))
  c1 : w.cell? ⟨pb, 1, none⟩ = some vs
  c2 : w.cell? ⟨pb, 2, none⟩ = some (.int .i64 (at_ : Int))
  cf : ∀ t, t < 6 → w.cell? ⟨pb, 3 + t, none⟩ = some (.bool (fin t))
  zz : ∀ t, t < 9 → w.frozen? ⟨pb, t, none⟩ = false
  nm : w.ownsRow 0 3 1 vs m (nums f m)
  ne : ∀ g, vs.ownBlock = some g → g ≠ pb

theorem others_of {S : Nat → Prop} {W W' : World} (k : Keeps S W W') (hS : ∀ i, S i → ∀ o : Obj, W.heap[i]? = some o → o.isCells = true) : KeepsOthers W W' :=
  ⟨k.size, fun i o ho hc => by
    have hi : i < W.heap.size := by
      rcases Nat.lt_or_ge i W.heap.size with h | h
      · exact h
      · rw [Array.getElem?_eq_none h] at ho; cases ho
    by_cases e : S i
    · rw [hS i e o ho] at hc; cases hc
    · exact (k.block i hi e).trans ho⟩

theorem heap_put {w : World} {b o : Nat} {cs : Array Value} {t : TypeId} (h : w.heap[b]? = some (.cells cs t (0, 0))) (v : Value) : (w.setCell ⟨b, o, none⟩ v).heap[b]? = some (.cells (cs.setIfInBounds o v) t (0, 0)) := by
  have hlt : b < w.heap.size := (Array.getElem?_eq_some_iff.1 h).1
  have hv : w.heap[b] = .cells cs t (0, 0) := (Array.getElem?_eq_some_iff.1 h).2
  simp [World.setCell, hlt, Array.getElem_modify, hv]
theorem frozen_cells {w : World} {b o : Nat} {cs : Array Value} {t : TypeId} (h : w.heap[b]? = some (.cells cs t (0, 0))) : w.frozen? ⟨b, o, none⟩ = false := by
  simp [World.frozen?, h]
theorem cell_cells {w : World} {b o : Nat} {cs : Array Value} {t : TypeId} {v : Value} (h : w.heap[b]? = some (.cells cs t (0, 0))) (hv : cs[o]? = some v) : w.cell? ⟨b, o, none⟩ = some v := by
  simp [World.cell?, h, hv]
/-- An append whose run is known, as a step of a region that draws its order. -/
theorem step_append_run {P : Program} {ops : Array Oper} {o : Oper} {a : Act} {w : World} {K : Act → World → Prop} {Q : Exit → Act → World → Prop} {E : Prop} (hgd : o.guard = none) (s x : Operand) (t : TypeId)
    (ho : o.op = .call { callee := .builtin .append, args := #[s, x], argTypes := #[t, t] }) (v src v' : Value) (w' : World) (hs : a.eval s = v) (hx : a.eval x = src)
    (hr : (Builtin.append_ #[t, t] o.type #[v, src]).run P w = .ok v' w') (h : K (a.put o.dst v') w') : if Region.wanted o (yielded ops a.tmps) = true then Oper.wp P o a w K Q else E := by
  have hw : Region.wanted o (yielded ops a.tmps) = true := by simp [Region.wanted, hgd]
  rw [if_pos hw]
  unfold Oper.wp execOp
  simp only [ho, resolve, invoke, builtin, Sem.run_bind, Sem.run_pure, Result.andThen_ok, List.map_toArray, List.map_cons, List.map_nil, hs, hx, hr]
  exact h
theorem owns_form {w : World} {base e size : Nat} {v : Value} {n : Nat} {xs : List Value} (h : w.ownsRow base e size v n xs) : ∃ a cap, v = .slice a n cap := by
  rcases h.2 with ⟨rfl, rfl⟩ | ⟨g, cap, cur, rfl, _⟩
  · exact ⟨_, _, rfl⟩
  · exact ⟨_, _, rfl⟩
/-- What New's body reads. -/
structure NS (H Bx : Nat) (th : Int) (ln : Nat) (W : World) : Prop where
  p : W.cell? ⟨H + 1 + 1, 0, none⟩ = some (.pointer (some ⟨H + 1, 0, none⟩))
  t : W.cell? ⟨Bx, 0, none⟩ = some (.int .i64 th)
  l : W.cell? ⟨Bx, 2, none⟩ = some (.int .i64 (ln : Int))
theorem NS.keeps {H Bx : Nat} {th : Int} {ln : Nat} {S : Nat → Prop} {A B : World} (h : NS H Bx th ln A) (k : Keeps S A B) (h1 : ¬ S (H + 1 + 1)) (h2 : ¬ S Bx) : NS H Bx th ln B :=
  ⟨k.cell h.p h1, k.cell h.t h2, k.cell h.l h2⟩

/-- New under way: the variable p, the plan, its names so far. -/
structure NI (w : World) (h3 : Nat) (nt : Nat) (W : World) (vs : Value) (xs : List Value) : Prop where
  pb : W.heap[w.heap.size + 1 + 1]? = some (.cells #[.pointer (some ⟨w.heap.size + 1, 0, none⟩)] 24)
  pl : W.heap[w.heap.size + 1]? = some (.cells #[.int .i64 (nt : Int), vs, .int .i64 0, .bool false, .bool false, .bool false, .bool false, .bool false, .bool false] 66)
  nm : W.ownsRow 0 3 1 vs xs.length xs
  nb : ∀ g, vs.ownBlock = some g → g = w.heap.size ∨ h3 ≤ g
  below : Below w.heap.size w W
  size : h3 ≤ W.heap.size
theorem NI.grown {w : World} {h3 nt : Nat} {A B : World} {vs : Value} {xs : List Value} (h : NI w h3 nt A vs xs) {row : Option Nat} (hw : w.heap.size + 3 ≤ h3) (hg : A.grownBy B row) (hr : ∀ r, row = some r → h3 ≤ r ∧ ∃ o : Obj, A.heap[r]? = some o ∧ o.isCells = false) : NI w h3 nt B vs xs := by
  have hz := h.size
  have key : ∀ k, k < A.heap.size → (∀ o : Obj, A.heap[k]? = some o → o.isCells = true) → B.heap[k]? = A.heap[k]? := fun k hk ho => hg.block k hk (fun e => by
    obtain ⟨_, o, h1, h2⟩ := hr k e.symm
    rw [ho o h1] at h2; cases h2)
  refine ⟨(key _ (by omega) (fun o e => by rw [h.pb] at e; cases e; rfl)).trans h.pb, (key _ (by omega) (fun o e => by rw [h.pl] at e; cases e; rfl)).trans h.pl, owns_same h.nm (fun g hgb => key g (owns_lt' h.nm g hgb) (fun o e => ?_)), h.nb, h.below.grown hg (by omega) (fun k e => by have := (hr k e).1; omega), Nat.le_trans hz hg.size⟩
  rcases h.nm.2 with ⟨rfl, _⟩ | ⟨g', cap, cur, rfl, _, hgg, _⟩
  · cases hgb
  · cases hgb; rw [hgg] at e; cases e; rfl

theorem add_nums (f : Nat → Int) (n k : Nat) (t : Int) (h : ∀ j, n ≤ j → j < n + k → f j = t) : nums f n ++ List.replicate k (Value.int .i64 t) = nums f (n + k) := by
  apply List.ext_getElem?
  intro i
  by_cases h1 : i < n
  · rw [List.getElem?_append_left (by rw [nums_len]; exact h1)]
    simp [nums, h1, (by omega : i < n + k)]
  · rw [List.getElem?_append_right (by rw [nums_len]; omega), nums_len, List.getElem?_replicate]
    by_cases h2 : i < n + k
    · rw [if_pos (by omega)]
      simp [nums, h2, h i (by omega) h2]
    · rw [if_neg (by omega)]
      simp [nums, h2]

theorem cutok {f : Nat → Int} {m M : Nat} (hM : Many f m M) (x : Fin M) : (cut f m x).fr + (cut f m x).len ≤ m ∧ (cut f m x).fr + (cut f m x).len = pos f m (x + 1) ∧ 0 < (cut f m x).len := by
  have h1 := pos_lt (hM.2.2 x x.2)
  have h2 := pos_le f m (x + 1)
  simp only [cut]
  omega

set_option maxRecDepth 100000 in
set_option maxHeartbeats 6400000 in
theorem new_in {w : World} {a : Option Addr} {m cap nt : Nat} {z : Nat → Int} (h : NL w a m z) (hn : 1 ≤ nt ∧ nt ≤ 6) (hm : m ≤ 4096) :
    CallsIn Fence.wide 5 Try.prog 6 #[.int .i64 (nt : Int), .slice a m cap] w fun e w' => ∃ pb vs, e = .returned (.tuple #[.pointer (some ⟨pb, 0, none⟩), .int .i64 0]) ∧ PL w' pb vs nt m (nmf nt z) 0 (fun _ => false) ∧ w.heap.size ≤ pb ∧ (∀ g, vs.ownBlock = some g → w.heap.size ≤ g) ∧ Keeps (fun _ => False) w w' := by
  have hz : rfz (nt : Int) m = 0 := by unfold rfz; rw [if_neg (by omega), if_neg (by omega)]
  have hf := fun (w : World) => callsIn_wide (n := 4).2 (refuse_any w (nt : Int) a m cap)
  rw [hz] at hf
  obtain ⟨i0, hi0, hz0, hz1, hz2⟩ := info_parts intInfo0
  obtain ⟨Z, hZl, hmk⟩ : ∃ Z : List Value, Z.length = m ∧ ∀ W : World, (Instr.makeSlice 23 (.int .i64 0) (.int .i64 (m : Int))).run Try.prog W = .ok (.slice (some ⟨W.heap.size, 0, none⟩) 0 m) (W.alloc (.cells Z.toArray 3)) := by
    refine ⟨(madeCells #[.int .i64 0] (m * 1)).toList, by simp [size_madeCells], fun W => ?_⟩
    have := run_make (P := Try.prog) W 23 3 i0 _ underInts hi0 hz0 .i64 .i64 0 m (by omega) (by omega) (by rw [hz2]; omega) (by omega)
    rw [hz1] at this
    simpa [Value.cells] using this
  have K0 : ∀ o o' o'', Keeps (fun _ => False) w (((w.alloc o).alloc o').alloc o'') := fun o o' o'' => (((Keeps.refl _ w).alloc o).alloc o').alloc o''
  have hs := fun o o' o'' => callsIn_wide (n := 4).2 (stretches_any (cap := cap) (h.new (K0 o o' o'')) hn hm)
  have own0 : (w.alloc (.cells Z.toArray 3)).ownsRow 0 3 1 (.slice (some ⟨w.heap.size, 0, none⟩) 0 m) 0 [] := World.ownsRow_made w _ m (Nat.zero_le _) (by unfold maxLen; omega) (by simp [hZl])
  have OW0 : Hid ((w.alloc (.cells Z.toArray 3)).ownsRow 0 3 1 (.slice (some ⟨w.heap.size, 0, none⟩) 0 m) 0 []) := own0
  refine callsIn_of_wp_marks Try.func6 rfl trivial ?_
  simp only [Try.ntmps6, List.size_toArray, List.length_cons, List.length_nil, Nat.reduceAdd, Nat.reduceSub, Array.replicate_succ, Array.replicate_zero, List.push_toArray, List.append_toArray, List.nil_append, List.cons_append]
  clear hz own0
  have hmk' := hmk w
  gi_wp2_with (first | (refine ⟨trivial, ?_⟩; gi_at_call 21; refine (hf _).mono ?_; rintro e w ⟨rfl, rfl⟩) | (refine ⟨trivial, ?_⟩; gi_at_call 22; refine (hs _ _ _).mono ?_; rintro e w3 ⟨B1, B2, a', cap', rfl, hq⟩))
  obtain ⟨M, hM⟩ := many (nmf nt z) m
  have z3 : w.heap.size + 3 ≤ w3.heap.size := by simpa using hq.keeps.size
  have e3 := heap_alloc_new ((w.alloc (.cells Z.toArray 3)).alloc (.cells #[.int .i64 (nt : Int), .slice (some ⟨w.heap.size, 0, none⟩) 0 m, .int .i64 0, .bool false, .bool false, .bool false, .bool false, .bool false, .bool false] 66)) (.cells #[.pointer (some ⟨w.heap.size + 1, 0, none⟩)] 24)
  have e2 := heap_alloc_new (w.alloc (.cells Z.toArray 3)) (.cells #[.int .i64 (nt : Int), .slice (some ⟨w.heap.size, 0, none⟩) 0 m, .int .i64 0, .bool false, .bool false, .bool false, .bool false, .bool false, .bool false] 66)
  rw [World.size_alloc] at e2
  rw [World.size_alloc, World.size_alloc] at e3
  have I0 : NI w w3.heap.size nt w3 (.slice (some ⟨w.heap.size, 0, none⟩) 0 m) [] := {
    pb := (hq.keeps.block (w.heap.size + 1 + 1) (by simp) (fun e => e)).trans e3
    pl := (hq.keeps.block (w.heap.size + 1) (by simp) (fun e => e)).trans ((Below.heap_alloc _ _ _ (by simp)).trans e2)
    nm := hq.keeps.owns (((Keeps.refl (fun _ => False) (w.alloc (.cells Z.toArray 3))).alloc _).alloc _ |>.owns OW0.out (fun _ _ e => e)) (fun _ _ e => e)
    nb := fun g e => by cases e; exact .inl rfl
    below := ((K0 _ _ _).trans hq.keeps).below (Nat.le_refl _) (fun _ _ e => e)
    size := Nat.le_refl _ }
  have hsv := hq.sv (T := fun k => k = w.heap.size ∨ k = w.heap.size + 1 ∨ k = w.heap.size + 1 + 1) (fun k e => by rcases e with rfl | rfl | rfl <;> simp <;> omega)
  clear hs hf K0 h OW0 e2 e3 hmk hmk'
  refine wpIn_rangeFunc_ownH (α := Fin M) rfl (by omega) (gf := 34) (lb := #[.pointer (some ⟨B1, 0, none⟩), .pointer (some ⟨B2, 0, none⟩)]) rfl trivial (enters_of Try.func34 (by kernel_rfl) rfl)
    (cut_stops 4 (by omega) hq hm hM (Keeps (fun k => (k = w.heap.size ∨ k = w.heap.size + 1 ∨ k = w.heap.size + 1 + 1) ∨ w3.heap.size ≤ k)) hsv) keepsK_t keepsK_b (Below.refl _ _) (fun _ => rfl)
    (fun pre W => ∃ vs xs, NI w w3.heap.size nt W vs xs ∧ xs.length ≤ pre.length * 4096 ∧ (pre = idx M pre.length → xs = nums (nmf nt z) (pos (nmf nt z) m pre.length)))
    (fun _ _ _ => False)
    (fun pre A B row hs hg hr => by obtain ⟨vs, xs, h1, h2, h3⟩ := hs; exact ⟨vs, xs, h1.grown z3 hg hr, h2, h3⟩)
    (fun _ _ _ _ _ hs _ _ => hs)
    ⟨_, [], I0, Nat.zero_le _, fun _ => rfl⟩
    (fun x av W => ∃ Bx c, c = cut (nmf nt z) m x ∧ w3.heap.size ≤ Bx ∧ W.heap[Bx]? = some (.cells #[.int .i64 c.th, .int .i64 (c.fr : Int), .int .i64 (c.len : Int)] 48) ∧ av = { tmps := #[.int .i64 (nt : Int), .slice a m cap, undef, undef, .pointer none, .int .i64 0, .int .i64 0, .pointer (some ⟨w.heap.size + 1 + 1, 0, none⟩), .pointer (some ⟨Bx, 0, none⟩), .int .i64 (nt : Int), .slice a m cap, .int .i64 0, .int .i64 0, .bool false, undef, .int .i64 (nt : Int), .slice a m cap, .int .i64 (m : Int), .slice (some ⟨w.heap.size, 0, none⟩) 0 m, .agg #[.int .i64 (nt : Int), .slice (some ⟨w.heap.size, 0, none⟩) 0 m, .int .i64 0, .bool false, .bool false, .bool false, .bool false, .bool false, .bool false], .pointer (some ⟨w.heap.size + 1, 0, none⟩), .int .i64 (nt : Int), .slice a m cap, .func (.func 34) #[] #[.pointer (some ⟨B1, 0, none⟩), .pointer (some ⟨B2, 0, none⟩)], .agg #[.int .i64 c.th, .int .i64 (c.fr : Int), .int .i64 (c.len : Int)], undef, undef, undef, undef, undef, undef, undef, undef, undef, undef, undef, undef, undef, undef, undef], defers := [] })
    (fun x av _ W W' row hs hg hr => by
      obtain ⟨Bx, c, hc, h0, h1, e⟩ := hs
      refine ⟨Bx, c, hc, h0, (hg.block Bx ?_ (fun e' => ?_)).trans h1, e⟩
      · rcases Nat.lt_or_ge Bx W.heap.size with hlt | hge
        · exact hlt
        · rw [Array.getElem?_eq_none hge] at h1; cases h1
      · obtain ⟨_, o, h2, h3⟩ := hr Bx e'.symm
        rw [h1] at h2; cases h2; cases h3) ?assign ?body ?done ?stop
  case assign =>
    rintro l pre x W K ⟨vs, xs, hI, hl, hx⟩ hK
    obtain ⟨c, hc⟩ : ∃ c, Hid (c = cut (nmf nt z) m x) := ⟨_, rfl⟩
    rw [← hc.out]
    simp only [encu]
    have hsz := hI.size
    gi_wp2
    exact hK _ _ ((KeepsOthers.alloc _ _).from _) ((Keeps.refl _ W).alloc _) ⟨vs, xs, hI.grown z3 (World.grownBy_alloc W _ none) (fun _ e => by cases e), hl, hx⟩ ⟨W.heap.size, c, hc.out, by omega, heap_alloc_new W _, rfl⟩
  case body =>
    rintro l pre x av W hl _ ⟨vs, xs, hI, hxl, hxs⟩ ⟨Bx, c, hc, hBx, hblk, rfl⟩ hlt
    have hok := cutok hM x
    rw [← hc] at hok
    have hsame : ∀ j, c.fr ≤ j → j < c.fr + c.len → nmf nt z j = c.th := fun j j1 j2 => by
      rw [hok.2.1] at j2
      rw [hc] at j1 ⊢
      exact pos_same (hM.2.2 x x.2) j j1 j2
    have hp1 : (pre ++ [x]).length = pre.length + 1 := by simp
    have hM1 := hM.1
    have hnx : pre ++ [x] = idx M (pre ++ [x]).length → xs ++ List.replicate c.len (Value.int .i64 c.th) = nums (nmf nt z) (pos (nmf nt z) m (pre ++ [x]).length) := fun e => by
      rw [hp1] at e ⊢
      obtain ⟨e1, e2⟩ := idx_snoc e hlt
      have e3 : c.fr = pos (nmf nt z) m pre.length := by rw [hc, ← e2]; rfl
      rw [hxs e1, ← e3, add_nums _ _ _ _ hsame, hok.2.1, e2]
    clear hsame hxs hc
    obtain ⟨th, fr, ln⟩ := c
    simp only at hblk hok hnx ⊢
    have hok1 : 1 ≤ ln := by have := hok.1; omega
    have hok2 : ln ≤ 4096 := by have := hok.2.2; omega
    have hx24 : xs.length + ln ≤ 16777216 + 4096 := by
      have : pre.length * 4096 ≤ 4096 * 4096 := Nat.mul_le_mul_right _ (by omega)
      omega
    clear hok
    have hsz := hI.size
    have hBl : Bx < W.heap.size := by
      rcases Nat.lt_or_ge Bx W.heap.size with h | h
      · exact h
      · rw [Array.getElem?_eq_none h] at hblk; cases hblk
    have hnb1 : ¬ vs.ownBlock = some (w.heap.size + 1 + 1) := fun e => by have := hI.nb _ e; omega
    have hnb0 : ¬ vs.ownBlock = some (w.heap.size + 1) := fun e => by have := hI.nb _ e; omega
    have hnb2 : ¬ vs.ownBlock = some Bx := fun e => by
      rcases hI.nm.2 with ⟨rfl, _⟩ | ⟨g', cp, cur, rfl, _, hgg, _⟩
      · cases e
      · cases e; rw [hblk] at hgg; cases hgg
    have kA : Keeps (fun _ => False) W (W.drew.alloc (.cells #[.int .i64 th] 3)) := ((Keeps.refl _ W).drew).alloc _
    have hRep : Calls Try.prog 23 #[.slice (some ⟨W.heap.size, 0, none⟩) 1 1, .int .i64 (ln : Int)] (W.drew.alloc (.cells #[.int .i64 th] 3)) fun e WR => e = .returned (.slice (some ⟨W.heap.size + 1, 0, none⟩) ln ln) ∧ WR.heap[W.heap.size + 1]? = some (.cells (List.replicate ln (.int .i64 th)).toArray 3 (0, 0)) ∧ Keeps (fun _ => False) (W.drew.alloc (.cells #[.int .i64 th] 3)) WR := by
      have := repeat_any (w := W.drew.alloc (.cells #[.int .i64 th] 3)) (b := W.heap.size) 1 th ln hok1 hok2 (cell_cells (heap_alloc_new W.drew _) rfl)
      have e : (W.drew.alloc (.cells #[.int .i64 th] 3)).heap.size = W.heap.size + 1 := by simp
      rw [e] at this
      exact this
    have nA : W.cell? ⟨w.heap.size + 1, 1, none⟩ = some vs := cell_cells hI.pl rfl
    have zA : W.frozen? ⟨w.heap.size + 1, 1, none⟩ = false := frozen_cells hI.pl
    have nB : (W.alloc (.cells #[.int .i64 th] 3)).cell? ⟨w.heap.size + 1, 1, none⟩ = some vs := ((Keeps.refl (fun _ => False) W).alloc _).cell nA (fun e => e)
    have nC : (W.alloc (.cells #[.int .i64 th] 3)).drew.cell? ⟨w.heap.size + 1, 1, none⟩ = some vs := nB
    have HA : Hid (∀ WR : World, WR.heap[W.heap.size + 1]? = some (.cells (List.replicate ln (.int .i64 th)).toArray 3 (0, 0)) → Keeps (fun _ => False) (W.drew.alloc (.cells #[.int .i64 th] 3)) WR → ∃ v2 WP, (Builtin.append_ #[23, 23] 23 #[vs, .slice (some ⟨W.heap.size + 1, 0, none⟩) ln ln]).run Try.prog WR = .ok v2 WP ∧ WP.ownsRow 0 3 1 v2 (xs.length + ln) (xs ++ List.replicate ln (.int .i64 th)) ∧ WR.grownBy WP vs.ownBlock ∧ (v2.ownBlock = vs.ownBlock ∨ v2.ownBlock = some WR.heap.size)) := fun WR hrow kR => by
      obtain ⟨v2, WP, h1, h2, h3, _, h5⟩ := run_append_own_at (P := Try.prog) (w := WR) 0 23 23 3 i0 _ 1 8 underInts hi0 hz0 hz1 hz2 rfl (by decide) vs xs.length xs ((kA.trans kR).owns hI.nm (fun _ _ e => e)) ⟨W.heap.size + 1, 0, none⟩ ln ln (List.replicate ln (.int .i64 th)) (by simp) (fun j u e => by
        rw [add_none, Nat.zero_add]
        exact cell_cells hrow (by rw [List.getElem?_toArray]; exact e)) (fun u hu => by rw [List.eq_of_mem_replicate hu]; rfl) (by unfold maxLen; omega) (by omega) (Nat.zero_le _)
      exact ⟨v2, WP, h1, h2, h3, h5⟩
    have HN : Hid (∀ WR WP : World, Keeps (fun _ => False) (W.drew.alloc (.cells #[.int .i64 th] 3)) WR → WR.grownBy WP vs.ownBlock → WR.cell? ⟨w.heap.size + 1, 1, none⟩ = some vs ∧ WP.cell? ⟨w.heap.size + 1, 1, none⟩ = some vs ∧ WP.frozen? ⟨w.heap.size + 1, 1, none⟩ = false) := fun WR WP kR hg => by
      have k1 := kA.trans kR
      have k2 : Keeps (fun k => vs.ownBlock = some k) WR WP := (Keeps.refl _ WR).grown hg (fun _ _ e => e)
      have l1 := World.block_lt_of_cell? _ _ nA
      exact ⟨k1.cell nA (fun e => e), k2.cell (k1.cell nA (fun e => e)) hnb0, (k2.frozen (p := ⟨w.heap.size + 1, 1, none⟩) (Nat.lt_of_lt_of_le l1 k1.size) hnb0).trans ((k1.frozen (p := ⟨w.heap.size + 1, 1, none⟩) l1 (fun e => e)).trans zA)⟩
    have HEND : Hid (∀ (WR WP : World) (v2 : Value), Keeps (fun _ => False) (W.drew.alloc (.cells #[.int .i64 th] 3)) WR → WP.ownsRow 0 3 1 v2 (xs.length + ln) (xs ++ List.replicate ln (.int .i64 th)) → WR.grownBy WP vs.ownBlock → (v2.ownBlock = vs.ownBlock ∨ v2.ownBlock = some WR.heap.size) →
        KeepsOthers W (WP.setCell ⟨w.heap.size + 1, 1, none⟩ v2) ∧ Keeps (fun k => (k = w.heap.size ∨ k = w.heap.size + 1 ∨ k = w.heap.size + 1 + 1) ∨ w3.heap.size ≤ k) W (WP.setCell ⟨w.heap.size + 1, 1, none⟩ v2) ∧ ∃ vs xs, NI w w3.heap.size nt (WP.setCell ⟨w.heap.size + 1, 1, none⟩ v2) vs xs ∧ xs.length ≤ (pre ++ [x]).length * 4096 ∧ (pre ++ [x] = idx M (pre ++ [x]).length → xs = nums (nmf nt z) (pos (nmf nt z) m (pre ++ [x]).length))) := fun WR WP v2 kR ho hg hob => by
      have k1 := kA.trans kR
      have k2 : Keeps (fun k => vs.ownBlock = some k) WR WP := (Keeps.refl _ WR).grown hg (fun _ _ e => e)
      have k3 : Keeps (fun k => vs.ownBlock = some k) W WP := k1.trans' k2 (fun _ _ e => e.elim) (fun _ _ e => e)
      have k4 : Keeps (fun k => vs.ownBlock = some k ∨ k = w.heap.size + 1) W (WP.setCell ⟨w.heap.size + 1, 1, none⟩ v2) := (k3.mono (fun _ _ e => .inl e)).setCell (p := ⟨w.heap.size + 1, 1, none⟩) (fun _ => .inr rfl) _
      have hv2 : ∀ g, v2.ownBlock = some g → g = w.heap.size ∨ w3.heap.size ≤ g := fun g e => by
        rcases hob with e' | e'
        · exact hI.nb g (e' ▸ e)
        · rw [e'] at e; cases e; have := k1.size; exact .inr (by omega)
      refine ⟨others_of k4 (fun i hi o ho' => ?_), k4.mono (fun i _ e => ?_), v2, xs ++ List.replicate ln (.int .i64 th), ⟨?_, ?_, ?_, hv2, ?_, ?_⟩, ?_, hnx⟩
      · rcases hi with hi | rfl
        · rcases hI.nm.2 with ⟨rfl, _⟩ | ⟨g', cp, cur, rfl, _, hgg, _⟩
          · cases hi
          · cases hi; rw [hgg] at ho'; cases ho'; rfl
        · rw [hI.pl] at ho'; cases ho'; rfl
      · rcases e with e | e
        · rcases hI.nb i e with e | e
          · exact .inl (.inl e)
          · exact .inr e
        · exact .inl (.inr (.inl e))
      · exact (k4.block _ (by omega) (fun e => by rcases e with e | e; exact hnb1 e; omega)).trans hI.pb
      · have hp := (k3.block (w.heap.size + 1) (by omega) hnb0).trans hI.pl
        exact heap_put hp v2
      · have : (xs ++ List.replicate ln (Value.int .i64 th)).length = xs.length + ln := by simp
        rw [this]
        refine owns_same ho (fun g e => Below.heap_setCell WP ⟨w.heap.size + 1, 1, none⟩ v2 g (fun e' => ?_))
        have := hv2 g e
        simp at e'
        omega
      · exact hI.below.trans (k4.below (Nat.le_of_lt (by omega)) (fun i hi e => by
          rcases e with e | e
          · rcases hI.nb i e with e | e <;> omega
          · omega))
      · exact Nat.le_trans hsz k4.size
      · simp; omega
    have hmx : Try.prog.follows .mixedOrders = true := by kernel_rfl
    have HB1 : Hid (¬ vs.ownBlock = some (w.heap.size + 1 + 1)) := hnb1
    have HB2 : Hid (¬ vs.ownBlock = some Bx) := hnb2
    have hS0 : NS w.heap.size Bx th ln W.drew := ⟨cell_cells (w := W) hI.pb rfl, cell_cells (w := W) hblk rfl, cell_cells (w := W) hblk rfl⟩
    clear hI hxl hnx hblk hnb0 hnb1 hnb2 hx24 hq hsv I0
    gi_wp2
    refine wpIn_mono (Q := fun e _ W' => e = .normal ∧ (KeepsOthers W W' ∧ Keeps (fun k => (k = w.heap.size ∨ k = w.heap.size + 1 ∨ k = w.heap.size + 1 + 1) ∨ w3.heap.size ≤ k) W W' ∧ ∃ vs xs, NI w w3.heap.size nt W' vs xs ∧ xs.length ≤ (pre ++ [x]).length * 4096 ∧ (pre ++ [x] = idx M (pre ++ [x]).length → xs = nums (nmf nt z) (pos (nmf nt z) m (pre ++ [x]).length)))) ?_ ?_
    · refine wpIn_region_held (S := NS w.heap.size Bx th ln) hmx (by kernel_rfl) (by rintro ⟨_, _, h, _⟩; cases h) hS0 (fun hHeld => ?_)
      clear hS0 hmx
      refine wpAnyH_take (i := 0) (v := ?_) rfl (by kernel_rfl) (by kernel_rfl) (by kernel_rfl) (fun _ _ _ h => h) (Or.inl ⟨by rfl, ?_⟩) hHeld ?_
      rotate_left
      · intro wx hSw; obtain ⟨q1, q2, q3⟩ := hSw; go_simp <;> with_reducible rfl
      (try simp only [Act.put]); (try simp only [List.setIfInBounds_toArray]); (repeat first | simp only [List.set_cons_succ] | simp only [List.set_cons_zero])
      refine wpAnyH_take (i := 1) (v := ?_) rfl (by kernel_rfl) (by kernel_rfl) (by kernel_rfl) (fun _ _ _ h => h) (Or.inl ⟨by rfl, ?_⟩) hHeld ?_
      rotate_left
      · intro wx hSw; obtain ⟨q1, q2, q3⟩ := hSw; go_simp <;> with_reducible rfl
      (try simp only [Act.put]); (try simp only [List.setIfInBounds_toArray]); (repeat first | simp only [List.set_cons_succ] | simp only [List.set_cons_zero])
      refine wpAnyH_take (i := 2) (v := ?_) rfl (by kernel_rfl) (by kernel_rfl) (by kernel_rfl) (fun _ _ _ h => h) (Or.inl ⟨by rfl, ?_⟩) hHeld ?_
      rotate_left
      · intro wx hSw; obtain ⟨q1, q2, q3⟩ := hSw; go_simp <;> with_reducible rfl
      (try simp only [Act.put]); (try simp only [List.setIfInBounds_toArray]); (repeat first | simp only [List.set_cons_succ] | simp only [List.set_cons_zero])
      refine wpAnyH_take (i := 3) (v := ?_) rfl (by kernel_rfl) (by kernel_rfl) (by kernel_rfl) (fun _ _ _ h => h) (Or.inl ⟨by rfl, ?_⟩) hHeld ?_
      rotate_left
      · intro wx hSw; obtain ⟨q1, q2, q3⟩ := hSw; go_simp <;> with_reducible rfl
      (try simp only [Act.put]); (try simp only [List.setIfInBounds_toArray]); (repeat first | simp only [List.set_cons_succ] | simp only [List.set_cons_zero])
      refine wpAnyH_take (i := 5) (v := ?_) rfl (by kernel_rfl) (by kernel_rfl) (by kernel_rfl) (fun _ _ _ h => h) (Or.inl ⟨by rfl, ?_⟩) hHeld ?_
      rotate_left
      · intro wx hSw; obtain ⟨q1, q2, q3⟩ := hSw; go_simp <;> with_reducible rfl
      (try simp only [Act.put]); (try simp only [List.setIfInBounds_toArray]); (repeat first | simp only [List.set_cons_succ] | simp only [List.set_cons_zero])
      refine wpAnyH_take (i := 6) (v := ?_) rfl (by kernel_rfl) (by kernel_rfl) (by kernel_rfl) (fun _ _ _ h => h) (Or.inl ⟨by rfl, ?_⟩) hHeld ?_
      rotate_left
      · intro wx hSw; obtain ⟨q1, q2, q3⟩ := hSw; go_simp <;> with_reducible rfl
      (try simp only [Act.put]); (try simp only [List.setIfInBounds_toArray]); (repeat first | simp only [List.set_cons_succ] | simp only [List.set_cons_zero])
      refine wpAnyH_take (i := 8) (v := ?_) rfl (by kernel_rfl) (by kernel_rfl) (by kernel_rfl) (fun _ _ _ h => h) (Or.inl ⟨by rfl, ?_⟩) hHeld ?_
      rotate_left
      · intro wx hSw; obtain ⟨q1, q2, q3⟩ := hSw; go_simp <;> with_reducible rfl
      (try simp only [Act.put]); (try simp only [List.setIfInBounds_toArray]); (repeat first | simp only [List.set_cons_succ] | simp only [List.set_cons_zero])
      refine wpAnyH_take (i := 9) (v := ?_) rfl (by kernel_rfl) (by kernel_rfl) (by kernel_rfl) (fun _ _ _ h => h) (Or.inl ⟨by rfl, ?_⟩) hHeld ?_
      rotate_left
      · intro wx hSw; obtain ⟨q1, q2, q3⟩ := hSw; go_simp <;> with_reducible rfl
      (try simp only [Act.put]); (try simp only [List.setIfInBounds_toArray]); (repeat first | simp only [List.set_cons_succ] | simp only [List.set_cons_zero])
      refine wpAnyH_ready (rs := [4, 7]) (by kernel_rfl) (by simp) ?_
      refine AllReadyH.cons rfl (fun K hK => ?_) (AllReadyH.cons rfl (fun K hK => ?_) AllReadyH.nil)
      ·
        go_simp
        refine hK.out _ _ ?_ (fun hHeld => ?_)
        · exact hHeld
        clear hK K
        (try simp only [Act.put]); (try simp only [List.setIfInBounds_toArray]); (repeat first | simp only [List.set_cons_succ] | simp only [List.set_cons_zero])
        refine wpAnyH_ready (rs := [7]) (by kernel_rfl) (by simp) ?_
        refine AllReadyH.cons rfl (fun K hK => ?_) AllReadyH.nil
        go_simp
        refine hK.out _ _ ?_ (fun hHeld => ?_)
        · exact hHeld.keeps ((Keeps.refl (fun _ => False) _).alloc _) (fun e => e) (fun e => e)
        clear hK K
        (try simp only [Act.put]); (try simp only [List.setIfInBounds_toArray]); (repeat first | simp only [List.set_cons_succ] | simp only [List.set_cons_zero])
        refine wpAnyH_ready (rs := [10]) (by kernel_rfl) (by simp) ?_
        refine AllReadyH.cons rfl (fun K hK => ?_) AllReadyH.nil
        go_simp
        refine hRep.mono ?_
        rintro e WR ⟨rfl, hrow, kR⟩
        obtain ⟨v2, WP, hap, hown2, hgr2, hob2⟩ := HA.out WR hrow kR
        obtain ⟨n1, f14, g14⟩ := HN.out WR WP kR hgr2
        obtain ⟨a2, cp2, rfl⟩ := owns_form hown2
        refine hK.out _ _ ?_ (fun hHeld => ?_)
        · exact hHeld.keeps kR (fun e => e) (fun e => e)
        clear hK K
        (try simp only [Act.put]); (try simp only [List.setIfInBounds_toArray]); (repeat first | simp only [List.set_cons_succ] | simp only [List.set_cons_zero])
        refine wpAnyH_ready (rs := [11]) (by kernel_rfl) (by simp) ?_
        refine AllReadyH.cons rfl (fun K hK => ?_) AllReadyH.nil
        refine step_append_run rfl (.tmp 29) (.tmp 35) _ (by rfl) _ _ _ WP (by rfl) (by rfl) hap ?_
        refine hK.out _ _ ?_ (fun hHeld => ?_)
        · exact hHeld.keeps ((Keeps.refl (fun k => vs.ownBlock = some k) WR).grown hgr2 (fun _ _ e => e)) HB1.out HB2.out
        clear hK K
        (try simp only [Act.put]); (try simp only [List.setIfInBounds_toArray]); (repeat first | simp only [List.set_cons_succ] | simp only [List.set_cons_zero])
        refine wpAnyH_take (i := 12) (v := ?_) rfl (by kernel_rfl) (by kernel_rfl) (by kernel_rfl) (fun _ _ _ h => h) (Or.inl ⟨by rfl, ?_⟩) hHeld ?_
        rotate_left
        · intro wx hSw; obtain ⟨q1, q2, q3⟩ := hSw; go_simp <;> with_reducible rfl
        (try simp only [Act.put]); (try simp only [List.setIfInBounds_toArray]); (repeat first | simp only [List.set_cons_succ] | simp only [List.set_cons_zero])
        refine wpAnyH_take (i := 13) (v := ?_) rfl (by kernel_rfl) (by kernel_rfl) (by kernel_rfl) (fun _ _ _ h => h) (Or.inl ⟨by rfl, ?_⟩) hHeld ?_
        rotate_left
        · intro wx hSw; obtain ⟨q1, q2, q3⟩ := hSw; go_simp <;> with_reducible rfl
        (try simp only [Act.put]); (try simp only [List.setIfInBounds_toArray]); (repeat first | simp only [List.set_cons_succ] | simp only [List.set_cons_zero])
        refine wpAnyH_ready (rs := [14]) (by kernel_rfl) (by simp) ?_
        refine AllReadyH.cons rfl (fun K hK => ?_) AllReadyH.nil
        go_simp
        refine hK.out _ _ ?_ (fun hHeld => ?_)
        · exact hHeld.keeps ((Keeps.refl (fun k => k = w.heap.size + 1) WP).setCell (p := ⟨w.heap.size + 1, 1, none⟩) (fun _ => rfl) _) (by omega) (by omega)
        clear hK K
        (try simp only [Act.put]); (try simp only [List.setIfInBounds_toArray]); (repeat first | simp only [List.set_cons_succ] | simp only [List.set_cons_zero])
        refine wpAnyH_done (by kernel_rfl) ?_ _
        exact ⟨rfl, HEND.out WR WP _ kR hown2 hgr2 hob2⟩
      ·
        go_simp
        refine hK.out _ _ ?_ (fun hHeld => ?_)
        · exact hHeld.keeps ((Keeps.refl (fun _ => False) _).alloc _) (fun e => e) (fun e => e)
        clear hK K
        (try simp only [Act.put]); (try simp only [List.setIfInBounds_toArray]); (repeat first | simp only [List.set_cons_succ] | simp only [List.set_cons_zero])
        refine wpAnyH_ready (rs := [4, 10]) (by kernel_rfl) (by simp) ?_
        refine AllReadyH.cons rfl (fun K hK => ?_) (AllReadyH.cons rfl (fun K hK => ?_) AllReadyH.nil)
        ·
          go_simp
          refine hK.out _ _ ?_ (fun hHeld => ?_)
          · exact hHeld
          clear hK K
          (try simp only [Act.put]); (try simp only [List.setIfInBounds_toArray]); (repeat first | simp only [List.set_cons_succ] | simp only [List.set_cons_zero])
          refine wpAnyH_ready (rs := [10]) (by kernel_rfl) (by simp) ?_
          refine AllReadyH.cons rfl (fun K hK => ?_) AllReadyH.nil
          go_simp
          refine hRep.mono ?_
          rintro e WR ⟨rfl, hrow, kR⟩
          obtain ⟨v2, WP, hap, hown2, hgr2, hob2⟩ := HA.out WR hrow kR
          obtain ⟨n1, f14, g14⟩ := HN.out WR WP kR hgr2
          obtain ⟨a2, cp2, rfl⟩ := owns_form hown2
          refine hK.out _ _ ?_ (fun hHeld => ?_)
          · exact hHeld.keeps kR (fun e => e) (fun e => e)
          clear hK K
          (try simp only [Act.put]); (try simp only [List.setIfInBounds_toArray]); (repeat first | simp only [List.set_cons_succ] | simp only [List.set_cons_zero])
          refine wpAnyH_ready (rs := [11]) (by kernel_rfl) (by simp) ?_
          refine AllReadyH.cons rfl (fun K hK => ?_) AllReadyH.nil
          refine step_append_run rfl (.tmp 29) (.tmp 35) _ (by rfl) _ _ _ WP (by rfl) (by rfl) hap ?_
          refine hK.out _ _ ?_ (fun hHeld => ?_)
          · exact hHeld.keeps ((Keeps.refl (fun k => vs.ownBlock = some k) WR).grown hgr2 (fun _ _ e => e)) HB1.out HB2.out
          clear hK K
          (try simp only [Act.put]); (try simp only [List.setIfInBounds_toArray]); (repeat first | simp only [List.set_cons_succ] | simp only [List.set_cons_zero])
          refine wpAnyH_take (i := 12) (v := ?_) rfl (by kernel_rfl) (by kernel_rfl) (by kernel_rfl) (fun _ _ _ h => h) (Or.inl ⟨by rfl, ?_⟩) hHeld ?_
          rotate_left
          · intro wx hSw; obtain ⟨q1, q2, q3⟩ := hSw; go_simp <;> with_reducible rfl
          (try simp only [Act.put]); (try simp only [List.setIfInBounds_toArray]); (repeat first | simp only [List.set_cons_succ] | simp only [List.set_cons_zero])
          refine wpAnyH_take (i := 13) (v := ?_) rfl (by kernel_rfl) (by kernel_rfl) (by kernel_rfl) (fun _ _ _ h => h) (Or.inl ⟨by rfl, ?_⟩) hHeld ?_
          rotate_left
          · intro wx hSw; obtain ⟨q1, q2, q3⟩ := hSw; go_simp <;> with_reducible rfl
          (try simp only [Act.put]); (try simp only [List.setIfInBounds_toArray]); (repeat first | simp only [List.set_cons_succ] | simp only [List.set_cons_zero])
          refine wpAnyH_ready (rs := [14]) (by kernel_rfl) (by simp) ?_
          refine AllReadyH.cons rfl (fun K hK => ?_) AllReadyH.nil
          go_simp
          refine hK.out _ _ ?_ (fun hHeld => ?_)
          · exact hHeld.keeps ((Keeps.refl (fun k => k = w.heap.size + 1) WP).setCell (p := ⟨w.heap.size + 1, 1, none⟩) (fun _ => rfl) _) (by omega) (by omega)
          clear hK K
          (try simp only [Act.put]); (try simp only [List.setIfInBounds_toArray]); (repeat first | simp only [List.set_cons_succ] | simp only [List.set_cons_zero])
          refine wpAnyH_done (by kernel_rfl) ?_ _
          exact ⟨rfl, HEND.out WR WP _ kR hown2 hgr2 hob2⟩
        ·
          go_simp
          refine hRep.mono ?_
          rintro e WR ⟨rfl, hrow, kR⟩
          obtain ⟨v2, WP, hap, hown2, hgr2, hob2⟩ := HA.out WR hrow kR
          obtain ⟨n1, f14, g14⟩ := HN.out WR WP kR hgr2
          obtain ⟨a2, cp2, rfl⟩ := owns_form hown2
          refine hK.out _ _ ?_ (fun hHeld => ?_)
          · exact hHeld.keeps kR (fun e => e) (fun e => e)
          clear hK K
          (try simp only [Act.put]); (try simp only [List.setIfInBounds_toArray]); (repeat first | simp only [List.set_cons_succ] | simp only [List.set_cons_zero])
          refine wpAnyH_ready (rs := [4]) (by kernel_rfl) (by simp) ?_
          refine AllReadyH.cons rfl (fun K hK => ?_) AllReadyH.nil
          go_simp
          refine hK.out _ _ ?_ (fun hHeld => ?_)
          · exact hHeld
          clear hK K
          (try simp only [Act.put]); (try simp only [List.setIfInBounds_toArray]); (repeat first | simp only [List.set_cons_succ] | simp only [List.set_cons_zero])
          refine wpAnyH_ready (rs := [11]) (by kernel_rfl) (by simp) ?_
          refine AllReadyH.cons rfl (fun K hK => ?_) AllReadyH.nil
          refine step_append_run rfl (.tmp 29) (.tmp 35) _ (by rfl) _ _ _ WP (by rfl) (by rfl) hap ?_
          refine hK.out _ _ ?_ (fun hHeld => ?_)
          · exact hHeld.keeps ((Keeps.refl (fun k => vs.ownBlock = some k) WR).grown hgr2 (fun _ _ e => e)) HB1.out HB2.out
          clear hK K
          (try simp only [Act.put]); (try simp only [List.setIfInBounds_toArray]); (repeat first | simp only [List.set_cons_succ] | simp only [List.set_cons_zero])
          refine wpAnyH_take (i := 12) (v := ?_) rfl (by kernel_rfl) (by kernel_rfl) (by kernel_rfl) (fun _ _ _ h => h) (Or.inl ⟨by rfl, ?_⟩) hHeld ?_
          rotate_left
          · intro wx hSw; obtain ⟨q1, q2, q3⟩ := hSw; go_simp <;> with_reducible rfl
          (try simp only [Act.put]); (try simp only [List.setIfInBounds_toArray]); (repeat first | simp only [List.set_cons_succ] | simp only [List.set_cons_zero])
          refine wpAnyH_take (i := 13) (v := ?_) rfl (by kernel_rfl) (by kernel_rfl) (by kernel_rfl) (fun _ _ _ h => h) (Or.inl ⟨by rfl, ?_⟩) hHeld ?_
          rotate_left
          · intro wx hSw; obtain ⟨q1, q2, q3⟩ := hSw; go_simp <;> with_reducible rfl
          (try simp only [Act.put]); (try simp only [List.setIfInBounds_toArray]); (repeat first | simp only [List.set_cons_succ] | simp only [List.set_cons_zero])
          refine wpAnyH_ready (rs := [14]) (by kernel_rfl) (by simp) ?_
          refine AllReadyH.cons rfl (fun K hK => ?_) AllReadyH.nil
          go_simp
          refine hK.out _ _ ?_ (fun hHeld => ?_)
          · exact hHeld.keeps ((Keeps.refl (fun k => k = w.heap.size + 1) WP).setCell (p := ⟨w.heap.size + 1, 1, none⟩) (fun _ => rfl) _) (by omega) (by omega)
          clear hK K
          (try simp only [Act.put]); (try simp only [List.setIfInBounds_toArray]); (repeat first | simp only [List.set_cons_succ] | simp only [List.set_cons_zero])
          refine wpAnyH_done (by kernel_rfl) ?_ _
          exact ⟨rfl, HEND.out WR WP _ kR hown2 hgr2 hob2⟩
    · rintro e a2 W' ⟨rfl, h1, h2, h3⟩
      (try simp only [Exit.then])
      gi_wp2
      exact ⟨h1.from _, h2, h3⟩
  case done =>
    rintro D ys W hD rfl ⟨vs, xs, hI, hxl, hxs⟩ hK
    have hxs := hxs (by rw [idx_length (Nat.le_refl _)])
    rw [idx_length (Nat.le_refl _), hM.2.1] at hxs
    have c7 : W.cell? ⟨w.heap.size + 1 + 1, 0, none⟩ = some (.pointer (some ⟨w.heap.size + 1, 0, none⟩)) := cell_cells hI.pb rfl
    have HX := (show Hid _ from hxs)
    clear hxs hxl
    gi_wp2
    refine ⟨by simp, .inl ⟨_, _, rfl, run_takeDeferred hK, ?_⟩⟩
    have hJ := hI.grown z3 (grownBy_putObj' W D (.deferred none)) (fun r e => by cases e; exact ⟨hD, _, hK, rfl⟩)
    refine ⟨.tuple #[.pointer (some ⟨w.heap.size + 1, 0, none⟩), .int .i64 0], ?_, w.heap.size + 1, vs, rfl, ⟨cell_cells hJ.pl rfl, cell_cells hJ.pl rfl, cell_cells hJ.pl rfl, fun t ht => ?_, fun t _ => frozen_cells hJ.pl, ?_, fun g e => ?_⟩, by omega, fun g e => ?_, hJ.below.os, hJ.below.tape, hJ.below.output, hJ.below.size, fun k hk _ => hJ.below.block k hk⟩
    · simp [results, Try.f6, go_sem]
    · rcases (by omega : t = 0 ∨ t = 1 ∨ t = 2 ∨ t = 3 ∨ t = 4 ∨ t = 5) with rfl | rfl | rfl | rfl | rfl | rfl <;> exact cell_cells hJ.pl rfl
    · have := hJ.nm
      rw [HX.out, nums_len] at this
      exact this
    · have := hJ.nb g e; omega
    · have := hJ.nb g e; omega
  case stop => exact fun D cd pre W _ _ hf => hf.elim

theorem new_any {w : World} {a : Option Addr} {m nt : Nat} {z : Nat → Int} (h : NL w a m z) (cap : Nat) (hn : 1 ≤ nt ∧ nt ≤ 6) (hm : m ≤ 4096) :
    Calls Try.prog 6 #[.int .i64 (nt : Int), .slice a m cap] w fun e w' => ∃ pb vs, e = .returned (.tuple #[.pointer (some ⟨pb, 0, none⟩), .int .i64 0]) ∧ PL w' pb vs nt m (nmf nt z) 0 (fun _ => false) ∧ w.heap.size ≤ pb ∧ (∀ g, vs.ownBlock = some g → w.heap.size ≤ g) ∧ Keeps (fun _ => False) w w' :=
  callsIn_wide.1 (new_in h hn hm)

set_option maxHeartbeats 1600000 in
set_option maxRecDepth 1000000 in
theorem new_no (w : World) (n : Int) (a : Option Addr) (m cap : Nat) (hz : rfz n m ≠ 0) :
    Calls Try.prog 6 #[.int .i64 n, .slice a m cap] w fun e w' => e = .returned (.tuple #[.pointer none, .int .i64 (rfz n m)]) ∧ w' = w := by
  have hf := fun (w : World) => callsIn_wide (n := 4).2 (refuse_any w n a m cap)
  have hzb : (rfz n m != 0) = true := by simpa using hz
  generalize rfz n m = r at *
  clear hz
  refine callsIn_wide (n := 5).1 ?_
  refine callsIn_of_wp_marks Try.func6 rfl trivial ?_
  simp only [Try.ntmps6, List.size_toArray, List.length_cons, List.length_nil, Nat.reduceAdd, Nat.reduceSub, Array.replicate_succ, Array.replicate_zero, List.push_toArray, List.append_toArray, List.nil_append, List.cons_append]
  gi_wp2_with ((refine ⟨trivial, ?_⟩; gi_at_call 21; refine (hf _).mono ?_; rintro e w ⟨rfl, rfl⟩))
  refine ⟨.tuple #[.pointer none, .int .i64 r], ?_, rfl, rfl⟩
  simp [results, Try.f6, go_sem]
end Go.Proofs.Ytgfjhogogajbjab
