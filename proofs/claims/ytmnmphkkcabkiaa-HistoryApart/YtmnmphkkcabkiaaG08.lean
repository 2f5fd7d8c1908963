import Derived.Test.YtmnmphkkcabkiaaG07
import Derived.Maps.RangeWalk
import Derived.Lib.Small
namespace Go.Proofs.Ytmnmphkkcabkiaa
open Go.RowKit Go.Maps Go.ChangeMaps Go.MapKept Go.WideShapes
attribute [local go_sem] Oper.semAt_some run_store_nf run_store_f
theorem ranges_keep {w w' : World} {P : Program} {k : TypeId} {R : Value → Option (DataW Value × List MemPlace)} {b r n : Nat} {D : DataW Value} {left : Lit → Bool} {cnt : Nat} {S : Nat → Prop} (h : w.ranges P k R b r n D left cnt) (kk : Keeps S w w') (h1 : ¬ S b) (h2 : ¬ S r) : w'.ranges P k R b r n D left cnt := by
  have e1 := kk.block b h.owns.lt h1
  have e2 := kk.block r h.lt h2
  obtain ⟨es, clock, since, seen, c0, hb, F, hs, hD, hr, rest⟩ := h
  exact ⟨es, clock, since, seen, c0, e1.trans hb, F, hs, hD, e2.trans hr, rest⟩
theorem wof_mem {o : Int} {u : Value} : ∀ {l : List Wo}, wof l o = some u → ∃ y ∈ l, y.object = o ∧ y.val = u
  | [], h => by cases h
  | y :: l, h => by
    unfold wof at h
    by_cases e : y.object = o
    · rw [if_pos e] at h
      exact ⟨y, by simp, e, Option.some.inj h⟩
    · rw [if_neg e] at h
      obtain ⟨z, hz, h1, h2⟩ := wof_mem h
      exact ⟨z, by simp [hz], h1, h2⟩
structure GA (ws ls : List Wo) (left : Lit → Bool) : Prop where
  e : ∀ o, I64 o → wof ls o = if left (.int .i64 o) = true then none else wof ws o
  d : ls.Pairwise (fun x y => x.object ≠ y.object)
  i : ∀ x ∈ ls, I64 x.object
  l : ∀ o, left (.int .i64 o) = true → I64 o → (wof ws o).isSome = true
theorem GA.next {ws ls : List Wo} {left : Lit → Bool} (h : GA ws ls left) {y : Wo} (hy : I64 y.object) (hl : left (.int .i64 y.object) = true) (hv : wof ws y.object = some y.val) : GA ws (ls ++ [y]) (fun z => left z && !z.sameKey (.int .i64 y.object)) := by
  refine ⟨fun o ho => ?_, ?_, fun x hx => ?_, fun o h1 h2 => ?_⟩
  · rw [wof_app, h.e o ho]
    show (if left (.int .i64 o) = true then none else wof ws o).or (if y.object = o then some y.val else none) = _
    by_cases e : y.object = o
    · subst e
      have s1 : (Lit.int .i64 y.object).sameKey (.int .i64 y.object) = true := WideAt.sameKey_self trivial
      rw [if_pos hl, if_pos rfl]
      simp [s1, hv]
    · have s1 : (Lit.int .i64 o).sameKey (.int .i64 y.object) = false := sameKey_ne (ne_key (fun h => e h.symm))
      rw [if_neg e]
      simp [s1]
  · refine List.pairwise_append.2 ⟨h.d, List.pairwise_cons.2 ⟨fun _ h => by simp at h, List.Pairwise.nil⟩, fun x hx z hz => ?_⟩
    have hz : z = y := by simpa using hz
    subst hz
    intro e
    have h1 := h.e z.object hy
    rw [if_pos hl] at h1
    have : ∀ {m : List Wo}, x ∈ m → wof m z.object ≠ none := fun {m} => by
      induction m with
      | nil => intro hm; simp at hm
      | cons q m ih =>
        intro hm
        unfold wof
        by_cases c : q.object = z.object
        · rw [if_pos c]; simp
        · rw [if_neg c]
          rcases List.mem_cons.1 hm with rfl | hm
          · exact absurd e c
          · exact ih hm
    exact this hx h1
  · rcases List.mem_append.1 hx with hx | hx
    · exact h.i x hx
    · have hx : x = y := by simpa using hx
      rw [hx]
      exact hy
  · simp at h1
    exact h.l o h1.1 h2
theorem GA.first {ws : List Wo} {left : Lit → Bool} (h : ∀ o, I64 o → left (.int .i64 o) = (wof ws o).isSome) : GA ws [] left := by
  refine ⟨fun o ho => ?_, List.Pairwise.nil, fun _ h => by simp at h, fun o h1 h2 => by rw [← h o h2]; exact h1⟩
  show none = _
  by_cases e : left (.int .i64 o) = true
  · rw [if_pos e]
  · rw [if_neg e]
    have := h o ho
    cases hw : wof ws o with
    | none => rfl
    | some u =>
      rw [hw] at this
      exact absurd this e
theorem iVal : (Try.prog.info? 27).map (·.size) = some 3 := by kernel_rfl
theorem one_val (y : Wo) : #[Value.int .i64 y.vN, .int .i64 y.vX, .bool y.vD].all (·.oneCell') = true := all_oneCell_toArray (cs := [Value.int .i64 y.vN, .int .i64 y.vX, .bool y.vD]) (by simp [Value.oneCell'])
theorem i64_wf {x : Int} (h : (Lit.int .i64 x).wf = true) : I64 x := by
  simp [Lit.wf, IntKind.min, IntKind.max, IntKind.bits, IntKind.signed] at h
  unfold I64
  omega
def tlT2 (f : Func) : Code := match f.body with | some (.seq _ (.seq _ t)) => t | _ => .skip
def tlT3 (f : Func) : Code := match f.body with | some (.seq _ (.seq _ (.seq _ t))) => t | _ => .skip
set_option maxHeartbeats 1000000 in
set_option maxRecDepth 100000 in
theorem tell_1 {b n : Nat} {w : World} {ws : List Wo} {R : Ending → World → Prop} {x1 x2 x4 x5 x6 x7 x8 x9 x10 x11 x12 x13 x14 x15 x16 x17 x18 x19 x20 x21 : Value} (hM : MV w b n (wof ws)) (hn : n ≤ 980000000000)
    (hP : ∀ W lv ls y1 y2 y4 y5 y6 y7 y8 y9 y10 y11 y12 y13 y14 y15 y16 y17 y18 y19 y20 y21, W.ownsRow w.heap.size 46 4 lv ls.length (wcl ls) → ls.length ≤ n → ls.Pairwise (fun x y => x.object ≠ y.object) → (∀ x ∈ ls, I64 x.object) → (∀ o, I64 o → wof ls o = wof ws o) → Keeps (fun _ => False) w W → (tlT3 Try.f43).wp Try.prog (bodyPost Try.prog Try.f43 R) { tmps := #[.map (some b), y1, y2, lv, y4, y5, y6, y7, y8, y9, y10, y11, y12, y13, y14, y15, y16, y17, y18, y19, y20, y21], defers := [] } W) : (tlT2 Try.f43).wp Try.prog (bodyPost Try.prog Try.f43 R) { tmps := #[.map (some b), x1, x2, .slice none 0 0, x4, x5, x6, x7, x8, x9, x10, x11, x12, x13, x14, x15, x16, x17, x18, x19, x20, x21], defers := [] } w := by
  have HP : Hid (∀ W lv ls y1 y2 y4 y5 y6 y7 y8 y9 y10 y11 y12 y13 y14 y15 y16 y17 y18 y19 y20 y21, W.ownsRow w.heap.size 46 4 lv ls.length (wcl ls) → ls.length ≤ n → ls.Pairwise (fun x y => x.object ≠ y.object) → (∀ x ∈ ls, I64 x.object) → (∀ o, I64 o → wof ls o = wof ws o) → Keeps (fun _ => False) w W → (tlT3 Try.f43).wp Try.prog (bodyPost Try.prog Try.f43 R) { tmps := #[.map (some b), y1, y2, lv, y4, y5, y6, y7, y8, y9, y10, y11, y12, y13, y14, y15, y16, y17, y18, y19, y20, y21], defers := [] } W) := hP
  clear hP
  obtain ⟨D, h1, h2, h3⟩ := hM
  have hbl := h1.lt
  have HD3 : Hid (∀ k, I64 k → Maps.has D (.int .i64 k) = (wof ws k).isSome ∧ ∀ u, wof ws k = some u → ∀ z, D.atKey (.int .i64 k) z = .held u) := h3
  clear h3
  dsimp only [tlT2, Try.f43]
  refine wp_seq_k (fun KK hKK => ?_)
  have hKH : Hid _ := hKK
  clear hKK
  go_wp2_with (refine wpList_range_own w rfl _ 64 rfl 3 27 keyed underW Rh b n D rfl h1 ?_; intro w1 hr1 hg1 hz1)
  (try simp only [List.getElem_toArray]); (try simp only [List.getElem_cons_succ]); (try simp only [List.getElem_cons_zero]); (try simp only [Act.put]); (try simp only [List.setIfInBounds_toArray]); (repeat first | simp only [List.set_cons_succ] | simp only [List.set_cons_zero])
  have k1 : Keeps (fun _ => False) w w1 := (Keeps.refl _ w).grown hg1 (fun _ _ e => by cases e)
  rw [h2] at hr1
  go_loopw [3] (fun lv Wr => ∃ (left : Lit → Bool) (cnt : Nat) (ls : List Wo), Wr.ranges Try.prog 3 Rh b w.heap.size n D left cnt ∧ Wr.ownsRow (w.heap.size + 1) 46 4 lv ls.length (wcl ls) ∧ GA ws ls left ∧ ls.length + cnt ≤ n ∧ Keeps (fun _ => False) w Wr) (fun _ Wr => Wr.rangeLeft b w.heap.size)
  case atStart => exact ⟨_, _, [], hr1, World.ownsRow_nil _ _ _ _, GA.first (fun o ho => (HD3.out o ho).1), by simp, k1⟩
  case round =>
    obtain ⟨left, cnt, ls, hrg, hown, hG, hcn, kr⟩ := hrel
    clear hr1 k1 hg1 hz1
    have hle := hrg.left_eq
    have hrl := hrg.lt
    by_cases hc : cnt = 0
    · obtain ⟨a3, c3, rfl, -⟩ := own_slice hown
      go_wp2_with (refine wpList_next_ranges wr rfl _ rfl 3 keyed Rh (Value.int .i64) id (fun key kl hk => by obtain ⟨x, rfl, _⟩ := Maps.keyOf_int_inv underI hk; exact ⟨x, rfl⟩) (fun v y _ => ⟨v, rfl⟩) b w.heap.size n D left cnt rfl hrg (fun _ hl => ?_) (fun _ _ _ _ _ _ _ _ _ _ _ hlt => absurd hlt (by omega)))
      refine hKH.out _ _ ?_
      exact HP.out _ _ ls _ _ _ _ _ _ _ _ _ _ _ _ _ _ _ _ _ _ _ _ (owns_low hown (by omega)) (by omega) hG.d hG.i (fun o ho => by rw [hG.e o ho, hl]; rfl) kr
    · obtain ⟨a3, c3, rfl, -⟩ := own_slice hown
      have hne : ¬ b = w.heap.size := by omega
      have hob : ∀ i, (Value.slice a3 ls.length c3).ownBlock = some i → w.heap.size < i := fun i e => by have := owns_baseT hown i e; omega
      have HG : Hid (GA ws ls left) := hG
      have HY : Hid (∀ x, I64 x → left (.int .i64 x) = true → ∀ cv, (∀ zd, D.atKey (.int .i64 x) zd = .held cv) → ∃ y : Wo, y.object = x ∧ cv = y.val ∧ wof ws x = some y.val) := fun x hx hl cv hcv => by
        have hs := hG.l x hl hx
        obtain ⟨u, hu⟩ := Option.isSome_iff_exists.1 hs
        obtain ⟨y, -, e1, e2⟩ := wof_mem hu
        have e3 := (HD3.out x hx).2 u hu (.held (.int .i64 0))
        rw [hcv] at e3
        exact ⟨y, e1, by rw [DataW.held.inj e3, e2], by rw [hu, e2]⟩
      generalize hL : ls.length = L at *
      have HAp : Hid (∀ W (y : Wo), W.ownsRow (w.heap.size + 1) 46 4 (.slice a3 L c3) L (wcl ls) → w.heap.size + 1 ≤ W.heap.size → ∃ a' c' W', (Builtin.append_ #[40, 40] 40 #[.slice a3 L c3, .slice (some ⟨W.heap.size, 0, none⟩) 1 1]).run Try.prog (W.alloc (.cells #[.int .i64 y.object, .int .i64 y.vN, .int .i64 y.vX, .bool y.vD] 46)) = .ok (.slice a' (L + 1) c') W' ∧ W'.ownsRow (w.heap.size + 1) 46 4 (.slice a' (L + 1) c') (L + 1) (wcl (ls ++ [y])) ∧ Keeps (fun i => (Value.slice a3 L c3).ownBlock = some i) W W') := fun W y h hb => by
        obtain ⟨v', w', q1, q2, q3⟩ := append_w h hb (by omega) y
        obtain ⟨a', c', rfl, -⟩ := own_slice q2
        exact ⟨a', c', w', q1, q2, q3⟩
      clear hG
      go_wp2_with (first | (refine wpList_next_ranges wr rfl _ rfl 3 keyed Rh (Value.int .i64) id (fun key kl hk => by obtain ⟨x, rfl, _⟩ := Maps.keyOf_int_inv underI hk; exact ⟨x, rfl⟩) (fun v y _ => ⟨v, rfl⟩) b w.heap.size n D left cnt rfl hrg (fun h0 => absurd h0 hc) ?_; intro x cv kl yy w2 cnt2 hkey hlk hy hat hrg2 hlt2 hgr2 hsz2 hen2; clear hsz2; obtain ⟨x', ex, ek, hwx⟩ := Maps.keyOf_int_inv underI hkey; injection ex with _ ex; subst ex; subst ek; have hat' : ∀ zd, D.atKey (.int .i64 x) zd = .held cv := fun zd => (hat zd).trans (congrArg Prod.fst (Option.some.inj hy)).symm; obtain ⟨y, ey, rfl, hyv⟩ := HY.out x (i64_wf hwx) hlk cv hat'; subst ey; have k2 : Keeps (fun i => i = w.heap.size) wr w2 := (Keeps.refl _ wr).grown hgr2 (fun _ _ e => by cases e; rfl); obtain ⟨W4, hW4⟩ : ∃ W4, W4 = w2.alloc (.cells #[.int .i64 0, .int .i64 0, .bool false] 27) := ⟨_, rfl⟩; have k4 : Keeps (fun _ => False) w2 W4 := (by rw [hW4]; exact (Keeps.refl _ w2).alloc _); have hU4 : CL W4 w2.heap.size [.int .i64 0, .int .i64 0, .bool false] := (by rw [hW4]; exact CL.made w2 [.int .i64 0, .int .i64 0, .bool false] _); have HW4 : Hid (W4 = w2.alloc (.cells #[.int .i64 0, .int .i64 0, .bool false] 27)) := hW4; clear hW4; unfold Wo.val at hen2; dsimp only [id] at hen2) | (rw [← HW4.out]; clear HW4; refine wpList_store_cl rfl 27 _ _ rfl w2.heap.size 0 3 #[.int .i64 y.vN, .int .i64 y.vX, .bool y.vD] rfl rfl rfl hU4 (by show 3 ≤ 3; decide) iVal (one_val y) ?_; intro w5 hc5 k5 hsz5; clear hsz5; have hI5 : CL w5 w2.heap.size [.int .i64 y.vN, .int .i64 y.vX, .bool y.vD] := hc5; clear hc5; have p0 := hI5.c 0 _ rfl; have p1 := hI5.c 1 _ rfl; have p2 := hI5.c 2 _ rfl; have K25 : Keeps (fun _ => False) w2 w5 := k4.trans' k5 (fun _ _ e => e) (fun i hi e => (by have e : i = w2.heap.size := e; omega)); obtain ⟨a', c', W', hr', ho', kq⟩ := HAp.out w5 y (K25.owns (k2.owns hown (fun i e1 e2 => by have := hob i e1; have e2 : i = w.heap.size := e2; omega)) (fun _ _ e => e)) (by have := K25.size; have := k2.size; omega); clear HAp) | (at_builtin; refine wpList_append_t rfl _ _ _ rfl _ _ _ W' rfl rfl hr' ?_; clear hr'))
      have hyI : I64 y.object := i64_wf hwx
      have K9 : Keeps (fun _ => False) w W' := (kr.trans' k2 (fun _ _ e => e) (fun i hi e => by have e : i = w.heap.size := e; omega)).trans K25 |>.trans' kq (fun _ _ e => e) (fun i hi e => by have := hob i e; omega)
      have hrg9 := ranges_keep (ranges_keep hrg2 K25 (fun e => e) (fun e => e)) kq (fun e => by have := hob _ e; omega) (fun e => by have := hob _ e; omega)
      go_roundw
      case rel => exact ⟨_, _, ls ++ [y], hrg9, by rw [List.length_append, hL]; exact ho', HG.out.next hyI hlk hyv, by rw [List.length_append, hL]; simp; omega, K9⟩
      case measure => rw [hrg9.left_eq, hle]; exact hlt2
end Go.Proofs.Ytmnmphkkcabkiaa

namespace Go.Proofs.Ytmnmphkkcabkiaa
open Go.RowKit
theorem isNaN_any (x : Int) (w : World) : Calls Try.prog 64 #[.int .i64 x] w fun e w' => e = .returned (.bool false) ∧ w' = w := by
  have s1 : (x != x) = false := by simp
  go_enter Try.func64, Try.ntmps64
  go_wp2
  go_ret
  exact ⟨rfl, rfl⟩
theorem compare_any (x y : Int) (w : World) : Calls Try.prog 59 #[.int .i64 x, .int .i64 y] w fun e w' => e = .returned (.int .i64 (Lib.compareInt x y)) ∧ w' = w := by
  have hn := fun x => isNaN_any x w
  unfold Lib.compareInt
  by_cases h1 : x < y
  · have s1 : decide (x < y) = true := decide_eq_true h1
    rw [if_pos h1]
    go_enter Try.func59, Try.ntmps59
    go_wp2_with (go_at_call 64; refine (hn _).mono ?_; rintro e w9 ⟨rfl, rfl⟩)
    go_ret
    exact ⟨rfl, rfl⟩
  · have s1 : decide (x < y) = false := decide_eq_false h1
    rw [if_neg h1]
    by_cases h2 : x > y
    · have s2 : decide (x > y) = true := decide_eq_true h2
      have s3 : decide (y < x) = true := decide_eq_true h2
      have s4 : y < x := h2
      rw [if_pos h2]
      go_enter Try.func59, Try.ntmps59
      go_wp2_with (go_at_call 64; refine (hn _).mono ?_; rintro e w9 ⟨rfl, rfl⟩)
      go_ret
      exact ⟨rfl, rfl⟩
    · have s2 : decide (x > y) = false := decide_eq_false h2
      have s3 : decide (y < x) = false := decide_eq_false h2
      have s4 : ¬ y < x := h2
      rw [if_neg h2]
      go_enter Try.func59, Try.ntmps59
      go_wp2_with (go_at_call 64; refine (hn _).mono ?_; rintro e w9 ⟨rfl, rfl⟩)
      go_ret
      exact ⟨rfl, rfl⟩
set_option maxHeartbeats 1000000 in
theorem cmpW_any (x y : Wo) (w : World) : Calls Try.prog 58 #[.agg #[.int .i64 x.object, .int .i64 x.vN, .int .i64 x.vX, .bool x.vD], .agg #[.int .i64 y.object, .int .i64 y.vN, .int .i64 y.vX, .bool y.vD]] w fun e w' => e = .returned (.int .i64 (Lib.compareInt x.object y.object)) ∧ w' = (w.alloc (.cells #[.int .i64 x.object, .int .i64 x.vN, .int .i64 x.vX, .bool x.vD] 46)).alloc (.cells #[.int .i64 y.object, .int .i64 y.vN, .int .i64 y.vX, .bool y.vD] 46) := by
  have hcon := fun W' => compare_any x.object y.object W'
  generalize Lib.compareInt x.object y.object = r at hcon ⊢
  go_enter Try.func58, Try.ntmps58
  go_wp2_with (go_at_call 59; refine (hcon _).mono ?_; rintro e w9 ⟨rfl, rfl⟩)
  go_ret
  exact ⟨rfl, rfl⟩
end Go.Proofs.Ytmnmphkkcabkiaa

namespace Go.Proofs.Ytmnmphkkcabkiaa
open Go.RowKit
theorem fit_rel {f : Nat → Int} {r : Rw} {th : Nat} (h : fitP f r th = true) (hk : r.kind = 4) : -1 ≤ r.entry := by
  unfold fitP at h
  rw [if_neg (by omega)] at h
  split at h
  · cases h
  · rw [if_neg (by omega), if_neg (by omega), if_neg (by omega)] at h
    simp only [Bool.and_eq_true] at h
    have h1 := h.2
    unfold readP at h1
    split at h1
    · cases h1
    · simp only [Bool.and_eq_true, decide_eq_true_eq] at h1
      exact h1.1.2
def cK (l : List Rw) : Nat → Nat → Int → Nat
  | 0 => fun _ _ => 0
  | k + 1 => fun i => if ofD (l.getD k rw0).kind = true ∧ ((l.getD k rw0).no - 1).toNat = i then relC (cK l k i) (l.getD k rw0) else cK l k i
def relG (c : Int → Nat) (s : Sw) : Sw := if 0 < c s.entry then { s with rel := true } else s
theorem relG_entry (c : Int → Nat) (s : Sw) : (relG c s).entry = s.entry := by
  unfold relG
  split <;> rfl
theorem relG_next (c : Int → Nat) (e : Int) (s : Sw) : relS e (relG c s) = relG (fun x => if x = e then c x + 1 else c x) s := by
  unfold relS
  rw [relG_entry]
  by_cases h : s.entry = e
  · have e1 : relG (fun x => if x = e then c x + 1 else c x) s = { s with rel := true } := if_pos (by
      show 0 < (if s.entry = e then c s.entry + 1 else c s.entry)
      rw [if_pos h]
      omega)
    rw [if_pos h, e1]
    unfold relG
    split <;> rfl
  · rw [if_neg h]
    unfold relG
    simp [h]
theorem relG_none (s : Sw) : relG (fun _ => 0) s = s := by
  exact if_neg (Nat.lt_irrefl 0)
theorem map_none (l : List Sw) : l.map (relG (fun _ => 0)) = l := by
  rw [List.map_congr_left (g := id) (fun s _ => relG_none s)]
  simp
theorem rlK_saws {l : List Rw} {ts : List Tv} {n : Nat} (hE : ∀ k, k < n → (l.getD k rw0).kind = 4 → -1 ≤ (l.getD k rw0).entry) : ∀ k, k ≤ n → ∀ i, i < ts.length → (rlK l ts k).getD i tv0 = { ts.getD i tv0 with saws := (ts.getD i tv0).saws.map (relG (cK l k i)) }
  | 0, _, i, _ => by
    show ts.getD i tv0 = { ts.getD i tv0 with saws := (ts.getD i tv0).saws.map (relG (fun _ => 0)) }
    rw [map_none]
  | k + 1, hk, i, hi => by
    have ih := rlK_saws hE k (by omega) i hi
    have he := hE k (by omega)
    show (relR (rlK l ts k) (l.getD k rw0)).getD i tv0 = { ts.getD i tv0 with saws := (ts.getD i tv0).saws.map (relG (if ofD (l.getD k rw0).kind = true ∧ ((l.getD k rw0).no - 1).toNat = i then relC (cK l k i) (l.getD k rw0) else cK l k i)) }
    generalize l.getD k rw0 = r at *
    unfold relR
    by_cases h4 : r.kind = 4 ∧ 0 ≤ r.entry
    · rw [if_pos h4]
      have hof : ofD r.kind = true := by rw [h4.1]; rfl
      by_cases hj : (r.no - 1).toNat = i
      · rw [if_pos ⟨hof, hj⟩, hj, getD_set_eq (by rw [rlK_len]; exact hi), ih]
        dsimp only
        rw [List.map_map]
        have e : relC (cK l k i) r = fun x => if x = r.entry then cK l k i x + 1 else cK l k i x := by
          unfold relC
          rw [if_pos ⟨h4.1, by omega⟩]
        rw [e]
        congr 1
        exact List.map_congr_left (fun s _ => relG_next _ _ _)
      · rw [if_neg (fun e => hj e.2), getD_set_ne (fun e => hj e.symm)]
        exact ih
    · rw [if_neg h4]
      have e : (if ofD r.kind = true ∧ (r.no - 1).toNat = i then relC (cK l k i) r else cK l k i) = cK l k i := by
        split
        · unfold relC
          rw [if_neg (fun e => h4 ⟨e.1, by have := he e.1; omega⟩)]
        · rfl
      rw [e]
      exact ih
end Go.Proofs.Ytmnmphkkcabkiaa

namespace Go.Proofs.Ytmnmphkkcabkiaa
open Go.RowKit Go.WideShapes
attribute [local go_sem] Oper.semAt_some run_store_nf run_store_f
theorem scl_relB {v : Bool} : ∀ {l : List Sw} {j : Nat}, j < l.length → (scl l).set (j * 9 + 5) (.bool v) = scl (l.set j { l.getD j sw0 with rel := v })
  | [], _, h => by simp at h
  | s :: l, 0, _ => by
    show (s.cells ++ scl l).set (0 * 9 + 5) _ = ({ s with rel := v } : Sw).cells ++ scl l
    rw [List.set_append_left _ _ (by show 0 * 9 + 5 < 9; decide)]
    rfl
  | s :: l, j + 1, h => by
    have hs : s.cells.length = 9 := rfl
    show (s.cells ++ scl l).set ((j + 1) * 9 + 5) _ = s.cells ++ scl (l.set j { l.getD j sw0 with rel := v })
    rw [List.set_append_right _ _ (by omega), hs, show (j + 1) * 9 + 5 - 9 = j * 9 + 5 by omega, scl_relB (by simpa using h)]
def telG (c : Int → Nat) (s : Sw) : Sw := { s with rel := decide (0 < c s.entry) }
def tgJ (c : Int → Nat) (l : List Sw) (j : Nat) : List Sw := (l.take j).map (telG c) ++ l.drop j
theorem tgJ_len (c : Int → Nat) (l : List Sw) (j : Nat) : (tgJ c l j).length = l.length := by
  unfold tgJ
  rw [List.length_append, List.length_map, List.length_take, List.length_drop]
  omega
theorem tgJ_zero (c : Int → Nat) (l : List Sw) : tgJ c l 0 = l := by unfold tgJ; simp
theorem tgJ_all (c : Int → Nat) {l : List Sw} {j : Nat} (h : l.length ≤ j) : tgJ c l j = l.map (telG c) := by
  unfold tgJ
  rw [List.take_of_length_le h, List.drop_of_length_le h, List.append_nil]
theorem tgJ_get {c : Int → Nat} {l : List Sw} {j : Nat} (h : j < l.length) : (tgJ c l j).getD j sw0 = l.getD j sw0 := by
  unfold tgJ
  rw [List.getD_eq_getElem?_getD, List.getD_eq_getElem?_getD, List.getElem?_append_right (by rw [List.length_map, List.length_take]; omega), List.length_map, List.length_take, List.getElem?_drop, show j + (j - min j l.length) = j by omega]
theorem tgJ_next {c : Int → Nat} {l : List Sw} {j : Nat} (h : j < l.length) : tgJ c l (j + 1) = (tgJ c l j).set j (telG c (l.getD j sw0)) := by
  unfold tgJ
  have hg : l.getD j sw0 = l[j] := by rw [List.getD_eq_getElem?_getD, List.getElem?_eq_getElem h]; rfl
  have hl : ((l.take j).map (telG c)).length = j := by rw [List.length_map, List.length_take]; omega
  rw [List.set_append_right _ _ (by omega), hl, Nat.sub_self, List.take_add_one, List.getElem?_eq_getElem h, hg, List.map_append]
  have e2 : l.drop j = l[j] :: l.drop (j + 1) := List.drop_eq_getElem_cons h
  rw [e2]
  simp only [Option.toList, List.map_cons, List.map_nil, List.append_assoc, List.cons_append, List.nil_append, List.set_cons_zero]
theorem tgJ_scl {c : Int → Nat} {l : List Sw} {j : Nat} (h : j < l.length) : scl (tgJ c l (j + 1)) = (scl (tgJ c l j)).set (j * 9 + 5) (.bool (decide (0 < c (l.getD j sw0).entry))) := by
  rw [tgJ_next h, scl_relB (by rw [tgJ_len]; exact h), tgJ_get h]
  rfl
structure ST (p q rb n sb : Nat) (la lq : List Value) (s : Sw) (c : Int → Nat) (W : World) : Prop where
  a : CL W p la
  q : CL W q lq
  s : CL W sb s.cells
  m : MV W rb n (cf c)
def atT2 (f : Func) : Code := match f.body with | some (.seq _ (.seq _ t)) => t | _ => .skip
def atT3 (f : Func) : Code := match f.body with | some (.seq _ (.seq _ (.seq _ t))) => t | _ => .skip
set_option maxHeartbeats 1000000 in
set_option maxRecDepth 100000 in
theorem atell_1 {base p q z wb rb m : Nat} {X : World} {t : Tv} {sv : Value} {c : Int → Nat} {R : Ending → World → Prop} {x1 x4 x5 x6 x7 x8 x9 x10 x11 x12 x13 x14 x15 x16 x17 x18 x19 x20 x21 x22 x23 x24 x25 x26 x27 x28 x29 x30 x31 x32 x33 x34 x35 x36 x37 x38 : Value} (hA : PA base X p t sv wb rb c m) (hq : CL X q (t.cells sv nilv)) (hqs : ∀ b, sv.ownBlock = some b → b ≠ q) (hI : ∀ s ∈ t.saws, I64 s.entry) (hm : m ≤ 980000000000)
    (hP : ∀ W y1 y4 y5 y6 y7 y8 y9 y10 y11 y12 y13 y14 y15 y16 y17 y18 y19 y20 y21 y22 y23 y24 y25 y26 y27 y28 y29 y30 y31 y32 y33 y34 y35 y36 y37 y38, W.ownsRow base 44 9 sv t.saws.length (scl (t.saws.map (telG c))) → Keeps (fun b => sv.ownBlock = some b) X W → (atT3 Try.f25).wp Try.prog (bodyPost Try.prog Try.f25 R) { tmps := #[.pointer (some ⟨p, 0, none⟩), y1, .pointer (some ⟨z, 0, none⟩), .pointer (some ⟨q, 0, none⟩), y4, y5, y6, y7, y8, y9, y10, y11, y12, y13, y14, y15, y16, y17, y18, y19, y20, y21, y22, y23, y24, y25, y26, y27, y28, y29, y30, y31, y32, y33, y34, y35, y36, y37, y38], defers := [] } W) : (atT2 Try.f25).wp Try.prog (bodyPost Try.prog Try.f25 R) { tmps := #[.pointer (some ⟨p, 0, none⟩), x1, .pointer (some ⟨z, 0, none⟩), .pointer (some ⟨q, 0, none⟩), x4, x5, x6, x7, x8, x9, x10, x11, x12, x13, x14, x15, x16, x17, x18, x19, x20, x21, x22, x23, x24, x25, x26, x27, x28, x29, x30, x31, x32, x33, x34, x35, x36, x37, x38], defers := [] } X := by
  have HP : Hid (∀ W y1 y4 y5 y6 y7 y8 y9 y10 y11 y12 y13 y14 y15 y16 y17 y18 y19 y20 y21 y22 y23 y24 y25 y26 y27 y28 y29 y30 y31 y32 y33 y34 y35 y36 y37 y38, W.ownsRow base 44 9 sv t.saws.length (scl (t.saws.map (telG c))) → Keeps (fun b => sv.ownBlock = some b) X W → (atT3 Try.f25).wp Try.prog (bodyPost Try.prog Try.f25 R) { tmps := #[.pointer (some ⟨p, 0, none⟩), y1, .pointer (some ⟨z, 0, none⟩), .pointer (some ⟨q, 0, none⟩), y4, y5, y6, y7, y8, y9, y10, y11, y12, y13, y14, y15, y16, y17, y18, y19, y20, y21, y22, y23, y24, y25, y26, y27, y28, y29, y30, y31, y32, y33, y34, y35, y36, y37, y38], defers := [] } W) := hP
  clear hP
  have q9 := hq.c 9 _ rfl
  obtain ⟨n, hn, hM⟩ := hA.r
  have hls := hA.ls.1
  have hso := hA.s
  have hsb := hA.sb
  have hcm := hA.cm
  have hacl := hA.cl
  obtain ⟨asl, csl, rfl, -⟩ := own_slice hso
  have HI : Hid (∀ j, j < t.saws.length → I64 (t.saws.getD j sw0).entry) := fun j hj => by
    have e : t.saws.getD j sw0 = t.saws[j] := by rw [List.getD_eq_getElem?_getD, List.getElem?_eq_getElem hj]; rfl
    rw [e]
    exact hI _ (List.getElem_mem hj)
  clear hI hA
  generalize hSS : t.saws = SS at *
  generalize hns : SS.length = ns at *
  dsimp only [atT2, Try.f25]
  refine wp_seq_k (fun KK hKK => ?_)
  have hKH : Hid _ := hKK
  clear hKK
  go_wp2_with fail
  go_loopw [13] (fun jv Wr => ∃ (j : Nat), jv = .int .i64 (j : Int) ∧ j ≤ ns ∧ Wr.ownsRow base 44 9 (.slice asl ns csl) ns (scl (tgJ c SS j)) ∧ Keeps (fun b => (Value.slice asl ns csl).ownBlock = some b) X Wr) (fun jv _ => ns - (intOf jv).toNat)
  case atStart => exact ⟨0, rfl, Nat.zero_le _, by rw [tgJ_zero]; exact hso, Keeps.refl _ _⟩
  case round =>
    obtain ⟨j, rfl, hj, ho, kj⟩ := hrel
    clear hso q9
    by_cases hjt : j < ns
    · have m1 : decide ((j : Int) < (ns : Int)) = true := decide_eq_true (by omega)
      have m2 : (j : Int) < (ns : Int) := by omega
      have m3 : (0 : Int) ≤ (j : Int) := by omega
      obtain ⟨g, rfl⟩ : ∃ g, asl = some ⟨g, 0, none⟩ := by
        rcases ho.2 with ⟨_, h0⟩ | ⟨g', _, _, e, _⟩
        · omega
        · injection e with e _ _
          exact ⟨g', e⟩
      have hcj := own_cl ho
      have hgs := hsb g rfl
      have hgq := hqs g rfl
      have hsi := HI.out j (by omega)
      have HS1 : Hid (scl (tgJ c SS (j + 1)) = (scl (tgJ c SS j)).set (j * 9 + 5) (.bool (decide (0 < c (SS.getD j sw0).entry)))) := tgJ_scl (by omega)
      have hRs := run_swAt (W := wr) (s := SS.getD j sw0) (b := g) (o := j * 9) (fun i v e => hcj.c _ _ (scl_getD (by rw [tgJ_len]; omega) (by rw [tgJ_get (by omega)]; exact e)))
      have hx5 : (scl (tgJ c SS j))[j * 9 + 5]? = some (.bool (SS.getD j sw0).rel) := scl_getD (by rw [tgJ_len]; omega) (by rw [tgJ_get (by omega)]; rfl)
      have y5 := hcj.c _ _ hx5
      have z5 := hcj.z (j * 9 + 5) (List.getElem?_eq_some_iff.1 hx5).1
      have hce := hcm (SS.getD j sw0).entry
      generalize SS.getD j sw0 = s at *
      obtain ⟨W4, hW4⟩ : ∃ W4, W4 = wr.alloc (.cells #[.int .i64 0, .int .i64 0, .int .i64 0, .bool false, .bool false, .bool false, .int .i64 0, .int .i64 0, .bool false] 44) := ⟨_, rfl⟩
      have k4 : Keeps (fun _ => False) wr W4 := by rw [hW4]; exact (Keeps.refl _ wr).alloc _
      have hU4 : CL W4 wr.heap.size sw0.cells := by rw [hW4]; exact CL.made wr sw0.cells _
      have HW4 : Hid (W4 = wr.alloc (.cells #[.int .i64 0, .int .i64 0, .int .i64 0, .bool false, .bool false, .bool false, .int .i64 0, .int .i64 0, .bool false] 44)) := hW4
      have hgl := owns_lt' ho g rfl
      have hOC := one_sw s
      clear hW4 hx5 hcj
      go_wp2_with (first | (refine wpList_load_run rfl 44 _ rfl ⟨g, j * 9, none⟩ rfl _ hRs ?_; clear hRs) | (rw [← HW4.out]; clear HW4; refine wpList_store_cl rfl 44 _ _ rfl wr.heap.size 0 9 _ rfl rfl rfl hU4 (by show 9 ≤ 9; decide) iSwS hOC ?_; intro w5 hc5 k5 hsz5; clear hsz5; have hI5 : CL w5 wr.heap.size s.cells := hc5; clear hc5; have K45 : Keeps (fun _ => False) wr w5 := k4.trans' k5 (fun _ _ e => e) (fun i hi e => (by have e : i = wr.heap.size := e; omega))))
      have kk5 : Keeps (fun b => b = g) X w5 := (kj.mono (fun b _ e => (Option.some.inj e).symm)).trans' K45 (fun _ _ e => e) (fun _ _ e => e.elim)
      have hA5 := hacl.keep (by show 0 < 13; decide) kk5 (fun e => hgs.1 (Eq.symm e))
      have hq5 := hq.keep (by show 0 < 11; decide) kk5 (fun e => hgq (Eq.symm e))
      have hM5 := hM.keep kk5 (fun e => hgs.2.2 (Eq.symm e))
      have x5 := K45.cell y5 (fun e => e)
      have ho5 := K45.owns ho (fun _ _ e => e)
      have hz5 := (own_cl ho5).z (j * 9 + 5) (by rw [scl_len, tgJ_len]; omega)
      refine wp_region_held_drew (S := ST p q rb n wr.heap.size (t.cells (.slice (some ⟨g, 0, none⟩) ns csl) nilv ++ [.map (some wb), .map (some rb)]) (t.cells (.slice (some ⟨g, 0, none⟩) ns csl) nilv) s c) (by kernel_rfl) ⟨hA5.drew, hq5.drew, hI5.drew, hM5.keep (Keeps.refl (fun _ => False) w5).drew (fun e => e)⟩ (fun hHeld => ?_)
      refine wpAnyH_take (i := 0) (v := ?_) rfl (by kernel_rfl) (by kernel_rfl) (by kernel_rfl) (fun _ _ _ h => h) (Or.inl ⟨by rfl, ?_⟩) (by assumption) ?_
      rotate_left
      · intro wx hSw; clear hSw; go_simp <;> with_reducible rfl
      (try simp only [List.getElem_toArray]); (try simp only [List.getElem_cons_succ]); (try simp only [List.getElem_cons_zero]); (try simp only [Act.put]); (try simp only [List.setIfInBounds_toArray]); (repeat first | simp only [List.set_cons_succ] | simp only [List.set_cons_zero])
      refine wpAnyH_take (i := 1) (v := ?_) rfl (by kernel_rfl) (by kernel_rfl) (by kernel_rfl) (fun _ _ _ h => h) (Or.inl ⟨by rfl, ?_⟩) (by assumption) ?_
      rotate_left
      · intro wx hSw; have p1 := hSw.q.c 9 _ rfl; clear hSw; go_simp <;> with_reducible rfl
      (try simp only [List.getElem_toArray]); (try simp only [List.getElem_cons_succ]); (try simp only [List.getElem_cons_zero]); (try simp only [Act.put]); (try simp only [List.setIfInBounds_toArray]); (repeat first | simp only [List.set_cons_succ] | simp only [List.set_cons_zero])
      refine wpAnyH_take (i := 2) (v := ?_) rfl (by kernel_rfl) (by kernel_rfl) (by kernel_rfl) (fun _ _ _ h => h) (Or.inl ⟨by rfl, ?_⟩) (by assumption) ?_
      rotate_left
      · intro wx hSw; clear hSw; go_simp <;> with_reducible rfl
      (try simp only [List.getElem_toArray]); (try simp only [List.getElem_cons_succ]); (try simp only [List.getElem_cons_zero]); (try simp only [Act.put]); (try simp only [List.setIfInBounds_toArray]); (repeat first | simp only [List.set_cons_succ] | simp only [List.set_cons_zero])
      refine wpAnyH_take (i := 3) (v := ?_) rfl (by kernel_rfl) (by kernel_rfl) (by kernel_rfl) (fun _ _ _ h => h) (Or.inl ⟨by rfl, ?_⟩) (by assumption) ?_
      rotate_left
      · intro wx hSw; clear hSw; go_simp <;> with_reducible rfl
      (try simp only [List.getElem_toArray]); (try simp only [List.getElem_cons_succ]); (try simp only [List.getElem_cons_zero]); (try simp only [Act.put]); (try simp only [List.setIfInBounds_toArray]); (repeat first | simp only [List.set_cons_succ] | simp only [List.set_cons_zero])
      refine wpAnyH_take (i := 4) (v := ?_) rfl (by kernel_rfl) (by kernel_rfl) (by kernel_rfl) (fun _ _ _ h => h) (Or.inl ⟨by rfl, ?_⟩) (by assumption) ?_
      rotate_left
      · intro wx hSw; clear hSw; go_simp <;> with_reducible rfl
      (try simp only [List.getElem_toArray]); (try simp only [List.getElem_cons_succ]); (try simp only [List.getElem_cons_zero]); (try simp only [Act.put]); (try simp only [List.setIfInBounds_toArray]); (repeat first | simp only [List.set_cons_succ] | simp only [List.set_cons_zero])
      refine wpAnyH_take (i := 5) (v := ?_) rfl (by kernel_rfl) (by kernel_rfl) (by kernel_rfl) (fun _ _ _ h => h) (Or.inl ⟨by rfl, ?_⟩) (by assumption) ?_
      rotate_left
      · intro wx hSw; clear hSw; go_simp <;> with_reducible rfl
      (try simp only [List.getElem_toArray]); (try simp only [List.getElem_cons_succ]); (try simp only [List.getElem_cons_zero]); (try simp only [Act.put]); (try simp only [List.setIfInBounds_toArray]); (repeat first | simp only [List.set_cons_succ] | simp only [List.set_cons_zero])
      refine wpAnyH_take (i := 6) (v := ?_) rfl (by kernel_rfl) (by kernel_rfl) (by kernel_rfl) (fun _ _ _ h => h) (Or.inl ⟨by rfl, ?_⟩) (by assumption) ?_
      rotate_left
      · intro wx hSw; have p1 := hSw.a.c 12 _ rfl; clear hSw; go_simp <;> with_reducible rfl
      (try simp only [List.getElem_toArray]); (try simp only [List.getElem_cons_succ]); (try simp only [List.getElem_cons_zero]); (try simp only [Act.put]); (try simp only [List.setIfInBounds_toArray]); (repeat first | simp only [List.set_cons_succ] | simp only [List.set_cons_zero])
      refine wpAnyH_take (i := 7) (v := ?_) rfl (by kernel_rfl) (by kernel_rfl) (by kernel_rfl) (fun _ _ _ h => h) (Or.inl ⟨by rfl, ?_⟩) (by assumption) ?_
      rotate_left
      · intro wx hSw; clear hSw; go_simp <;> with_reducible rfl
      (try simp only [List.getElem_toArray]); (try simp only [List.getElem_cons_succ]); (try simp only [List.getElem_cons_zero]); (try simp only [Act.put]); (try simp only [List.setIfInBounds_toArray]); (repeat first | simp only [List.set_cons_succ] | simp only [List.set_cons_zero])
      refine wpAnyH_take (i := 8) (v := ?_) rfl (by kernel_rfl) (by kernel_rfl) (by kernel_rfl) (fun _ _ _ h => h) (Or.inl ⟨by rfl, ?_⟩) (by assumption) ?_
      rotate_left
      · intro wx hSw; have p1 := hSw.s.c 2 _ rfl; clear hSw; go_simp <;> with_reducible rfl
      (try simp only [List.getElem_toArray]); (try simp only [List.getElem_cons_succ]); (try simp only [List.getElem_cons_zero]); (try simp only [Act.put]); (try simp only [List.setIfInBounds_toArray]); (repeat first | simp only [List.set_cons_succ] | simp only [List.set_cons_zero])
      refine wpAnyH_take (i := 9) (v := ?_) rfl (by kernel_rfl) (by kernel_rfl) (by kernel_rfl) (fun _ _ _ h => h) (Or.inl ⟨by rfl, ?_⟩) (by assumption) ?_
      rotate_left
      · intro wx hSw; have p1 := hSw.m.look underR (zeroI _) hsi; rw [cf_at] at p1; clear hSw; go_simp <;> with_reducible rfl
      (try simp only [List.getElem_toArray]); (try simp only [List.getElem_cons_succ]); (try simp only [List.getElem_cons_zero]); (try simp only [Act.put]); (try simp only [List.setIfInBounds_toArray]); (repeat first | simp only [List.set_cons_succ] | simp only [List.set_cons_zero])
      refine wpAnyH_take (i := 10) (v := ?_) rfl (by kernel_rfl) (by kernel_rfl) (by kernel_rfl) (fun _ _ _ h => h) (Or.inl ⟨by rfl, ?_⟩) (by assumption) ?_
      rotate_left
      · intro wx hSw; clear hSw; go_simp <;> with_reducible rfl
      (try simp only [List.getElem_toArray]); (try simp only [List.getElem_cons_succ]); (try simp only [List.getElem_cons_zero]); (try simp only [Act.put]); (try simp only [List.setIfInBounds_toArray]); (repeat first | simp only [List.set_cons_succ] | simp only [List.set_cons_zero])
      refine wpAnyH_take (i := 11) (v := ?_) rfl (by kernel_rfl) (by kernel_rfl) (by kernel_rfl) (fun _ _ _ h => h) (Or.inl ⟨by rfl, ?_⟩) (by assumption) ?_
      rotate_left
      · intro wx hSw; clear hSw; go_simp <;> with_reducible rfl
      (try simp only [List.getElem_toArray]); (try simp only [List.getElem_cons_succ]); (try simp only [List.getElem_cons_zero]); (try simp only [Act.put]); (try simp only [List.setIfInBounds_toArray]); (repeat first | simp only [List.set_cons_succ] | simp only [List.set_cons_zero])
      refine wpAnyH_take (i := 12) (v := ?_) rfl (by kernel_rfl) (by kernel_rfl) (by kernel_rfl) (fun _ _ _ h => h) (Or.inl ⟨by rfl, ?_⟩) (by assumption) ?_
      rotate_left
      · intro wx hSw; clear hSw; go_simp <;> with_reducible rfl
      (try simp only [List.getElem_toArray]); (try simp only [List.getElem_cons_succ]); (try simp only [List.getElem_cons_zero]); (try simp only [Act.put]); (try simp only [List.setIfInBounds_toArray]); (repeat first | simp only [List.set_cons_succ] | simp only [List.set_cons_zero])
      refine wpAnyH_one 13 (by kernel_rfl) rfl rfl ?_
      go_simp
      refine ⟨⟨hHeld.a.other (p := ⟨g, j * 9 + 5, none⟩) hgs.1 _, hHeld.q.other (p := ⟨g, j * 9 + 5, none⟩) hgq _, hHeld.s.other (p := ⟨g, j * 9 + 5, none⟩) (by show g ≠ wr.heap.size; omega) _, hHeld.m.keep ((Keeps.refl (fun b => b = g) _).setCell (p := ⟨g, j * 9 + 5, none⟩) (fun _ => rfl) _) (fun e => hgs.2.2 (Eq.symm e))⟩, fun _ => ?_⟩
      (try simp only [List.getElem_toArray]); (try simp only [List.getElem_cons_succ]); (try simp only [List.getElem_cons_zero]); (try simp only [Act.put]); (try simp only [List.setIfInBounds_toArray]); (repeat first | simp only [List.set_cons_succ] | simp only [List.set_cons_zero])
      refine wpAnyH_done (by kernel_rfl) ?_ _
      have ho6 := ((Keeps.refl (fun _ => False) w5).drew.owns ho5 (fun _ _ e => e)).stored (j * 9 + 5) (.bool (decide (0 < c s.entry))) |>.1
      rw [← HS1.out] at ho6
      have kj6 : Keeps (fun b => (Value.slice (some ⟨g, 0, none⟩) ns csl).ownBlock = some b) X (w5.drew.setCell ⟨g, j * 9 + 5, none⟩ (.bool (decide (0 < c s.entry)))) := (kk5.drew.setCell (p := ⟨g, j * 9 + 5, none⟩) (fun _ => rfl) _).mono (fun b _ e => by have e : b = g := e; subst e; rfl)
      go_wp2_with fail
      go_roundw
      case rel => exact ⟨j + 1, by go_num, by omega, ho6, kj6⟩
      case measure => simp [intOf]; omega
    · have e : j = ns := by omega
      subst e
      have m1 : decide ((j : Int) < (j : Int)) = false := decide_eq_false (by omega)
      rw [tgJ_all _ (by omega)] at ho
      go_wp2_with fail
      refine hKH.out _ _ ?_
      exact HP.out _ _ _ _ _ _ _ _ _ _ _ _ _ _ _ _ _ _ _ _ _ _ _ _ _ _ _ _ _ _ _ _ _ _ _ _ _ ho kj
end Go.Proofs.Ytmnmphkkcabkiaa

