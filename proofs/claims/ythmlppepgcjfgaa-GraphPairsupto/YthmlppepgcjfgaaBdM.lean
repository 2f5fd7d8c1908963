import Derived.Test.YthmlppepgcjfgaaBdL
namespace Go.Proofs.Ythmlppepgcjfgaa
open Go.RowKit Go.Deep
attribute [local go_sem] Oper.semAt_some run_store_nf run_store_f
theorem wp_call2 (f : Nat) {o : Oper} {a : Act} {w : World} {K : Act → World → Prop} {Q : Exit → Act → World → Prop} (x y : Tmp) {t1 t2 : TypeId} (ho : o.op = .call { callee := .value (.func f), args := #[.tmp x, .tmp y], argTypes := #[t1, t2] }) (v1 v2 : Value) (hx : a.tmps[x]?.getD undef = v1) (hy : a.tmps[y]?.getD undef = v2) (hcf : ∀ args w, (callFunc f args).run Try.prog w = .ok (.enter f args) w) (h : Calls Try.prog f #[v1, v2] w (fun e w' => ∃ v, e = .returned v ∧ K (a.put o.dst v) w')) : o.wp Try.prog a w K Q := by
  unfold Oper.wp execOp
  simp only [ho]
  go_simp
  refine h.mono ?_
  rintro e w' ⟨v, rfl, h⟩
  exact h
theorem wp_call1 (f : Nat) {o : Oper} {a : Act} {w : World} {K : Act → World → Prop} {Q : Exit → Act → World → Prop} (x : Tmp) {t1 : TypeId} (ho : o.op = .call { callee := .value (.func f), args := #[.tmp x], argTypes := #[t1] }) (v1 : Value) (hx : a.tmps[x]?.getD undef = v1) (hcf : ∀ args w, (callFunc f args).run Try.prog w = .ok (.enter f args) w) (h : Calls Try.prog f #[v1] w (fun e w' => ∃ v, e = .returned v ∧ K (a.put o.dst v) w')) : o.wp Try.prog a w K Q := by
  unfold Oper.wp execOp
  simp only [ho]
  go_simp
  refine h.mono ?_
  rintro e w' ⟨v, rfl, h⟩
  exact h
def acl (l : List At) : List Value := l.flatMap At.cells
theorem acl_len : ∀ (l : List At), (acl l).length = l.length * 5
  | [] => rfl
  | c :: l => by
    have := acl_len l
    unfold acl at this ⊢
    rw [List.flatMap_cons, List.length_append, this, List.length_cons]
    show 5 + _ = _
    omega
theorem acl_app (l m : List At) : acl (l ++ m) = acl l ++ acl m := by unfold acl; rw [List.flatMap_append]
theorem acl_one (t : At) : acl [t] = t.cells := by unfold acl; simp
theorem acl_get : ∀ (l : List At) (i : Nat), i < l.length → ∀ (j : Nat) (v : Value), (l.getD i at0).cells[j]? = some v → (acl l)[i * 5 + j]? = some v
  | c :: l, 0, _, j, v, h => by
    have h : c.cells[j]? = some v := h
    have hj : j < 5 := (List.getElem?_eq_some_iff.1 h).1
    unfold acl
    rw [List.flatMap_cons, Nat.zero_mul, Nat.zero_add, List.getElem?_append_left hj]
    exact h
  | c :: l, i + 1, hi, j, v, h => by
    have ih := acl_get l i (by simpa using hi) j v (by simpa using h)
    unfold acl at ih ⊢
    rw [List.flatMap_cons, List.getElem?_append_right (show 5 ≤ (i + 1) * 5 + j by omega)]
    show (l.flatMap At.cells)[(i + 1) * 5 + j - 5]? = _
    rw [show (i + 1) * 5 + j - 5 = i * 5 + j by omega]
    exact ih
theorem atm_of {W : World} {base n : Nat} {v : Value} {l : List At} (h : W.ownsRow base 58 5 v n (acl l)) : ∃ a cap, v = .slice a n cap ∧ ATM W a l ∧ n = l.length := by
  have hl := h.1
  rw [acl_len] at hl
  obtain ⟨a, cap, rfl, hc, _⟩ := own_slice h
  refine ⟨a, cap, rfl, fun i hi => ?_, by omega⟩
  obtain ⟨g, rfl, _⟩ := hc (i * 5 + 0) _ (acl_get l i hi 0 _ rfl)
  refine ⟨g, 0, rfl, fun j v hv => ?_⟩
  obtain ⟨g', e', hc'⟩ := hc (i * 5 + j) _ (acl_get l i hi j v hv)
  cases e'
  rw [Nat.zero_add]
  exact hc'
theorem uA : Try.prog.underlying 41 = some (.slice 58) := by kernel_rfl
theorem iA : (Try.prog.info? 58).map (fun i => (i.zero, i.size, i.bytes)) = some (some (.agg #[.int .i64 0, .int .i64 0, .int .i64 0, .slice none 0 0, .slice none 0 0]), 5, 72) := by kernel_rfl
theorem at_one (t : At) : ∀ u ∈ t.cells, u.oneCell' = true := by
  intro u hu
  simp [At.cells] at hu
  rcases hu with rfl | rfl | rfl | rfl | rfl <;> rfl
theorem append_a {W : World} {base k : Nat} {v : Value} {l : List At} (hown : W.ownsRow base 58 5 v k (acl l)) (hb : base ≤ W.heap.size) (hk : (k + 1) * 72 ≤ 140737488355328) (x : At) :
    ∃ v' w', (Builtin.append_ #[41, 41] 41 #[v, .slice (some ⟨W.heap.size, 0, none⟩) 1 1]).run Try.prog (W.alloc (.cells x.cells.toArray 58)) = .ok v' w' ∧ w'.ownsRow base 58 5 v' (k + 1) (acl (l ++ [x])) ∧ Keeps (fun i => v.ownBlock = some i) W w' ∧ (v'.ownBlock = v.ownBlock ∨ v'.ownBlock = some (W.heap.size + 1)) := by
  obtain ⟨v', w', hr, ho, kk, hb⟩ := append_sz uA iA rfl (by decide) hown hb (by decide) hk x.cells rfl (at_one x)
  refine ⟨v', w', hr, ?_, kk, hb⟩
  rw [acl_app, acl_one]
  exact ho
theorem wp_buildAt {o : Oper} {a : Act} {w : World} {K : Act → World → Prop} {Q : Exit → Act → World → Prop} (x : Operand) (ho : o.op = .buildSlice 41 1 #[(0, x)]) (cs : Array Value) (hc : cs.size = 5) (hx : a.eval x = .agg cs)
    (h : K (a.put o.dst (.slice (some ⟨w.heap.size, 0, none⟩) 1 1)) (w.alloc (.cells cs 58))) : o.wp Try.prog a w K Q := by
  obtain ⟨i0, hi0, hzz⟩ := Option.map_eq_some_iff.1 iA
  simp only [Prod.mk.injEq] at hzz
  obtain ⟨hz0, hz1, -⟩ := hzz
  refine wp_buildSlice 41 58 1 _ ho cs i0 _ uA hi0 hz0 (by rw [hz1]; decide) (by rw [hz1]; decide) ?_ h
  rw [hz1]
  have e : (#[(0, x)].map fun (i, x) => (i, a.eval x)).toList = ([Value.agg cs].zipIdx 0).map fun x => (x.2, x.1) := by simp [hx]
  have e2 : ([Value.agg cs].flatMap fun v => v.cells.toList).toArray = cs := by simp; rfl
  rw [e, Great.fill_whole (s := 5) (by decide) [Value.agg cs] _ (fun v hv => by simp at hv; subst hv; exact hc) (by simp), e2]
theorem IMr.keepS {w w' : World} {a : Option Addr} {L : List Int} {S : Nat → Prop} (h : IMr w a L) (k : Keeps S w w') (hS : 0 < L.length → ∀ b off, a = some ⟨b, off, none⟩ → ¬ S b) : IMr w' a L := fun i hi => by
  obtain ⟨b, e, hc⟩ := h i hi
  exact ⟨b, e, k.cell hc (hS (by omega) b 0 e)⟩
theorem IMr.keep {w w' : World} {a : Option Addr} {L : List Int} (h : IMr w a L) (k : Keeps (fun _ => False) w w') : IMr w' a L := h.keepS k (fun _ _ _ _ e => e)
theorem IMr.lt {w : World} {a : Option Addr} {L : List Int} (h : IMr w a L) (h0 : 0 < L.length) {b off : Nat} (e : a = some ⟨b, off, none⟩) : b < w.heap.size := by
  obtain ⟨b', e', hc⟩ := h 0 h0
  rw [e] at e'
  injection e' with e'
  injection e' with e' _ _
  subst e'
  exact World.block_lt_of_cell? w _ hc
/-- An attempt of the program's is what it is. -/
structure AtR (W : World) (p : At × Ag) : Prop where
  o : OwA p
  rn : p.1.rn = p.2.rs.length
  wn : p.1.wn = p.2.ws.length
  r : IMr W p.1.ra p.2.rs
  w : IMr W p.1.wa p.2.ws
theorem AtR.keep {w w' : World} {p : At × Ag} (h : AtR w p) (k : Keeps (fun _ => False) w w') : AtR w' p := ⟨h.o, h.rn, h.wn, h.r.keep k, h.w.keep k⟩
/-- The committed ones, on their way. -/
structure CmS (w W : World) (ts : List Tv) (k : Nat) (v : Value) (P : List (At × Ag)) : Prop where
  o : W.ownsRow w.heap.size 58 5 v P.length (acl (P.map (·.1)))
  r : ∀ p ∈ P, AtR W p
  a : ∀ p ∈ P, (0 < p.2.rs.length → ∀ b off, p.1.ra = some ⟨b, off, none⟩ → v.ownBlock ≠ some b) ∧ (0 < p.2.ws.length → ∀ b off, p.1.wa = some ⟨b, off, none⟩ → v.ownBlock ≠ some b)
  g : CmG ts k (P.map (·.2))
  k : Keeps (fun _ => False) w W
theorem CmS.start (w : World) (ts : List Tv) : CmS w w ts 0 (.slice none 0 0) [] := ⟨World.ownsRow_nil _ _ _ _, (fun _ h => nomatch h), (fun _ h => nomatch h), CmG.start ts, Keeps.refl _ w⟩
theorem CmS.stay {w W W' : World} {ts : List Tv} {k : Nat} {v : Value} {P : List (At × Ag)} (h : CmS w W ts k v P) (hk : k < ts.length) (ho : (ts.getD k tv0).out ≠ 1) (kk : Keeps (fun _ => False) W W') : CmS w W' ts (k + 1) v P :=
  ⟨kk.owns h.o (fun _ _ e => e), fun p hp => (h.r p hp).keep kk, h.a, h.g.stay hk ho, h.k.trans kk⟩
theorem rdL_rdB {t : Tv} {x : Int} : x ∈ rdL t.saws ↔ rdB t x = true := by
  unfold rdL rdB
  rw [List.any_eq_true, List.mem_map]
  constructor
  · rintro ⟨s, hs, rfl⟩
    obtain ⟨h1, h2⟩ := List.mem_filter.1 hs
    refine ⟨s, h1, ?_⟩
    simp at h2 ⊢
    exact h2
  · rintro ⟨s, hs, h⟩
    simp at h
    exact ⟨s, List.mem_filter.2 ⟨hs, by simp [h.1.2, h.2]⟩, h.1.1⟩
theorem wrL_wrB {t : Tv} {x : Int} : x ∈ wrL t.wrs ↔ wrB t x = true := by
  unfold wrL wrB
  rw [List.any_eq_true, List.mem_map]
  constructor
  · rintro ⟨s, hs, rfl⟩
    exact ⟨s, hs, by simp⟩
  · rintro ⟨s, hs, h⟩
    exact ⟨s, hs, beq_iff_eq.1 h⟩
theorem CmS.next {w W W2 W' : World} {ts : List Tv} {k : Nat} {v v' : Value} {P : List (At × Ag)} (h : CmS w W ts k v P) (hk : k < ts.length) (ho : (ts.getD k tv0).out = 1) {ra wa : Option Addr} {rs ws : List Int} {rc wc : Nat} (k2 : Keeps (fun _ => False) W W2) (h1 : IMr W2 ra rs) (h2 : IMr W2 wa ws) (n1 : 0 < rs.length → ∀ b off, ra = some ⟨b, off, none⟩ → W.heap.size ≤ b) (n2 : 0 < ws.length → ∀ b off, wa = some ⟨b, off, none⟩ → W.heap.size ≤ b) (p1 : rs.Pairwise (fun x y => x < y)) (p2 : ws.Pairwise (fun x y => x < y)) (m1 : ∀ x, x ∈ rs ↔ x ∈ rdL (ts.getD k tv0).saws) (m2 : ∀ x, x ∈ ws ↔ x ∈ wrL (ts.getD k tv0).wrs) (l1 : rs.length ≤ (rdL (ts.getD k tv0).saws).length) (l2 : ws.length ≤ (wrL (ts.getD k tv0).wrs).length)
    (ow : W'.ownsRow w.heap.size 58 5 v' (P.length + 1) (acl (P.map (·.1) ++ [⟨(k : Int), (ts.getD k tv0).fnl, (ts.getD k tv0).end_, ra, rs.length, rc, wa, ws.length, wc⟩]))) (kq : Keeps (fun i => v.ownBlock = some i) W2 W') (hb : v'.ownBlock = v.ownBlock ∨ v'.ownBlock = some (W2.heap.size + 1)) :
    CmS w W' ts (k + 1) v' (P ++ [(⟨(k : Int), (ts.getD k tv0).fnl, (ts.getD k tv0).end_, ra, rs.length, rc, wa, ws.length, wc⟩, ⟨(k : Int), (ts.getD k tv0).fnl, (ts.getD k tv0).end_, rs, ws⟩)]) := by
  have hlt := fun b e => owns_lt' h.o b e
  have hz := k2.size
  have nb : ∀ b, b < W2.heap.size → v.ownBlock ≠ some b → v'.ownBlock ≠ some b := fun b hb2 hn e => by
    rcases hb with q | q
    · rw [q] at e; exact hn e
    · rw [q] at e; injection e with e; omega
  have o1 : 0 < rs.length → ∀ b off, ra = some ⟨b, off, none⟩ → v.ownBlock ≠ some b := fun h0 b off e q => by have := n1 h0 b off e; have := hlt b q; omega
  have o2 : 0 < ws.length → ∀ b off, wa = some ⟨b, off, none⟩ → v.ownBlock ≠ some b := fun h0 b off e q => by have := n2 h0 b off e; have := hlt b q; omega
  refine ⟨?_, fun p hp => ?_, fun p hp => ?_, ?_, ?_⟩
  · rw [List.length_append, List.map_append]; exact ow
  · rcases List.mem_append.1 hp with q | q
    · have hr := (h.r p q).keep k2
      exact ⟨hr.o, hr.rn, hr.wn, hr.r.keepS kq (fun h0 b off e => (h.a p q).1 h0 b off e), hr.w.keepS kq (fun h0 b off e => (h.a p q).2 h0 b off e)⟩
    · simp at q
      subst q
      exact ⟨⟨rfl, rfl, rfl⟩, rfl, rfl, h1.keepS kq o1, h2.keepS kq o2⟩
  · rcases List.mem_append.1 hp with q | q
    · have hr := h.r p q
      exact ⟨fun h0 b off e => nb b (by have := hr.r.lt h0 e; omega) ((h.a p q).1 h0 b off e), fun h0 b off e => nb b (by have := hr.w.lt h0 e; omega) ((h.a p q).2 h0 b off e)⟩
    · simp at q
      subst q
      exact ⟨fun h0 b off e => nb b (h1.lt h0 e) (o1 h0 b off e), fun h0 b off e => nb b (h2.lt h0 e) (o2 h0 b off e)⟩
  · rw [List.map_append]
    exact h.g.next hk ho rs ws p1 p2 (fun x => (m1 x).trans rdL_rdB) (fun x => (m2 x).trans wrL_wrB) (Nat.le_trans l1 (rdL_len _)) (Nat.le_trans l2 (Nat.le_of_eq (wrL_len _)))
  · exact (h.k.trans k2).trans' kq (fun _ _ e => e) (fun i hi e => by have := owns_baseT h.o i e; omega)
/-- An attempt's cells that are read. -/
structure TxS (W : World) (b : Nat) (fn en : Int) (sv wv : Value) : Prop where
  c6 : W.cell? ⟨b, 6, none⟩ = some (.int .i64 fn)
  c7 : W.cell? ⟨b, 7, none⟩ = some (.int .i64 en)
  c9 : W.cell? ⟨b, 9, none⟩ = some sv
  c10 : W.cell? ⟨b, 10, none⟩ = some wv
theorem TxS.keep {W W' : World} {b : Nat} {fn en : Int} {sv wv : Value} {S : Nat → Prop} (h : TxS W b fn en sv wv) (k : Keeps S W W') (hS : ¬ S b) : TxS W' b fn en sv wv := ⟨k.cell h.c6 hS, k.cell h.c7 hS, k.cell h.c9 hS, k.cell h.c10 hS⟩
/-- What is asked of the attempts. -/
structure TsB (ts : List Tv) : Prop where
  n : ts.length ≤ 4096
  s : sumT ts ≤ 1048576
  i : ∀ i, i < ts.length → (∀ s ∈ (ts.getD i tv0).saws, I64 s.object) ∧ (∀ q ∈ (ts.getD i tv0).wrs, I64 q.object)
theorem TsB.at {ts : List Tv} (h : TsB ts) {i : Nat} (hi : i < ts.length) : (ts.getD i tv0).saws.length ≤ 1048576 ∧ (ts.getD i tv0).wrs.length ≤ 1048576 := by
  have h1 := sumT_next hi
  have h2 := sumT_le ts (i + 1)
  have h3 := h.s
  omega
/-- What committed answers. -/
def CoP (w : World) (ts : List Tv) (e : Ending) (w' : World) : Prop := ∃ a cap, ∃ P : List (At × Ag), e = .returned (.slice a P.length cap) ∧ ATM w' a (P.map (·.1)) ∧ (∀ p ∈ P, AtR w' p) ∧ CmG ts ts.length (P.map (·.2)) ∧ Keeps (fun _ => False) w w'
theorem CmS.done {w W : World} {ts : List Tv} {v : Value} {P : List (At × Ag)} (h : CmS w W ts ts.length v P) : CoP w ts (.returned v) W := by
  obtain ⟨a, cap, rfl, hA, hn⟩ := atm_of h.o
  exact ⟨a, cap, P, rfl, hA, h.r, h.g, h.k⟩
set_option maxHeartbeats 1500000 in
set_option maxRecDepth 100000 in
theorem committed_any (hon : OnC) {w : World} {a : Option Addr} {cap : Nat} {ts : List Tv} {p : Nat → Lp} (hT : TXM w a ts p) (hB : TsB ts) : Calls Try.prog 12 #[.slice a ts.length cap] w (CoP w ts) := by
  have HON : Hid OnC := hon
  have HT : Hid (TXM w a ts p) := hT
  have HB : Hid (TsB ts) := hB
  have hN4 := hB.n
  clear hon hT hB
  generalize hN : ts.length = N at *
  have HN : Hid (ts.length = N) := hN
  clear hN
  go_enter Try.func12, Try.ntmps12
  go_wp2_with fail
  go_loopw [3, 8] (fun ov iv Wr => ∃ (i : Nat) (P : List (At × Ag)), iv = .int .i64 (i : Int) ∧ i ≤ N ∧ CmS w Wr ts i ov P) (fun _ iv _ => N - (intOf iv).toNat)
  case atStart => exact ⟨0, [], rfl, Nat.zero_le _, CmS.start w ts⟩
  case round =>
    obtain ⟨i, P, rfl, hiN, hS⟩ := hrel
    have HS : Hid (CmS w wr ts i u3 P) := hS
    have HKR : Hid (Keeps (fun _ => False) w wr) := hS.k
    clear hS
    by_cases hlt : i < N
    · have j1 : decide ((i : Int) < (N : Int)) = true := decide_eq_true (by omega)
      have j2 : decide (i < N) = true := decide_eq_true hlt
      have j3 : (i : Int) < (N : Int) := by omega
      have j4 : (0 : Int) ≤ (i : Int) := by omega
      have hwi : IntKind.i64.wrap ((i : Int) + 1) = (i : Int) + 1 := by rw [IntKind.wrap_i64]; omega
      have hil : i < ts.length := by rw [HN.out]; exact hlt
      obtain ⟨⟨b, off, rfl, hct⟩, hsw, hwo⟩ := HT.out i hil
      have hR1 := run_txAt (W := wr) (o := off + i * 11) (fun j v e => HKR.out.cell (hct j v e) (fun e => e))
      have hli := HB.out.at hil
      have HRD : Hid (∀ W, Keeps (fun _ => False) w W → Calls Try.prog 21 #[.slice (p i).sa (ts.getD i tv0).saws.length (p i).sc] W (ObP (rdL (ts.getD i tv0).saws) W)) := fun W k => readsOf_any HON.out (hsw.keep k) hli.1 (HB.out.i i hil).1
      have HWR : Hid (∀ W, Keeps (fun _ => False) w W → Calls Try.prog 22 #[.slice (p i).wa (ts.getD i tv0).wrs.length (p i).wc] W (ObP (wrL (ts.getD i tv0).wrs) W)) := fun W k => writesOf_any HON.out (hwo.keep k) hli.2 (HB.out.i i hil).2
      have HST : Hid ((ts.getD i tv0).out ≠ 1 → ∀ W', Keeps (fun _ => False) wr W' → CmS w W' ts (i + 1) u3 P) := fun h W' k => HS.out.stay hil h k
      have HNX : Hid ((ts.getD i tv0).out = 1 → ∀ W2 ra rs rc wa ws wc, Keeps (fun _ => False) wr W2 → IMr W2 ra rs → IMr W2 wa ws → (0 < rs.length → ∀ b off, ra = some ⟨b, off, none⟩ → wr.heap.size ≤ b) → (0 < ws.length → ∀ b off, wa = some ⟨b, off, none⟩ → wr.heap.size ≤ b) → rs.Pairwise (fun x y => x < y) → ws.Pairwise (fun x y => x < y) → (∀ x, x ∈ rs ↔ x ∈ rdL (ts.getD i tv0).saws) → (∀ x, x ∈ ws ↔ x ∈ wrL (ts.getD i tv0).wrs) → rs.length ≤ (rdL (ts.getD i tv0).saws).length → ws.length ≤ (wrL (ts.getD i tv0).wrs).length →
          ∃ v' W', (Builtin.append_ #[41, 41] 41 #[u3, .slice (some ⟨W2.heap.size, 0, none⟩) 1 1]).run Try.prog (W2.alloc (.cells (At.cells ⟨(i : Int), (ts.getD i tv0).fnl, (ts.getD i tv0).end_, ra, rs.length, rc, wa, ws.length, wc⟩).toArray 58)) = .ok v' W' ∧ CmS w W' ts (i + 1) v' (P ++ [(⟨(i : Int), (ts.getD i tv0).fnl, (ts.getD i tv0).end_, ra, rs.length, rc, wa, ws.length, wc⟩, ⟨(i : Int), (ts.getD i tv0).fnl, (ts.getD i tv0).end_, rs, ws⟩)]) ∧ Keeps (fun i => u3.ownBlock = some i) W2 W') := fun ho W2 ra rs rc wa ws wc k2 h1 h2 n1 n2 p1 p2 m1 m2 l1 l2 => by
        have hPl : P.length ≤ i := by have := HS.out.g.l; rw [List.length_map] at this; exact this
        obtain ⟨v', W', hr, ho2, kq, hb⟩ := append_a (k2.owns HS.out.o (fun _ _ e => e)) (Nat.le_trans HKR.out.size k2.size) (by omega) ⟨(i : Int), (ts.getD i tv0).fnl, (ts.getD i tv0).end_, ra, rs.length, rc, wa, ws.length, wc⟩
        exact ⟨v', W', hr, HS.out.next hil ho k2 h1 h2 n1 n2 p1 p2 m1 m2 l1 l2 ho2 kq hb, kq⟩
      obtain ⟨W4, hW4⟩ : ∃ W4, W4 = wr.alloc (.cells #[.int .i64 0, .int .i64 0, .int .i64 0, .int .i64 0, .int .i64 0, .int .i64 0, .int .i64 0, .int .i64 0, .int .i64 0, .slice none 0 0, .slice none 0 0] 32) := ⟨_, rfl⟩
      have k4 : Keeps (fun _ => False) wr W4 := by rw [hW4]; exact (Keeps.refl _ wr).alloc _
      have hU4 : CL W4 wr.heap.size (tv0.clp ⟨none, 0, none, 0⟩) := by rw [hW4]; exact CL.made wr (tv0.clp ⟨none, 0, none, 0⟩) 32
      have HW4 : Hid (W4 = wr.alloc (.cells #[.int .i64 0, .int .i64 0, .int .i64 0, .int .i64 0, .int .i64 0, .int .i64 0, .int .i64 0, .int .i64 0, .int .i64 0, .slice none 0 0, .slice none 0 0] 32)) := hW4
      clear hW4 hct hsw hwo hli hil
      generalize ts.getD i tv0 = T at *
      generalize p i = q at *
      have hOC : (T.clp q).toArray.all (·.oneCell') = true := all_oneCell_toArray (by simp [Tv.clp, Tv.cells, Value.oneCell'])
      obtain ⟨oi, hoi⟩ : ∃ oi, oi = T.out := ⟨_, rfl⟩
      rw [← hoi] at HST HNX
      have HOI : Hid (oi = T.out) := hoi
      clear hoi
      by_cases h1 : oi = 1
      · have s1 : (oi == 1) = true := by simp [h1]
        have HNY : Hid _ := HNX.out h1
        clear HST h1 HNX
        go_wp2_with (first | (refine wpList_load_runL rfl 32 _ rfl ⟨b, off + i * 11, none⟩ rfl _ hR1 ?_; clear hR1) | (rw [← HW4.out]; clear HW4; refine wpList_store_cl rfl 32 _ _ rfl wr.heap.size 0 11 (T.clp q).toArray rfl rfl rfl hU4 (by show 11 ≤ 11; decide) iTx hOC ?_; intro w5 hc5 k5 hsz5; clear hsz5; have hI5 : CL w5 wr.heap.size (T.clp q) := hc5; clear hc5; have K45 : Keeps (fun _ => False) wr w5 := k4.trans' k5 (fun _ _ e => e) (fun i2 hi2 e => (by have e : i2 = wr.heap.size := e; omega)); have z8 := hI5.c 8 _ rfl; rw [← HOI.out] at z8; clear k4 k5 hU4))
        have kd : Keeps (fun _ => False) wr w5.drew := K45.trans ((Keeps.refl _ w5).drew)
        have hS0 : TxS w5.drew wr.heap.size T.fnl T.end_ (.slice q.sa T.saws.length q.sc) (.slice q.wa T.wrs.length q.wc) := (TxS.mk (hI5.c 6 _ rfl) (hI5.c 7 _ rfl) (hI5.c 9 _ rfl) (hI5.c 10 _ rfl)).keep ((Keeps.refl (fun _ => False) w5).drew) (fun e => e)
        have hRd := HRD.out w5.drew (HKR.out.trans kd)
        have HKD : Hid (Keeps (fun _ => False) wr w5.drew) := kd
        clear kd hI5 K45 z8
        generalize hfn : T.fnl = fn at *
        generalize hen : T.end_ = en at *
        generalize hsn : T.saws.length = sn at *
        generalize hwn : T.wrs.length = wn at *
        have HFE : Hid (T.fnl = fn ∧ T.end_ = en ∧ T.saws.length = sn ∧ T.wrs.length = wn) := ⟨hfn, hen, hsn, hwn⟩
        clear hfn hen hsn hwn
        generalize q.sa = sa at *
        generalize q.sc = sc at *
        generalize q.wa = wa at *
        generalize q.wc = wc at *
        refine wp_region_held_drew (S := fun W => TxS W wr.heap.size fn en (.slice sa sn sc) (.slice wa wn wc)) (by kernel_rfl) hS0 (fun hHeld => ?_)
        refine wpAnyH_take (i := 0) (v := ?_) rfl (by kernel_rfl) (by kernel_rfl) (by kernel_rfl) (fun _ _ _ h => h) (Or.inl ⟨by rfl, ?_⟩) (by assumption) ?_
        rotate_left
        · intro wx hSw; clear hSw; go_simp <;> with_reducible rfl
        (try simp only [List.getElem_toArray]); (try simp only [List.getElem_cons_succ]); (try simp only [List.getElem_cons_zero]); (try simp only [Act.put]); (try simp only [List.setIfInBounds_toArray]); (repeat first | simp only [List.set_cons_succ] | simp only [List.set_cons_zero])
        refine wpAnyH_take (i := 1) (v := ?_) rfl (by kernel_rfl) (by kernel_rfl) (by kernel_rfl) (fun _ _ _ h => h) (Or.inl ⟨by rfl, ?_⟩) (by assumption) ?_
        rotate_left
        · intro wx hSw; clear hSw; go_simp <;> with_reducible rfl
        (try simp only [List.getElem_toArray]); (try simp only [List.getElem_cons_succ]); (try simp only [List.getElem_cons_zero]); (try simp only [Act.put]); (try simp only [List.setIfInBounds_toArray]); (repeat first | simp only [List.set_cons_succ] | simp only [List.set_cons_zero])
        refine wpAnyH_take (i := 2) (v := ?_) rfl (by kernel_rfl) (by kernel_rfl) (by kernel_rfl) (fun _ _ _ h => h) (Or.inl ⟨by rfl, ?_⟩) (by assumption) ?_
        rotate_left
        · intro wx hSw; clear hSw; go_simp <;> with_reducible rfl
        (try simp only [List.getElem_toArray]); (try simp only [List.getElem_cons_succ]); (try simp only [List.getElem_cons_zero]); (try simp only [Act.put]); (try simp only [List.setIfInBounds_toArray]); (repeat first | simp only [List.set_cons_succ] | simp only [List.set_cons_zero])
        refine wpAnyH_take (i := 3) (v := ?_) rfl (by kernel_rfl) (by kernel_rfl) (by kernel_rfl) (fun _ _ _ h => h) (Or.inl ⟨by rfl, ?_⟩) (by assumption) ?_
        rotate_left
        · intro wx hSw; have q0 := hSw.c6; clear hSw; go_simp <;> with_reducible rfl
        (try simp only [List.getElem_toArray]); (try simp only [List.getElem_cons_succ]); (try simp only [List.getElem_cons_zero]); (try simp only [Act.put]); (try simp only [List.setIfInBounds_toArray]); (repeat first | simp only [List.set_cons_succ] | simp only [List.set_cons_zero])
        refine wpAnyH_take (i := 4) (v := ?_) rfl (by kernel_rfl) (by kernel_rfl) (by kernel_rfl) (fun _ _ _ h => h) (Or.inl ⟨by rfl, ?_⟩) (by assumption) ?_
        rotate_left
        · intro wx hSw; clear hSw; go_simp <;> with_reducible rfl
        (try simp only [List.getElem_toArray]); (try simp only [List.getElem_cons_succ]); (try simp only [List.getElem_cons_zero]); (try simp only [Act.put]); (try simp only [List.setIfInBounds_toArray]); (repeat first | simp only [List.set_cons_succ] | simp only [List.set_cons_zero])
        refine wpAnyH_take (i := 5) (v := ?_) rfl (by kernel_rfl) (by kernel_rfl) (by kernel_rfl) (fun _ _ _ h => h) (Or.inl ⟨by rfl, ?_⟩) (by assumption) ?_
        rotate_left
        · intro wx hSw; have q0 := hSw.c7; clear hSw; go_simp <;> with_reducible rfl
        (try simp only [List.getElem_toArray]); (try simp only [List.getElem_cons_succ]); (try simp only [List.getElem_cons_zero]); (try simp only [Act.put]); (try simp only [List.setIfInBounds_toArray]); (repeat first | simp only [List.set_cons_succ] | simp only [List.set_cons_zero])
        refine wpAnyH_take (i := 6) (v := ?_) rfl (by kernel_rfl) (by kernel_rfl) (by kernel_rfl) (fun _ _ _ h => h) (Or.inl ⟨by rfl, ?_⟩) (by assumption) ?_
        rotate_left
        · intro wx hSw; clear hSw; go_simp <;> with_reducible rfl
        (try simp only [List.getElem_toArray]); (try simp only [List.getElem_cons_succ]); (try simp only [List.getElem_cons_zero]); (try simp only [Act.put]); (try simp only [List.setIfInBounds_toArray]); (repeat first | simp only [List.set_cons_succ] | simp only [List.set_cons_zero])
        refine wpAnyH_take (i := 7) (v := ?_) rfl (by kernel_rfl) (by kernel_rfl) (by kernel_rfl) (fun _ _ _ h => h) (Or.inl ⟨by rfl, ?_⟩) (by assumption) ?_
        rotate_left
        · intro wx hSw; have q0 := hSw.c9; clear hSw; go_simp <;> with_reducible rfl
        (try simp only [List.getElem_toArray]); (try simp only [List.getElem_cons_succ]); (try simp only [List.getElem_cons_zero]); (try simp only [Act.put]); (try simp only [List.setIfInBounds_toArray]); (repeat first | simp only [List.set_cons_succ] | simp only [List.set_cons_zero])
        refine wpAnyH_take (i := 9) (v := ?_) rfl (by kernel_rfl) (by kernel_rfl) (by kernel_rfl) (fun _ _ _ h => h) (Or.inl ⟨by rfl, ?_⟩) (by assumption) ?_
        rotate_left
        · intro wx hSw; clear hSw; go_simp <;> with_reducible rfl
        (try simp only [List.getElem_toArray]); (try simp only [List.getElem_cons_succ]); (try simp only [List.getElem_cons_zero]); (try simp only [Act.put]); (try simp only [List.setIfInBounds_toArray]); (repeat first | simp only [List.set_cons_succ] | simp only [List.set_cons_zero])
        refine wpAnyH_take (i := 10) (v := ?_) rfl (by kernel_rfl) (by kernel_rfl) (by kernel_rfl) (fun _ _ _ h => h) (Or.inl ⟨by rfl, ?_⟩) (by assumption) ?_
        rotate_left
        · intro wx hSw; have q0 := hSw.c10; clear hSw; go_simp <;> with_reducible rfl
        (try simp only [List.getElem_toArray]); (try simp only [List.getElem_cons_succ]); (try simp only [List.getElem_cons_zero]); (try simp only [Act.put]); (try simp only [List.setIfInBounds_toArray]); (repeat first | simp only [List.set_cons_succ] | simp only [List.set_cons_zero])
        refine wpAnyH_one 8 (by kernel_rfl) rfl rfl ?_
        refine wp_call1 21 _ rfl _ rfl (fun _ _ => rfl) (hRd.mono ?_)
        clear hRd
        rintro e w8 ⟨ra, rs, rc, rfl, r1, r2, r3, r4, r5, r6⟩
        have hWr := HWR.out w8 ((HKR.out.trans HKD.out).trans r6)
        refine ⟨_, rfl, hS0.keep r6 (fun e => e), fun hS8 => ?_⟩
        (try simp only [List.getElem_toArray]); (try simp only [List.getElem_cons_succ]); (try simp only [List.getElem_cons_zero]); (try simp only [Act.put]); (try simp only [List.setIfInBounds_toArray]); (repeat first | simp only [List.set_cons_succ] | simp only [List.set_cons_zero])
        refine wpAnyH_one 11 (by kernel_rfl) rfl rfl ?_
        refine wp_call1 22 _ rfl _ rfl (fun _ _ => rfl) (hWr.mono ?_)
        clear hWr
        rintro e w9 ⟨wa', ws, wc', rfl, s1, s2, s3, s4, s5, s6⟩
        refine ⟨_, rfl, hS8.keep s6 (fun e => e), fun hS9 => ?_⟩
        (try simp only [List.getElem_toArray]); (try simp only [List.getElem_cons_succ]); (try simp only [List.getElem_cons_zero]); (try simp only [Act.put]); (try simp only [List.setIfInBounds_toArray]); (repeat first | simp only [List.set_cons_succ] | simp only [List.set_cons_zero])
        obtain ⟨v', W', hr, hnx, kq⟩ := HNY.out w9 ra rs rc wa' ws wc' (HKD.out.trans (r6.trans s6)) (IMr.keep r1 s6) s1 (fun h b off e => Nat.le_trans HKD.out.size (r2 h b off e)) (fun h b off e => Nat.le_trans HKD.out.size (Nat.le_trans r6.size (s2 h b off e))) r3 s3 r4 s4 r5 s5
        clear r1 r2 r3 r4 r5 s1 s2 s3 s4 s5
        generalize hrn : rs.length = rn at *
        generalize hwn2 : ws.length = wn2 at *
        have HRN : Hid (rs.length = rn ∧ ws.length = wn2) := ⟨hrn, hwn2⟩
        clear hrn hwn2
        have HC : Hid (CmS w W' ts (i + 1) v' (P ++ [(⟨(i : Int), fn, en, ra, rn, rc, wa', wn2, wc'⟩, ⟨(i : Int), fn, en, rs, ws⟩)])) := hnx
        clear hnx
        refine wpAnyH_take (i := 12) (v := .agg (At.cells ⟨(i : Int), fn, en, ra, rn, rc, wa', wn2, wc'⟩).toArray) rfl (by kernel_rfl) (by kernel_rfl) (by kernel_rfl) (fun _ _ _ h => h) (Or.inl ⟨by rfl, ?_⟩) (by assumption) ?_
        · intro wx hSw; clear hSw; go_simp <;> rfl
        (try simp only [List.getElem_toArray]); (try simp only [List.getElem_cons_succ]); (try simp only [List.getElem_cons_zero]); (try simp only [Act.put]); (try simp only [List.setIfInBounds_toArray]); (repeat first | simp only [List.set_cons_succ] | simp only [List.set_cons_zero])
        refine wpAnyH_one 13 (by kernel_rfl) rfl rfl ?_
        refine wp_buildAt _ rfl _ rfl rfl ?_
        refine ⟨hS9.keep ((Keeps.refl (fun _ => False) w9).alloc _) (fun e => e), fun _ => ?_⟩
        (try simp only [List.getElem_toArray]); (try simp only [List.getElem_cons_succ]); (try simp only [List.getElem_cons_zero]); (try simp only [Act.put]); (try simp only [List.setIfInBounds_toArray]); (repeat first | simp only [List.set_cons_succ] | simp only [List.set_cons_zero])
        refine wpAnyH_one 14 (by kernel_rfl) rfl rfl ?_
        refine wp_append_t _ _ 41 rfl _ _ _ W' rfl rfl hr ?_
        refine ⟨hS9.keep kq (fun e => by have := owns_lt' HS.out.o _ e; omega), fun hS10 => ?_⟩
        (try simp only [List.getElem_toArray]); (try simp only [List.getElem_cons_succ]); (try simp only [List.getElem_cons_zero]); (try simp only [Act.put]); (try simp only [List.setIfInBounds_toArray]); (repeat first | simp only [List.set_cons_succ] | simp only [List.set_cons_zero])
        refine wpAnyH_take (i := 15) (v := ?_) rfl (by kernel_rfl) (by kernel_rfl) (by kernel_rfl) (fun _ _ _ h => h) (Or.inl ⟨by rfl, ?_⟩) (by assumption) ?_
        rotate_left
        · intro wx hSw; clear hSw; go_simp <;> with_reducible rfl
        (try simp only [List.getElem_toArray]); (try simp only [List.getElem_cons_succ]); (try simp only [List.getElem_cons_zero]); (try simp only [Act.put]); (try simp only [List.setIfInBounds_toArray]); (repeat first | simp only [List.set_cons_succ] | simp only [List.set_cons_zero])
        refine wpAnyH_done (by kernel_rfl) ?_ _
        go_wp2_with fail
        go_roundw
        case rel => exact ⟨i + 1, _, by go_num, by omega, HC.out⟩
        case measure => simp [intOf]; omega
      · have s1 : (oi == 1) = false := beq_eq_false_iff_ne.2 h1
        have HSY : Hid _ := HST.out h1
        clear HNX h1 HST
        go_wp2_with (first | (refine wpList_load_runL rfl 32 _ rfl ⟨b, off + i * 11, none⟩ rfl _ hR1 ?_; clear hR1) | (rw [← HW4.out]; clear HW4; refine wpList_store_cl rfl 32 _ _ rfl wr.heap.size 0 11 (T.clp q).toArray rfl rfl rfl hU4 (by show 11 ≤ 11; decide) iTx hOC ?_; intro w5 hc5 k5 hsz5; clear hsz5; have hI5 : CL w5 wr.heap.size (T.clp q) := hc5; clear hc5; have K45 : Keeps (fun _ => False) wr w5 := k4.trans' k5 (fun _ _ e => e) (fun i2 hi2 e => (by have e : i2 = wr.heap.size := e; omega)); have z8 := hI5.c 8 _ rfl; rw [← HOI.out] at z8; clear k4 k5 hU4))
        go_roundw
        case rel => exact ⟨i + 1, P, by go_num, by omega, HSY.out _ K45⟩
        case measure => simp [intOf]; omega
    · have j1 : decide ((i : Int) < (N : Int)) = false := decide_eq_false (by omega)
      have j2 : decide (i < N) = false := decide_eq_false hlt
      have HX : Hid (CoP w ts (.returned u3) wr) := by
        have h := HS.out
        obtain rfl : i = ts.length := by rw [HN.out]; omega
        exact h.done
      clear HS HKR
      go_wp2_with fail
      go_ret
      exact HX.out
end Go.Proofs.Ythmlppepgcjfgaa
