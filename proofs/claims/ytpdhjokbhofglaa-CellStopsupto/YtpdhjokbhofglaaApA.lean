import Derived.Test.YtpdhjokbhofglaaCelSame
import Derived.Deep.AppendSrc
import Derived.Maps.AppendAt
namespace Go.Proofs.Ytpdhjokbhofglaa
open Go.RowKit

section
variable {w0 w : World} {R : Nat → Prop} {mb : Nat} {s : Mm}
theorem pask_ok (h : MP w0 R w mb s) (q : Ac) (hc : pl q.c < s.cells.length) (hfr : s.free = true) (hlog : (s.log.length + 1) * 56 ≤ 140737488355328) :
    Calls Try.prog 7 #[.pointer (some ⟨mb, 0, none⟩), .agg #[.int .i64 q.kind, .int .i64 q.c, .int .i64 q.x, .int .i64 q.y]] w fun e w' =>
      e = .returned (.tuple #[.int .i64 (q.said (ca s.cells (pl q.c)).2), .int .i64 0]) ∧ MP w0 R w' mb (s.take q.kd (pl q.c) (q.wrote (ca s.cells (pl q.c)).2) (q.done (ca s.cells (pl q.c)).2)) ∧ KP w0 R w w' := by
  obtain ⟨F, h, hF, hk, hR⟩ := h
  refine (asked_ok h q hc hfr hlog).mono ?_
  rintro e w' ⟨rfl, F', h', l⟩
  exact ⟨rfl, MP.next h hF hk hR h' l⟩
theorem pask_no (h : MP w0 R w mb s) (q : Ac) (hc : s.there (pl q.c : Int) = false) :
    Calls Try.prog 7 #[.pointer (some ⟨mb, 0, none⟩), .agg #[.int .i64 q.kind, .int .i64 q.c, .int .i64 q.x, .int .i64 q.y]] w fun e w' => e = .returned (.tuple #[.int .i64 0, .int .i64 30]) ∧ MP w0 R w' mb s ∧ KP w0 R w w' := by
  have hn := h
  obtain ⟨F, h, _⟩ := h
  refine (asked_cell h q hc).mono ?_
  rintro e w' ⟨rfl, k⟩
  exact ⟨rfl, hn.new k, KP.new k⟩
theorem plog (h : MP w0 R w mb s) (hlog : s.log.length * 56 ≤ 140737488355328) :
    Calls Try.prog 8 #[.pointer (some ⟨mb, 0, none⟩)] w fun e w' => ∃ v, e = .returned v ∧ w'.ownsRow w.heap.size 39 7 v s.log.length (fl rcells s.log) ∧ Keeps (fun _ => False) w w' := by
  obtain ⟨F, h, _⟩ := h
  exact log_any h hlog
end

/-- An append whose run is known. -/
theorem wpList_append_run {P : Program} {w : World} {ops : Array Oper} {rest : List Oper} {o : Oper} {a : Act} {Q : Exit → Act → World → Prop} (hgd : o.guard = none) (s x : Operand) (t : TypeId)
    (ho : o.op = .call { callee := .builtin .append, args := #[s, x], argTypes := #[t, t] }) (v src v' : Value) (w' : World) (hs : a.eval s = v) (hx : a.eval x = src)
    (hr : (Builtin.append_ #[t, t] o.type #[v, src]).run P w = .ok v' w') (h : wpList P ops Q rest (a.put o.dst v') w') : wpList P ops Q (o :: rest) a w :=
  wpList_plain hgd fun K hK => by
    unfold Oper.wp execOp
    simp only [ho, resolve, invoke, builtin, Sem.run_bind, Sem.run_pure, Result.andThen_ok, List.map_toArray, List.map_cons, List.map_nil, hs, hx, hr]
    exact hK _ _ h

theorem one_rcells (L : List Rw) : ∀ u ∈ fl rcells L, u.oneCell' = true := fun u hu => by
  obtain ⟨r, _, hr⟩ := List.mem_flatMap.1 hu
  simp [rcells] at hr
  rcases hr with rfl | rfl | rfl | rfl | rfl | rfl | rfl <;> rfl
/-- The rows of a list that is owned. -/
theorem own_at {w : World} {base e n : Nat} {v : Value} {L : List Rw} (h : w.ownsRow base e 7 v n (fl rcells L)) (hl : L.length = n) : ∃ a c, v = .slice a n c ∧ RowsAt w a L ∧ (∀ g, a = some ⟨g, 0, none⟩ → v.ownBlock = some g ∧ base ≤ g) := by
  rcases h.2 with ⟨rfl, h0⟩ | ⟨g, cap, cur, rfl, hb, hg, rest⟩
  · exact ⟨none, 0, by rw [h0], .inl (by omega), fun g e => by cases e⟩
  · refine ⟨_, cap, rfl, .inr ⟨g, rfl, owns_lt' h g rfl, fun i hi => owns_row h rfl hi⟩, fun g' e => by cases e; exact ⟨rfl, hb⟩⟩
theorem RowsAt.keeps {S : Nat → Prop} {W W' : World} {a : Option Addr} {L : List Rw} (h : RowsAt W a L) (k : Keeps S W W') (hS : ∀ g, a = some ⟨g, 0, none⟩ → ¬ S g) : RowsAt W' a L := by
  rcases h with h | ⟨g, rfl, hg, h⟩
  · exact .inl h
  · exact .inr ⟨g, rfl, Nat.lt_of_lt_of_le hg k.size, fun i hi => (h i hi).keep k (hS g rfl)⟩

/-- A copy of rows. -/
theorem cp_run {W0 W : World} (k : Keeps (fun _ => False) W0 W) {g0 : Nat} (hg : W.heap[g0]? = some (.cells #[] 39 (0, 0))) (hg0 : W0.heap.size ≤ g0) {base n : Nat} {v : Value} {L : List Rw} (own : W0.ownsRow base 39 7 v n (fl rcells L)) (hn : n ≤ 1000) :
    ∃ v' W', (Builtin.append_ #[32, 32] 32 #[.slice (some ⟨g0, 0, none⟩) 0 0, v]).run Try.prog W = .ok v' W' ∧ W'.ownsRow W0.heap.size 39 7 v' n (fl rcells L) ∧ Keeps (fun _ => False) W0 W' := by
  obtain ⟨i0, hi0, hz0, hz1, hz2⟩ := info_parts rowInfo
  have o0 : W.ownsRow W0.heap.size 39 7 (.slice (some ⟨g0, 0, none⟩) 0 0) 0 [] := ⟨rfl, .inr ⟨g0, 0, #[], rfl, hg0, hg, Nat.le_refl _, by unfold maxLen; omega, rfl, rfl⟩⟩
  rcases own.2 with ⟨rfl, h0⟩ | ⟨g, cap, cur, rfl, hb, hgg, rest⟩
  · have hr := run_append_owned_none (P := Try.prog) (w := W) W0.heap.size 32 32 39 i0 7 underRows hi0 _ 0 [] o0
    have hlen := own.1
    have hL : fl rcells L = [] := by
      apply List.eq_nil_of_length_eq_zero
      rw [hlen, h0]
    rw [hL, h0]
    exact ⟨_, W, hr, o0, k⟩
  · have ow := k.owns own (fun _ _ e => e)
    obtain ⟨v', w', hr, ho, hgr, _, _⟩ := run_append_own_at (P := Try.prog) (w := W) W0.heap.size 32 32 39 i0 _ 7 56 underRows hi0 hz0 hz1 hz2 rfl (by decide) _ 0 [] o0 ⟨g, 0, none⟩ n cap (fl rcells L) own.1 (fun j u e => ow.cells rfl j u e) (one_rcells L) (by unfold maxLen; omega) (by omega) k.size
    rw [Nat.zero_add, List.nil_append] at ho
    exact ⟨v', w', hr, ho, k.trans' ((Keeps.refl _ W).grown hgr (S := fun i => i = g0) (fun i _ e => by simp [Value.ownBlock] at e; exact e.symm)) (fun _ _ e => e) (fun i hi e => by omega)⟩

/-- Two rows behind a list; the list is as it was. -/
theorem more_run {W : World} {base n : Nat} {v : Value} {L : List Rw} (own : W.ownsRow base 39 7 v n (fl rcells L)) (hb : base ≤ W.heap.size) (hn : n ≤ 1000) (x y : Rw) :
    ∃ v' W', (Builtin.append_ #[32, 32] 32 #[v, .slice (some ⟨W.heap.size, 0, none⟩) 2 2]).run Try.prog (W.alloc (.cells (rcells x ++ rcells y).toArray 39)) = .ok v' W' ∧ W'.ownsRow base 39 7 v' (n + 2) (fl rcells (L ++ [x, y])) ∧ W'.ownsRow base 39 7 v n (fl rcells L) ∧ Keeps (fun k => v.ownBlock = some k) W W' := by
  obtain ⟨i0, hi0, hz0, hz1, hz2⟩ := info_parts rowInfo
  have ka : Keeps (fun _ => False) W (W.alloc (.cells (rcells x ++ rcells y).toArray 39)) := (Keeps.refl _ W).alloc _
  have hnews : ∀ (j : Nat) (u : Value), (rcells x ++ rcells y)[j]? = some u → (W.alloc (.cells (rcells x ++ rcells y).toArray 39)).cell? ((⟨W.heap.size, 0, none⟩ : Addr).add j) = some u := World.news_of_block (cs := (rcells x ++ rcells y).toArray) (t := 39) (fr := (0, 0)) (heap_alloc_new W _)
  have h1 : ∀ u ∈ rcells x ++ rcells y, u.oneCell' = true := fun u hu => one_rcells [x, y] u (by simpa [fl] using hu)
  obtain ⟨v', w', hr, ho, hgr, _, hat⟩ := run_append_own_at (P := Try.prog) (w := W.alloc (.cells (rcells x ++ rcells y).toArray 39)) base 32 32 39 i0 _ 7 56 underRows hi0 hz0 hz1 hz2 rfl (by decide) v n (fl rcells L) (own.alloc _) ⟨W.heap.size, 0, none⟩ 2 2 (rcells x ++ rcells y) rfl hnews h1 (by unfold maxLen; omega) (by omega) (Nat.le_trans hb ka.size)
  have e : fl rcells L ++ (rcells x ++ rcells y) = fl rcells (L ++ [x, y]) := by rw [fl_append]; simp [fl]
  have kk : Keeps (fun k => v.ownBlock = some k) W w' := ka.trans' ((Keeps.refl _ _).grown hgr (S := fun k => v.ownBlock = some k) (fun _ _ e => e)) (fun _ _ e => e.elim) (fun _ _ e => e)
  refine ⟨v', w', hr, by rw [← e]; exact ho, ?_, kk⟩
  rcases own.2 with ⟨rfl, h0⟩ | ⟨g, cap, cur, rfl, hbg, hg, hnc, hcm, hcs, htk⟩
  · exact ⟨own.1, .inl ⟨rfl, h0⟩⟩
  · by_cases hfit : n + 2 ≤ cap
    · obtain ⟨w2, hr2, ho2, _⟩ := run_append_fits (P := Try.prog) (w := W.alloc (.cells (rcells x ++ rcells y).toArray 39)) base 32 32 39 i0 7 underRows hi0 hz1 g n cap (fl rcells L) (own.alloc _) ⟨W.heap.size, 0, none⟩ 2 2 (rcells x ++ rcells y) rfl hnews h1 hfit
      rw [hr] at hr2
      cases hr2
      refine ⟨own.1, .inr ?_⟩
      rcases ho2.2 with ⟨h, _⟩ | ⟨g', cap', cur', h, hb', hg', _, hcm', hcs', htk'⟩
      · cases h
      · cases h
        refine ⟨g, cap, cur', rfl, hbg, hg', hnc, hcm, hcs', ?_⟩
        have h3 : (fl rcells L ++ (rcells x ++ rcells y)).take (n * 7) = fl rcells L := by
          rw [List.take_append_of_le_length (by rw [own.1]; exact Nat.le_refl _)]
          exact List.take_of_length_le (by rw [own.1]; exact Nat.le_refl _)
        rw [← h3, ← htk', List.take_take, Nat.min_eq_left (by omega)]
    · have hr2 := run_append_grow (P := Try.prog) (w := W.alloc (.cells (rcells x ++ rcells y).toArray 39)) 32 32 39 i0 _ underRows hi0 hz0 ⟨g, 0, none⟩ n cap (fl rcells L) (by rw [hz1]; exact own.1) (fun j u e => (own.alloc _).cells rfl j u e) ⟨W.heap.size, 0, none⟩ 2 2 (rcells x ++ rcells y) (by rw [hz1]; rfl) hnews (by omega) (by omega) (by rw [hz2]; exact growslice_fits (by omega) (by omega))
      rw [hr] at hr2
      cases hr2
      exact (((ka.drew).alloc _)).owns own (fun _ _ e => e)

theorem st1 {W : World} {base e g n cap : Nat} {L : List Rw} {j i : Nat} {a b : Rw} {u : Value} (own : W.ownsRow base e 7 (.slice (some ⟨g, 0, none⟩) n cap) n (fl rcells (L.set j a))) (hj : j < L.length) (hi : i < 7) (hb : rcells b = (rcells a).set i u) :
    (W.setCell ⟨g, j * 7 + i, none⟩ u).ownsRow base e 7 (.slice (some ⟨g, 0, none⟩) n cap) n (fl rcells (L.set j b)) := by
  have h := (own.stored (j * 7 + i) u).1
  have e1 := fl_set rcells_len (L.set j a) j i a b u (by rw [List.getElem?_set, if_pos rfl, if_pos hj]) hi hb
  rw [List.set_set] at e1
  rw [e1]
  exact h
/-- A row is written. -/
def set7 (W : World) (g o : Nat) (r : Rw) : World := ((((((W.setCell ⟨g, o, none⟩ (.int .i64 r.step)).setCell ⟨g, o + 1, none⟩ (.int .i64 r.thread)).setCell ⟨g, o + 2, none⟩ (.int .i64 r.kind)).setCell ⟨g, o + 3, none⟩ (.int .i64 r.cell)).setCell ⟨g, o + 4, none⟩ (.int .i64 r.seen)).setCell ⟨g, o + 5, none⟩ (.int .i64 r.wrote)).setCell ⟨g, o + 6, none⟩ (.bool r.done)
theorem st7 {W : World} {base e g n cap : Nat} {L : List Rw} {j : Nat} (own : W.ownsRow base e 7 (.slice (some ⟨g, 0, none⟩) n cap) n (fl rcells L)) (hj : j < L.length) (r : Rw) :
    (set7 W g (j * 7) r).ownsRow base e 7 (.slice (some ⟨g, 0, none⟩) n cap) n (fl rcells (L.set j r)) ∧ Keeps (fun k => k = g) W (set7 W g (j * 7) r) := by
  have e0 : L.set j (ra L j) = L := by
    apply List.ext_getElem?
    intro i
    rw [List.getElem?_set]
    by_cases h : j = i
    · subst h; rw [if_pos rfl, if_pos hj, ra_get hj]
    · rw [if_neg h]
  rw [← e0] at own
  generalize ra L j = x at own
  have h0 := st1 (i := 0) (b := { x with step := r.step }) own hj (by omega) rfl
  have h1 := st1 (i := 1) (b := { x with step := r.step, thread := r.thread }) h0 hj (by omega) rfl
  have h2 := st1 (i := 2) (b := { x with step := r.step, thread := r.thread, kind := r.kind }) h1 hj (by omega) rfl
  have h3 := st1 (i := 3) (b := { x with step := r.step, thread := r.thread, kind := r.kind, cell := r.cell }) h2 hj (by omega) rfl
  have h4 := st1 (i := 4) (b := { x with step := r.step, thread := r.thread, kind := r.kind, cell := r.cell, seen := r.seen }) h3 hj (by omega) rfl
  have h5 := st1 (i := 5) (b := { x with step := r.step, thread := r.thread, kind := r.kind, cell := r.cell, seen := r.seen, wrote := r.wrote }) h4 hj (by omega) rfl
  have h6 := st1 (i := 6) (b := r) h5 hj (by omega) rfl
  refine ⟨h6, ?_⟩
  unfold set7
  exact (((((((Keeps.refl (fun k => k = g) W).setCell (p := ⟨g, j * 7, none⟩) (fun _ => rfl) _).setCell (p := ⟨g, j * 7 + 1, none⟩) (fun _ => rfl) _).setCell (p := ⟨g, j * 7 + 2, none⟩) (fun _ => rfl) _).setCell (p := ⟨g, j * 7 + 3, none⟩) (fun _ => rfl) _).setCell (p := ⟨g, j * 7 + 4, none⟩) (fun _ => rfl) _).setCell (p := ⟨g, j * 7 + 5, none⟩) (fun _ => rfl) _).setCell (p := ⟨g, j * 7 + 6, none⟩) (fun _ => rfl) _
/-- The marks on rows. -/
def mkr (i : Nat) (j : Nat) : Rw := ⟨-1 - (i : Int), 0, 0, (j : Int), 0, 0, false⟩
def mkl (i : Nat) (L : List Rw) : Nat → List Rw
  | 0 => L
  | t + 1 => (mkl i L t).set t (mkr i t)
theorem mkl_len (i : Nat) (L : List Rw) : ∀ t, (mkl i L t).length = L.length
  | 0 => rfl
  | t + 1 => by rw [mkl, List.length_set]; exact mkl_len i L t
/-- The steps rise. -/
structure Rise (s : Mm) (k : Nat) : Prop where
  c3 : s.cells.length = 3
  up : ∀ i, 0 < i → i < s.log.length → (ra s.log (i - 1)).step < (ra s.log i).step
  hi : ∀ i, i < s.log.length → (ra s.log i).step < k
  st : s.begun = true → s.step < k
  ln : s.log.length ≤ k
theorem Rise.may {s : Mm} {k : Nat} (h : Rise s k) : s.may (k : Int) 1 = true := by
  have := h.st
  unfold Mm.may
  cases hb : s.begun
  · simp
  · have := this hb; simp; omega
theorem Rise.skip {s : Mm} {k : Nat} (h : Rise s k) : Rise (s.begin (k : Int) 1) (k + 1) :=
  ⟨h.c3, h.up, fun i hi => by have := h.hi i hi; show (ra s.log i).step < _; omega, fun _ => by show (k : Int) < _; omega, Nat.le_succ_of_le h.ln⟩
theorem Rise.take {s : Mm} {k : Nat} (h : Rise s k) (kd : Int) (c : Nat) (v : Int) (d : Bool) : Rise ((s.begin (k : Int) 1).take kd c v d) (k + 1) := by
  have hl : ((s.begin (k : Int) 1).take kd c v d).log = s.log ++ [(s.begin (k : Int) 1).row kd c v d] := rfl
  have hr : ∀ i, i < s.log.length → ra (s.log ++ [(s.begin (k : Int) 1).row kd c v d]) i = ra s.log i := fun i hi => by
    simp [ra, List.getD_eq_getElem?_getD, List.getElem?_append_left hi]
  have hz : (ra (s.log ++ [(s.begin (k : Int) 1).row kd c v d]) s.log.length).step = (k : Int) := by
    simp [ra, List.getD_eq_getElem?_getD, Mm.row, Mm.begin]
  refine ⟨by simpa [Mm.take, Mm.begin] using h.c3, fun i h0 hi => ?_, fun i hi => ?_, fun _ => by show (k : Int) < _; omega, by rw [hl]; simp; exact h.ln⟩
  · rw [hl] at hi ⊢
    simp at hi
    by_cases e : i = s.log.length
    · subst e
      rw [hz, hr _ (by omega)]
      exact h.hi _ (by omega)
    · rw [hr i (by omega), hr (i - 1) (by omega)]
      exact h.up i h0 (by omega)
  · rw [hl] at hi ⊢
    simp at hi
    by_cases e : i = s.log.length
    · subst e; rw [hz]; omega
    · rw [hr i (by omega)]
      have := h.hi i (by omega)
      omega
theorem frozen_own {W : World} {base e size g n cap : Nat} {xs : List Value} (h : W.ownsRow base e size (.slice (some ⟨g, 0, none⟩) n cap) n xs) (o : Nat) : W.frozen? ⟨g, o, none⟩ = false := by
  rcases h.2 with ⟨h, _⟩ | ⟨g', cap', cur, h, _, hg, _⟩
  · cases h
  · cases h; simp [World.frozen?, hg]
end Go.Proofs.Ytpdhjokbhofglaa
