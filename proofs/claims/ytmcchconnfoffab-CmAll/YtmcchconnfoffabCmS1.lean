import Derived.Test.YtmcchconnfoffabCmS0
import Derived.Deep.AppendSrc
namespace Go.Proofs.Ytmcchconnfoffab
open Go.RowKit Go.Maps Go.Deep
theorem ptrInfo : (Try.prog.info? 24).map (fun i => (i.zero, i.size, i.bytes)) = some (some (.pointer none), 1, 8) := by kernel_rfl
theorem mkInfo : (Try.prog.info? 52).map (fun i => (i.zero, i.size, i.bytes)) = some (some (.agg #[.int .i64 0, .int .i64 0]), 2, 16) := by kernel_rfl
theorem underPtr : Try.prog.underlying 50 = some (.slice 24) := by kernel_rfl
theorem underMk : Try.prog.underlying 32 = some (.slice 52) := by kernel_rfl
theorem info_parts {P : Program} {e : TypeId} {z : Value} {k b : Nat} (h : (P.info? e).map (fun i => (i.zero, i.size, i.bytes)) = some (some z, k, b)) : ∃ i : TypeInfo, P.info? e = some i ∧ i.zero = some z ∧ i.size = k ∧ i.bytes = b := by
  cases hi : P.info? e with
  | none => rw [hi] at h; cases h
  | some i => rw [hi] at h; simp at h; exact ⟨i, rfl, h.1, h.2.1, h.2.2⟩
/-- One behind a list. -/
theorem ptr_run {W : World} {n : Nat} {v : Value} {xs : List Value} (own : W.ownsRow 0 24 1 v n xs) (hn : (n + 1) * 8 ≤ 140737488355328) {x : Value} (hx : x.oneCell' = true) :
    ∃ v' W', (Builtin.append_ #[50, 50] 50 #[v, .slice (some ⟨W.heap.size, 0, none⟩) 1 1]).run Try.prog (W.alloc (.cells #[x] 24)) = .ok v' W' ∧ W'.ownsRow 0 24 1 v' (n + 1) (xs ++ [x]) ∧ Keeps (fun k => v.ownBlock = some k) W W' ∧ (∀ g, v'.ownBlock = some g → v.ownBlock = some g ∨ W.heap.size < g) := by
  obtain ⟨i0, hi0, hz0, hz1, hz2⟩ := info_parts ptrInfo
  have ka : Keeps (fun _ => False) W (W.alloc (.cells #[x] 24)) := (Keeps.refl _ W).alloc _
  obtain ⟨v', w', hr, ho, hgr, _, hat⟩ := run_append_own_at (P := Try.prog) (w := W.alloc (.cells #[x] 24)) 0 50 50 24 i0 _ 1 8 underPtr hi0 hz0 hz1 hz2 rfl (by decide) v n xs (own.alloc _) ⟨W.heap.size, 0, none⟩ 1 1 [x] rfl (World.news_of_block (cs := #[x]) (t := 24) (fr := (0, 0)) (heap_alloc_new W _)) (fun u hu => by
    simp at hu
    subst hu
    exact hx) (by unfold maxLen; omega) (by omega) (Nat.zero_le _)
  refine ⟨v', w', hr, ho, ka.trans' ((Keeps.refl _ _).grown hgr (S := fun k => v.ownBlock = some k) (fun _ _ e => e)) (fun _ _ e => e.elim) (fun _ _ e => e), fun g e => ?_⟩
  rcases hat with e' | e'
  · exact .inl (e' ▸ e)
  · rw [e'] at e; cases e; exact .inr (by simp)
theorem mk_run {W : World} {n : Nat} {v : Value} {xs : List Value} (own : W.ownsRow 0 52 2 v n xs) (hn : (n + 1) * 16 ≤ 140737488355328) (a b : Int) :
    ∃ v' W', (Builtin.append_ #[32, 32] 32 #[v, .slice (some ⟨W.heap.size, 0, none⟩) 1 1]).run Try.prog (W.alloc (.cells #[.int .i64 a, .int .i64 b] 52)) = .ok v' W' ∧ W'.ownsRow 0 52 2 v' (n + 1) (xs ++ [.int .i64 a, .int .i64 b]) ∧ Keeps (fun k => v.ownBlock = some k) W W' ∧ (∀ g, v'.ownBlock = some g → v.ownBlock = some g ∨ W.heap.size < g) := by
  obtain ⟨i0, hi0, hz0, hz1, hz2⟩ := info_parts mkInfo
  have ka : Keeps (fun _ => False) W (W.alloc (.cells #[.int .i64 a, .int .i64 b] 52)) := (Keeps.refl _ W).alloc _
  obtain ⟨v', w', hr, ho, hgr, _, hat⟩ := run_append_own_at (P := Try.prog) (w := W.alloc (.cells #[.int .i64 a, .int .i64 b] 52)) 0 32 32 52 i0 _ 2 16 underMk hi0 hz0 hz1 hz2 rfl (by decide) v n xs (own.alloc _) ⟨W.heap.size, 0, none⟩ 1 1 [.int .i64 a, .int .i64 b] rfl (World.news_of_block (cs := #[.int .i64 a, .int .i64 b]) (t := 52) (fr := (0, 0)) (heap_alloc_new W _)) (fun u hu => by
    simp at hu
    rcases hu with rfl | rfl <;> rfl) (by unfold maxLen; omega) (by omega) (Nat.zero_le _)
  refine ⟨v', w', hr, ho, ka.trans' ((Keeps.refl _ _).grown hgr (S := fun k => v.ownBlock = some k) (fun _ _ e => e)) (fun _ _ e => e.elim) (fun _ _ e => e), fun g e => ?_⟩
  rcases hat with e' | e'
  · exact .inl (e' ▸ e)
  · rw [e'] at e; cases e; exact .inr (by simp)
theorem wpList_append_run {P : Program} {w : World} {ops : Array Oper} {rest : List Oper} {o : Oper} {a : Act} {Q : Exit → Act → World → Prop} (hgd : o.guard = none) (s x : Operand) (t : TypeId)
    (ho : o.op = .call { callee := .builtin .append, args := #[s, x], argTypes := #[t, t] }) (v src v' : Value) (w' : World) (hs : a.eval s = v) (hx : a.eval x = src)
    (hr : (Builtin.append_ #[t, t] o.type #[v, src]).run P w = .ok v' w') (h : wpList P ops Q rest (a.put o.dst v') w') : wpList P ops Q (o :: rest) a w :=
  wpList_plain hgd fun K hK => by
    unfold Oper.wp execOp
    simp only [ho, resolve, invoke, builtin, Sem.run_bind, Sem.run_pure, Result.andThen_ok, List.map_toArray, List.map_cons, List.map_nil, hs, hx, hr]
    exact hK _ _ h
/-- A manager that was made. -/
structure Mn where
  b : Nat
  k : Nat
  p : Int
def mn0 : Mn := ⟨0, 0, 0⟩
def mptr (m : Mn) : Value := .pointer (some ⟨m.b, 0, none⟩)
def mcells (m : Mn) : List Value := [.int .i64 (m.k : Int), .int .i64 m.p]
/-- The managers that were made, and what they were made with. -/
structure AK (w W : World) (va vk : Value) (l : List Mn) : Prop where
  keeps : Keeps (fun _ => False) w W
  oa : W.ownsRow 0 24 1 va l.length (l.map mptr)
  ok : W.ownsRow 0 52 2 vk l.length (l.flatMap mcells)
  ba : ∀ g, va.ownBlock = some g → w.heap.size ≤ g
  bk : ∀ g, vk.ownBlock = some g → w.heap.size ≤ g
  ne : ∀ g, va.ownBlock = some g → vk.ownBlock = some g → False
  mg : ∀ m ∈ l, Mg W m.b m.k m.p ∧ va.ownBlock ≠ some m.b ∧ vk.ownBlock ≠ some m.b
theorem AK.new {w W W' : World} {va vk : Value} {l : List Mn} (h : AK w W va vk l) (k : Keeps (fun _ => False) W W') : AK w W' va vk l :=
  ⟨h.keeps.trans k, k.owns h.oa (fun _ _ e => e), k.owns h.ok (fun _ _ e => e), h.ba, h.bk, h.ne, fun m hm => ⟨((h.mg m hm).1).keep k, (h.mg m hm).2⟩⟩
theorem Mg.keepS {w w' : World} {b k : Nat} {p : Int} {S : Nat → Prop} (h : Mg w b k p) (K : Keeps S w w') (hb : ¬ S b) : Mg w' b k p := ⟨h.1, h.2.1, K.cell h.2.2 hb⟩
theorem Mg.lt {w : World} {b k : Nat} {p : Int} (h : Mg w b k p) : b < w.heap.size := World.block_lt_of_cell? _ _ h.2.2
/-- A manager behind the list, and then what it was made with behind the other. -/
theorem AK.add {w W W1 W2 : World} {va vk va' vk' : Value} {l : List Mn} (h : AK w W va vk l) {m : Mn} (hm : Mg W m.b m.k m.p) (na : va.ownBlock ≠ some m.b) (nk : vk.ownBlock ≠ some m.b)
    (o1 : W1.ownsRow 0 24 1 va' (l.length + 1) (l.map mptr ++ [mptr m])) (k1 : Keeps (fun k => va.ownBlock = some k) W W1) (g1 : ∀ g, va'.ownBlock = some g → va.ownBlock = some g ∨ W.heap.size < g)
    (o2 : W2.ownsRow 0 52 2 vk' (l.length + 1) (l.flatMap mcells ++ [.int .i64 (m.k : Int), .int .i64 m.p])) (k2 : Keeps (fun k => vk.ownBlock = some k) W1 W2) (g2 : ∀ g, vk'.ownBlock = some g → vk.ownBlock = some g ∨ W1.heap.size < g) : AK w W2 va' vk' (l ++ [m]) := by
  have s1 := h.keeps.size
  have s2 := k1.size
  have la' : ∀ g, va'.ownBlock = some g → g < W1.heap.size := fun g e => owns_lt' o1 g e
  have lk : ∀ g, vk.ownBlock = some g → g < W.heap.size := fun g e => owns_lt' h.ok g e
  have a'k : ∀ g, va'.ownBlock = some g → ¬ vk.ownBlock = some g := fun g e e2 => (g1 g e).elim (fun x => h.ne g x e2) (fun x => by have := lk g e2; omega)
  have all : ∀ x ∈ l ++ [m], Mg W x.b x.k x.p ∧ va.ownBlock ≠ some x.b ∧ vk.ownBlock ≠ some x.b := fun x hx => by
    rcases List.mem_append.1 hx with hx | hx
    · exact h.mg x hx
    · simp at hx; subst hx; exact ⟨hm, na, nk⟩
  refine ⟨?_, ?_, ?_, ?_, ?_, ?_, ?_⟩
  · refine (h.keeps.trans' k1 (U := fun k => va.ownBlock = some k) (fun _ _ e => e.elim) (fun _ _ e => e)).trans' k2 (fun i hi e => ?_) (fun i hi e => ?_)
    · have := h.ba i e; omega
    · have := h.bk i e; omega
  · have := k2.owns o1 (fun g e => a'k g e)
    simpa using this
  · simpa [mcells] using o2
  · exact fun g e => (g1 g e).elim (h.ba g) (fun x => by omega)
  · exact fun g e => (g2 g e).elim (h.bk g) (fun x => by omega)
  · exact fun g e e2 => (g2 g e2).elim (fun x => a'k g e x) (fun x => by have := la' g e; omega)
  · intro x hx
    obtain ⟨q1, q2, q3⟩ := all x hx
    refine ⟨(q1.keepS k1 q2).keepS k2 q3, fun e => ?_, fun e => ?_⟩
    · exact (g1 _ e).elim q2 (fun y => by have := q1.lt; omega)
    · exact (g2 _ e).elim q3 (fun y => by have := q1.lt; omega)
/-- Two lists of one. -/
theorem AK.start {w W : World} {b k : Nat} {p : Int} (K : Keeps (fun _ => False) w W) (M : Mg W b k p) : AK w ((W.alloc (.cells #[.pointer (some ⟨b, 0, none⟩)] 24)).alloc (.cells #[.int .i64 (k : Int), .int .i64 p] 52)) (.slice (some ⟨W.heap.size, 0, none⟩) 1 1) (.slice (some ⟨W.heap.size + 1, 0, none⟩) 1 1) [⟨b, k, p⟩] := by
  have s := K.size
  have ml := M.lt
  have k1 : Keeps (fun _ => False) W ((W.alloc (.cells #[.pointer (some ⟨b, 0, none⟩)] 24)).alloc (.cells #[.int .i64 (k : Int), .int .i64 p] 52)) := ((Keeps.refl _ W).alloc _).alloc _
  refine ⟨K.trans k1, ?_, ?_, ?_, ?_, ?_, ?_⟩
  · refine ⟨rfl, .inr ⟨W.heap.size, 1, #[.pointer (some ⟨b, 0, none⟩)], rfl, Nat.zero_le _, ?_, Nat.le_refl _, ?_, rfl, rfl⟩⟩
    · rw [Below.heap_alloc _ _ _ (by simp)]; exact heap_alloc_new W _
    · unfold maxLen; omega
  · refine ⟨rfl, .inr ⟨W.heap.size + 1, 1, #[.int .i64 (k : Int), .int .i64 p], rfl, Nat.zero_le _, ?_, Nat.le_refl _, ?_, rfl, rfl⟩⟩
    · have := heap_alloc_new (W.alloc (.cells #[.pointer (some ⟨b, 0, none⟩)] 24)) (.cells #[.int .i64 (k : Int), .int .i64 p] 52)
      simpa using this
    · unfold maxLen; omega
  · intro g e; cases e; exact s
  · intro g e; cases e; exact Nat.le_succ_of_le s
  · intro g e e2; cases e; simp [Value.ownBlock] at e2
  · intro m hm
    simp at hm
    subst hm
    refine ⟨M.keep k1, ?_, ?_⟩
    · simp [Value.ownBlock]; omega
    · simp [Value.ownBlock]; omega
theorem fm_get : ∀ (l : List Mn) (i : Nat), i < l.length → (l.flatMap mcells)[i * 2]? = some (.int .i64 ((l.getD i mn0).k : Int)) ∧ (l.flatMap mcells)[i * 2 + 1]? = some (.int .i64 (l.getD i mn0).p)
  | [], i, h => by simp at h
  | m :: r, 0, _ => by simp [mcells]
  | m :: r, i + 1, h => by
    have ih := fm_get r i (by simpa using h)
    have e : (i + 1) * 2 = i * 2 + 2 := by omega
    rw [e]
    simp only [List.flatMap_cons, mcells, List.cons_append, List.nil_append]
    simpa [mcells] using ih
theorem own_cellz {W : World} {base e z n g : Nat} {v : Value} {xs : List Value} (h : W.ownsRow base e z v n xs) (hg : v.ownBlock = some g) (j : Nat) (u : Value) (hu : xs[j]? = some u) : W.cell? ⟨g, j, none⟩ = some u := by
  have h1 := h.cells hg j u hu
  by_cases hj : j = 0
  · subst hj; simpa [Addr.add] using h1
  · simpa [Addr.add, hj] using h1
theorem owns_form' {w : World} {base e size : Nat} {v : Value} {n : Nat} {xs : List Value} (h : w.ownsRow base e size v n xs) (hn : 0 < n) : ∃ g cap, v = .slice (some ⟨g, 0, none⟩) n cap := by
  rcases h.2 with ⟨rfl, rfl⟩ | ⟨g, cap, cur, rfl, _⟩
  · omega
  · exact ⟨_, _, rfl⟩
/-- What stands at a place of the two lists. -/
theorem AK.at {w W : World} {va vk : Value} {l : List Mn} (h : AK w W va vk l) {i : Nat} (hi : i < l.length) : ∃ ga ca gk ck, va = .slice (some ⟨ga, 0, none⟩) l.length ca ∧ vk = .slice (some ⟨gk, 0, none⟩) l.length ck ∧ W.cell? ⟨ga, i, none⟩ = some (mptr (l.getD i mn0)) ∧ W.cell? ⟨gk, i * 2, none⟩ = some (.int .i64 ((l.getD i mn0).k : Int)) ∧ W.cell? ⟨gk, i * 2 + 1, none⟩ = some (.int .i64 (l.getD i mn0).p) ∧ Mg W (l.getD i mn0).b (l.getD i mn0).k (l.getD i mn0).p := by
  obtain ⟨ga, ca, rfl⟩ := owns_form' h.oa (by omega)
  obtain ⟨gk, ck, rfl⟩ := owns_form' h.ok (by omega)
  have em : (l.map mptr)[i]? = some (mptr (l.getD i mn0)) := by
    rw [List.getElem?_map, List.getD_eq_getElem?_getD, List.getElem?_eq_getElem hi]; rfl
  have ef := fm_get l i hi
  refine ⟨ga, ca, gk, ck, rfl, rfl, own_cellz h.oa rfl i _ em, own_cellz h.ok rfl _ _ ef.1, own_cellz h.ok rfl _ _ ef.2, (h.mg _ ?_).1⟩
  rw [List.getD_eq_getElem?_getD, List.getElem?_eq_getElem hi]
  exact List.getElem_mem _
theorem pick_any (w : World) {i : Int} {n : Nat} (h0 : 0 < n) (hn : n ≤ 9223372036854775807) : ∃ q : Nat, q < n ∧ Calls Try.prog 20 #[.int .i64 i, .int .i64 (n : Int)] w fun e w' => e = .returned (.int .i64 (q : Int)) ∧ w' = w := by
  have e := Int.tmod_eq_emod (a := i) (b := (n : Int))
  have m1 := Int.emod_nonneg i (show (n : Int) ≠ 0 by omega)
  have m2 := Int.emod_lt_of_pos i (show (0 : Int) < (n : Int) by omega)
  obtain ⟨t, et, b1, b2⟩ : ∃ t, i.tmod (n : Int) = t ∧ -(n : Int) < t ∧ t < n := ⟨_, rfl, by rw [e]; split <;> omega, by rw [e]; split <;> omega⟩
  clear e m1 m2
  have hz : ((n : Int) == 0) = false := by simp; omega
  by_cases ht : t < 0
  · refine ⟨(t + n).toNat, by omega, ?_⟩
    rw [show (((t + n).toNat : Nat) : Int) = t + n by omega]
    go_enter Try.func20, Try.ntmps20
    go_wp2
    go_ret
    exact ⟨rfl, rfl⟩
  · refine ⟨t.toNat, by omega, ?_⟩
    rw [show ((t.toNat : Nat) : Int) = t by omega]
    go_enter Try.func20, Try.ntmps20
    go_wp2
    go_ret
    exact ⟨rfl, rfl⟩
end Go.Proofs.Ytmcchconnfoffab
