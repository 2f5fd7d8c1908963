import Derived.Test.YtehblpbefkopbaaDoorXaI
namespace Go.Proofs.YtehblpbefkopbaaDoor
open Go.RowKit Go.ChangeShapes Go.WideShapes Go.ChangeAt Go.Deep
attribute [local go_sem] Oper.semAt_some run_store_nf run_store_f
theorem results_cell1 {fn : Func} {p : Tmp} {ty : TypeId} (h : fn.results = #[.cell p ty]) (tmps : Array Value) (P : Program) (w : World) :
    (results fn tmps).run P w = ((asAddr (tmps.getD p undef)).run P w).andThen fun a w₁ => (loadVar ty a).run P w₁ := by
  simp only [results, h]
  simp [Sem.run_bind, Result.andThen]
theorem wpList_build2L {t e : TypeId} {z : Value} {size bytes : Nat} (ht : Tryd.prog.underlying t = some (.slice e)) (hinfo : (Tryd.prog.info? e).map (fun i => (i.zero, i.size, i.bytes)) = some (some z, size, bytes)) (hs : 0 < size) (hs2 : size ≤ 100) {ops : Array Oper} {rest : List Oper} {o : Oper} {a : Act} {w : World} {Q : Exit → Act → World → Prop} (hg : o.guard = none) (x y : Operand) (ho : o.op = .buildSlice t 2 #[(0, x), (1, y)]) (cs ds : List Value) (hc : cs.length = size) (hd : ds.length = size) (hx : a.eval x = .agg cs.toArray) (hy : a.eval y = .agg ds.toArray)
    (h : wpList Tryd.prog ops Q rest (a.put o.dst (.slice (some ⟨w.heap.size, 0, none⟩) 2 2)) (w.alloc (.cells (cs ++ ds).toArray e))) : wpList Tryd.prog ops Q (o :: rest) a w := by
  obtain ⟨i0, hi0, hzz⟩ := Option.map_eq_some_iff.1 hinfo
  simp only [Prod.mk.injEq] at hzz
  obtain ⟨hz0, hz1, -⟩ := hzz
  refine wpList_buildSlice hg t e 2 _ ho (cs ++ ds).toArray i0 _ ht hi0 hz0 (by rw [hz1]; omega) (by rw [hz1]; omega) ?_ h
  rw [hz1]
  have e : (#[(0, x), (1, y)].map fun (i, x) => (i, a.eval x)).toList = ([Value.agg cs.toArray, Value.agg ds.toArray].zipIdx 0).map fun x => (x.2, x.1) := by simp [hx, hy]
  have e2 : ([Value.agg cs.toArray, Value.agg ds.toArray].flatMap fun v => v.cells.toList).toArray = (cs ++ ds).toArray := by simp [Value.cells]
  rw [e, Great.fill_whole (s := size) hs [Value.agg cs.toArray, Value.agg ds.toArray] _ (fun v hv => by
    simp at hv
    rcases hv with rfl | rfl
    · simpa [Value.cells] using hc
    · simpa [Value.cells] using hd) (by simp), e2]
theorem iEx : (Tryd.prog.info? 32).map (·.size) = some 4 := by kernel_rfl
def exZ : Value := .agg #[.int .i64 0, .int .i64 0, .string { data := #[] }, .slice none 0 0]
theorem inEx : (Tryd.prog.info? 32).map (fun i => (i.zero, i.size, i.bytes)) = some (some exZ, 4, 56) := by kernel_rfl
theorem uEx : Tryd.prog.underlying 30 = some (.slice 32) := by kernel_rfl
theorem run_ex {W : World} {b : Nat} {x y z v : Value} (h : CL W b [x, y, z, v]) : (loadVar 32 ⟨b, 0, none⟩).run Tryd.prog W = .ok (.agg #[x, y, z, v]) W :=
  run_loadVar_mid W b 0 32 [x, y, z, v] _ (fun j v e => by have := h.c j v e; rwa [Nat.zero_add]) Tryd.underlying32 rfl (by rw [iEx]; rfl)
theorem own_lit (w : World) (e : TypeId) (cs : List Value) (n s : Nat) (hl : cs.length = n * s) (hn : n ≤ 100) : (w.alloc (.cells cs.toArray e)).ownsRow 0 e s (.slice (some ⟨w.heap.size, 0, none⟩) n n) n cs :=
  ⟨hl, .inr ⟨w.heap.size, n, cs.toArray, rfl, Nat.zero_le _, (MapKept.heap_alloc w _).1, Nat.le_refl _, Nat.le_trans hn (by unfold maxLen; decide), by simp [hl], by simp [← hl]⟩⟩
theorem TC.shape6 {w : World} {P : Nat → Prop} {e : TypeId} {t : Tr} {l : List Value} (h : TC w P e t l) : ∃ k n s p m c, l = [.int .i64 k, .int .i64 n, .string s, .slice p m c] := by
  cases t
  unfold TC at h
  obtain ⟨_, _, _, a, xs, h4, h5, _⟩ := h
  obtain ⟨p, c, rfl, -⟩ := own_slice h5.1
  exact ⟨_, _, _, _, _, _, h4⟩
theorem alloc_stay {P : Nat → Prop} (w : World) (o : Obj) : Stay P w (w.alloc o) := fun k _ hk => (MapKept.heap_alloc w o).2 k hk
/-- A node with one part, behind a store elsewhere. -/
theorem TC.node1 {w2 w5 : World} {P : Nat → Prop} {e : TypeId} {t : Tr} {l : List Value} {box : Nat} {k n : Int} {wd : Bs} (h : TC w2 P e t l) (k5 : Keeps (fun i => i = box) (w2.alloc (.cells l.toArray e)) w5) (hb : ∀ g, P g → g ≠ box) (hP : P w2.heap.size) (hk : I64 k) (hn : I64 n) (hw : wd.length ≤ 140737488355328) :
    TC w5 P e (.mk k n wd [t]) [.int .i64 k, .int .i64 n, .string (bs wd), .slice (some ⟨w2.heap.size, 0, none⟩) 1 1] := by
  have st : Stay P (w2.alloc (.cells l.toArray e)) w5 := k5.stay (fun i hi _ => hb i hi)
  have hl := h.len
  unfold TC
  refine ⟨hk, hn, hw, _, l, rfl, OwnP.stay ⟨own_lit w2 e l 1 4 (by rw [hl]) (by decide), fun g hg => by cases hg; exact hP⟩ st, ?_⟩
  unfold TL
  exact ⟨l, [], by simp, (h.stay (alloc_stay _ _)).stay st, by unfold TL; rfl⟩
/-- A node with two parts. -/
theorem TC.node2 {w2 w5 : World} {P : Nat → Prop} {e : TypeId} {t u : Tr} {l m : List Value} {box : Nat} {k n : Int} {wd : Bs} (h : TC w2 P e t l) (h' : TC w2 P e u m) (k5 : Keeps (fun i => i = box) (w2.alloc (.cells (l ++ m).toArray e)) w5) (hb : ∀ g, P g → g ≠ box) (hP : P w2.heap.size) (hk : I64 k) (hn : I64 n) (hw : wd.length ≤ 140737488355328) :
    TC w5 P e (.mk k n wd [t, u]) [.int .i64 k, .int .i64 n, .string (bs wd), .slice (some ⟨w2.heap.size, 0, none⟩) 2 2] := by
  have st : Stay P (w2.alloc (.cells (l ++ m).toArray e)) w5 := k5.stay (fun i hi _ => hb i hi)
  have hl := h.len
  have hm := h'.len
  unfold TC
  refine ⟨hk, hn, hw, _, l ++ m, rfl, OwnP.stay ⟨own_lit w2 e (l ++ m) 2 4 (by rw [List.length_append, hl, hm]) (by decide), fun g hg => by cases hg; exact hP⟩ st, ?_⟩
  unfold TL
  refine ⟨l, m, rfl, (h.stay (alloc_stay _ _)).stay st, ?_⟩
  unfold TL
  exact ⟨m, [], by simp, (h'.stay (alloc_stay _ _)).stay st, by unfold TL; rfl⟩
/-- A node without parts. -/
theorem TC.leaf {w : World} {P : Nat → Prop} {e : TypeId} {k n : Int} {wd : Bs} (hk : I64 k) (hn : I64 n) (hw : wd.length ≤ 140737488355328) : TC w P e (.mk k n wd []) [.int .i64 k, .int .i64 n, .string (bs wd), .slice none 0 0] := by
  unfold TC
  exact ⟨hk, hn, hw, _, [], rfl, ⟨⟨rfl, .inl ⟨rfl, rfl⟩⟩, fun g hg => by cases hg⟩, by unfold TL; rfl⟩
abbrev pR (r : Nat) : Value := .pointer (some ⟨r, 0, none⟩)
theorem RdM.lt {w : World} {r : Nat} {T R : Bs} (h : RdM w r T R) : r < w.heap.size := h.c.lt (by show 0 < 3; decide)
/-- The zero expression's cells. -/
abbrev zE : List Value := [.int .i64 0, .int .i64 0, .string { data := #[] }, .slice none 0 0]
theorem one4 {k n : Int} {s : ByteArray} {p : Option Addr} {m c : Nat} : ([.int .i64 k, .int .i64 n, .string s, .slice p m c] : List Value).toArray.all (·.oneCell') = true := all_oneCell_toArray (by simp [Value.oneCell'])
end Go.Proofs.YtehblpbefkopbaaDoor
