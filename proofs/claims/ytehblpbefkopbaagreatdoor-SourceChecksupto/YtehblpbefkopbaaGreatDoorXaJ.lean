import Derived.Test.YtehblpbefkopbaaGreatDoorXaI
namespace Go.Proofs.YtehblpbefkopbaaGreatDoor
open Go.RowKit Go.ChangeShapes Go.WideShapes Go.ChangeAt Go.Deep
attribute [local go_sem] Oper.semAt_some run_store_nf run_store_f
theorem results_cell1 {fn : Func} {p : Tmp} {ty : TypeId} (h : fn.results = #[.cell p ty]) (tmps : Array Value) (P : Program) (w : World) :
    (results fn tmps).run P w = ((asAddr (tmps.getD p undef)).run P w).andThen fun a w₁ => (loadVar ty a).run P w₁ := by
  simp only [results, h]
  simp [Sem.run_bind, Result.andThen]
theorem wpList_build2L {t e : TypeId} {z : Value} {size bytes : Nat} (ht : Tryz.prog.underlying t = some (.slice e)) (hinfo : (Tryz.prog.info? e).map (fun i => (i.zero, i.size, i.bytes)) = some (some z, size, bytes)) (hs : 0 < size) (hs2 : size ≤ 100) {ops : Array Oper} {rest : List Oper} {o : Oper} {a : Act} {w : World} {Q : Exit → Act → World → Prop} (hg : o.guard = none) (x y : Operand) (ho : o.op = .buildSlice t 2 #[(0, x), (1, y)]) (cs ds : List Value) (hc : cs.length = size) (hd : ds.length = size) (hx : a.eval x = .agg cs.toArray) (hy : a.eval y = .agg ds.toArray)
    (h : wpList Tryz.prog ops Q rest (a.put o.dst (.slice (some ⟨w.heap.size, 0, none⟩) 2 2)) (w.alloc (.cells (cs ++ ds).toArray e))) : wpList Tryz.prog ops Q (o :: rest) a w := by
  obtain ⟨i0, hi0, hzz⟩ := Option.map_eq_some_iff.1 hinfo
  simp only [Prod.mk.injEq] at hzz
  obtain ⟨hz0, hz1, -⟩ := hzz
  refine wpList_buildSlice hg t e 2 _ ho (cs ++ ds).toArray i0 _ ht hi0 hz0 (by rw [hz1]; omega) (by rw [hz1]; omega) ?_ h
  rw [hz1]
  have e : (#[(0, x), (1, y)].map fun (i, x) => (i, a.eval x)).toList = ([Value.agg cs.toArray, Value.agg ds.toArray].zipIdx 0).map fun x => (x.2, x.1) := by simp [hx, hy]
  have e2 : ([Value.agg cs.toArray, Value.agg ds.toArray].flatMap fun v => v.cells.toList).toArray = (cs ++ ds).toArray := by simp [Value.cells]
  rw [e, Great.fill_whole (s := size) hs [Value.agg cs.toArray, Value.agg ds.toArray] _ (fun v hv => by
    simp at hv
    rcases hv with rfl | rfl
    · simpa [Value.cells] using hc
    · simpa [Value.cells] using hd) (by simp), e2]
theorem iEx : (Tryz.prog.info? 35).map (·.size) = some 4 := by kernel_rfl
def exZ : Value := .agg #[.int .i64 0, .int .i64 0, .string { data := #[] }, .slice none 0 0]
theorem inEx : (Tryz.prog.info? 35).map (fun i => (i.zero, i.size, i.bytes)) = some (some exZ, 4, 56) := by kernel_rfl
theorem uEx : Tryz.prog.underlying 33 = some (.slice 35) := by kernel_rfl
theorem run_ex {W : World} {b : Nat} {x y z v : Value} (h : CL W b [x, y, z, v]) : (loadVar 35 ⟨b, 0, none⟩).run Tryz.prog W = .ok (.agg #[x, y, z, v]) W :=
  run_loadVar_mid W b 0 35 [x, y, z, v] _ (fun j v e => by have := h.c j v e; rwa [Nat.zero_add]) Tryz.underlying35 rfl (by rw [iEx]; rfl)
theorem own_lit (w : World) (e : TypeId) (cs : List Value) (n s : Nat) (hl : cs.length = n * s) (hn : n ≤ 100) : (w.alloc (.cells cs.toArray e)).ownsRow 0 e s (.slice (some ⟨w.heap.size, 0, none⟩) n n) n cs :=
  ⟨hl, .inr ⟨w.heap.size, n, cs.toArray, rfl, Nat.zero_le _, (MapKept.heap_alloc w _).1, Nat.le_refl _, Nat.le_trans hn (by unfold maxLen; decide), by simp [hl], by simp [← hl]⟩⟩
theorem TC.shape6 {w : World} {P : Nat → Prop} {e : TypeId} {t : Tr} {l : List Value} (h : TC w P e t l) : ∃ k n s p m c, l = [.int .i64 k, .int .i64 n, .string s, .slice p m c] := by
  cases t
  unfold TC at h
  obtain ⟨_, _, _, a, xs, h4, h5, _⟩ := h
  obtain ⟨p, c, rfl, -⟩ := own_slice h5.1
  exact ⟨_, _, _, _, _, _, h4⟩
theorem alloc_stay {P : Nat → Prop} (w : World) (o : Obj) : Stay P w (w.alloc o) := fun k _ hk => (MapKept.heap_alloc w o).2 k hk
/-- A node with one part, behind a store elsewhere. -/
theorem TC.node1 {w2 w5 : World} {P : Nat → Prop} {e : TypeId} {t : Tr} {l : List Value} {box : Nat} {k n : Int} {wd : Bs} (h : TC w2 P e t l) (k5 : Keeps (fun i => i = box) (w2.alloc (.cells l.toArray e)) w5) (hb : ∀ g, P g → g ≠ box) (hP : P w2.heap.size) (hk : I64 k) (hn : I64 n) (hw : wd.length ≤ 140737488355328) :
    TC w5 P e (.mk k n wd [t]) [.int .i64 k, .int .i64 n, .string (bs wd), .slice (some ⟨w2.heap.size, 0, none⟩) 1 1] := by
  have st : Stay P (w2.alloc (.cells l.toArray e)) w5 := k5.stay (fun i hi _ => hb i hi)
  have hl := h.len
  unfold TC
  refine ⟨hk, hn, hw, _, l, rfl, OwnP.stay ⟨own_lit w2 e l 1 4 (by rw [hl]) (by decide), fun g hg => by cases hg; exact hP⟩ st, ?_⟩
  unfold TL
  exact ⟨l, [], by simp, (h.stay (alloc_stay _ _)).stay st, by unfold TL; rfl⟩
/-- A node with two parts. -/
theorem TC.node2 {w2 w5 : World} {P : Nat → Prop} {e : TypeId} {t u : Tr} {l m : List Value} {box : Nat} {k n : Int} {wd : Bs} (h : TC w2 P e t l) (h' : TC w2 P e u m) (k5 : Keeps (fun i => i = box) (w2.alloc (.cells (l ++ m).toArray e)) w5) (hb : ∀ g, P g → g ≠ box) (hP : P w2.heap.size) (hk : I64 k) (hn : I64 n) (hw : wd.length ≤ 140737488355328) :
    TC w5 P e (.mk k n wd [t, u]) [.int .i64 k, .int .i64 n, .string (bs wd), .slice (some ⟨w2.heap.size, 0, none⟩) 2 2] := by
  have st : Stay P (w2.alloc (.cells (l ++ m).toArray e)) w5 := k5.stay (fun i hi _ => hb i hi)
  have hl := h.len
  have hm := h'.len
  unfold TC
  refine ⟨hk, hn, hw, _, l ++ m, rfl, OwnP.stay ⟨own_lit w2 e (l ++ m) 2 4 (by rw [List.length_append, hl, hm]) (by decide), fun g hg => by cases hg; exact hP⟩ st, ?_⟩
  unfold TL
  refine ⟨l, m, rfl, (h.stay (alloc_stay _ _)).stay st, ?_⟩
  unfold TL
  exact ⟨m, [], by simp, (h'.stay (alloc_stay _ _)).stay st, by unfold TL; rfl⟩
/-- A node without parts. -/
theorem TC.leaf {w : World} {P : Nat → Prop} {e : TypeId} {k n : Int} {wd : Bs} (hk : I64 k) (hn : I64 n) (hw : wd.length ≤ 140737488355328) : TC w P e (.mk k n wd []) [.int .i64 k, .int .i64 n, .string (bs wd), .slice none 0 0] := by
  unfold TC
  exact ⟨hk, hn, hw, _, [], rfl, ⟨⟨rfl, .inl ⟨rfl, rfl⟩⟩, fun g hg => by cases hg⟩, by unfold TL; rfl⟩
/-- What a reading of an expression comes to. -/
def RetE (x : Except Bs (Tr × Bs)) (w : World) (r : Nat) (T : Bs) (e : Ending) (w' : World) : Prop := match x with
  | .ok (t, R1) => ∃ k n s p m c, e = .returned (.agg #[.int .i64 k, .int .i64 n, .string s, .slice p m c]) ∧ TC w' (fun g => w.heap.size ≤ g) 35 t [.int .i64 k, .int .i64 n, .string s, .slice p m c] ∧ RdM w' r T R1 ∧ Keeps (fun k => k = r) w w'
  | .error E => e = panT T E ∧ Keeps (fun k => k = r) w w'
abbrev pR (r : Nat) : Value := .pointer (some ⟨r, 0, none⟩)
/-- The contracts of the functions that read expressions. -/
structure CE (d : Nat) : Prop where
  ex : ∀ w r T R least, RdM w r T R → 10 * R.length + 5 ≤ d → 1 ≤ least → least ≤ 9 → Calls Tryz.prog 48 #[pR r, .int .i64 (least : Nat)] w (RetE (ex d least R) w r T)
  opd : ∀ w r T R, RdM w r T R → 10 * R.length + 4 ≤ d → Calls Tryz.prog 70 #[pR r] w (RetE (opd d R) w r T)
  lst : ∀ w r T R, RdM w r T R → 10 * R.length + 3 ≤ d → Calls Tryz.prog 90 #[pR r] w (RetE (lst d R) w r T)
  obj : ∀ w r T R, RdM w r T R → 10 * R.length + 2 ≤ d → Calls Tryz.prog 73 #[pR r] w (RetE (obj d R) w r T)
  pr : ∀ w r T R, RdM w r T R → (tok R = kMin ∨ tok R = kMax) → 10 * R.length + 2 ≤ d → Calls Tryz.prog 97 #[pR r] w (RetE (pr d R) w r T)
theorem RdM.lt {w : World} {r : Nat} {T R : Bs} (h : RdM w r T R) : r < w.heap.size := h.c.lt (by show 0 < 3; decide)
/-- The zero expression's cells. -/
abbrev zE : List Value := [.int .i64 0, .int .i64 0, .string { data := #[] }, .slice none 0 0]
theorem one4 {k n : Int} {s : ByteArray} {p : Option Addr} {m c : Nat} : ([.int .i64 k, .int .i64 n, .string s, .slice p m c] : List Value).toArray.all (·.oneCell') = true := all_oneCell_toArray (by simp [Value.oneCell'])
set_option maxHeartbeats 800000 in
set_option maxRecDepth 100000 in
theorem opd_5 {d : Nat} (IH : CE d) {w : World} {r : Nat} {T R : Bs} (h : RdM w r T R) (hd : 10 * R.length + 4 ≤ d + 1) (ht : tok R = [45]) : Calls Tryz.prog 70 #[pR r] w (RetE (opd (d + 1) R) w r T) := by
  have hr := h.lt
  have hr12 : ∀ i, i < 12 → ¬ i = r := fun i hi e => by have := h.low; omega
  have nb : ¬ w.heap.size = r := by omega
  have y2 : ∀ ob, (w.alloc ob).cell? ⟨r, 2, none⟩ = some (.string (bs (tok R))) := fun ob => ((Keeps.refl (fun _ => False) w).alloc ob).cell (h.c.c 2 _ rfl) (fun e => e)
  have hA := fun ob => h.keep ((Keeps.refl (fun _ => False) w).alloc ob) (fun _ _ e => e) (fun e => e)
  have m0 := CL.made w zE 35
  have hu : opd (d + 1) R = thr (nxt R) fun R1 => thn (opd d R1) fun t R2 => .ok (.mk 5 0 [] [t], R2) := by
    rw [opd]
    simp [ht]
  rw [hu]
  clear hu
  have e1 : ((bs (tok R)).toList == [45]) = true := by rw [bs_toList, ht]; rfl
  have e2 : ((bs (tok R)).toList == [33]) = false := by rw [bs_toList, ht]; rfl
  have hlt : ∀ R1, nxt R = .ok R1 → R1.length < R.length := fun R1 e => nxt_lt e (by rw [ht]; decide)
  cases hn : nxt R with
  | error E =>
    have hN := fun ob => next_no (hA ob) hn
    generalize bs (tok R) = K at *
    clear hA
    show Calls _ _ _ _ (fun e w' => e = panT T E ∧ Keeps (fun k => k = r) w w')
    go_enter Tryz.func70, Tryz.ntmps70
    go_wp2_with (go_at_call 32; refine (hN _).mono ?_; rintro e w1 ⟨rfl, k1⟩)
    exact ⟨rfl, rfl, ((Keeps.refl _ w).alloc _).trans k1⟩
  | ok R1 =>
    have hl1 := hlt R1 hn
    have hN := fun ob => next_ok (hA ob) hn
    have hO := fun W (hR : RdM W r T R1) => IH.opd W r T R1 hR (by omega)
    generalize bs (tok R) = K at *
    clear hA hn
    show Calls _ _ _ _ (RetE (thn (opd d R1) fun t R2 => .ok (.mk 5 0 [] [t], R2)) w r T)
    cases ho : opd d R1 with
    | error E =>
      rw [ho] at hO
      clear ho
      show Calls _ _ _ _ (fun e w' => e = panT T E ∧ Keeps (fun k => k = r) w w')
      go_enter Tryz.func70, Tryz.ntmps70
      go_wp2_with (first | (go_at_call 32; refine (hN _).mono ?_; rintro e w1 ⟨rfl, h1, k1⟩) | (go_at_call 70; refine (hO _ h1).mono ?_; rintro e w2 ⟨rfl, k2⟩))
      exact ⟨rfl, rfl, (((Keeps.refl _ w).alloc _).trans k1).trans k2⟩
    | ok z =>
      obtain ⟨t, R2⟩ := z
      rw [ho] at hO
      clear ho
      show Calls _ _ _ _ (fun e w' => ∃ k n s p m c, e = .returned (.agg #[.int .i64 k, .int .i64 n, .string s, .slice p m c]) ∧ TC w' (fun g => w.heap.size ≤ g) 35 (.mk 5 0 [] [t]) [.int .i64 k, .int .i64 n, .string s, .slice p m c] ∧ RdM w' r T R2 ∧ Keeps (fun k => k = r) w w')
      go_enter Tryz.func70, Tryz.ntmps70
      go_wp2_with (first | (go_at_call 32; refine (hN _).mono ?_; rintro e w1 ⟨rfl, h1, k1⟩) | (go_at_call 70; refine (hO _ h1).mono ?_; rintro e w2 ⟨k, n, s, p, m, c, rfl, t2, h2, k2⟩; have HM := ((m0.keep (by show 0 < 4; decide) k1 nb).keep (by show 0 < 4; decide) k2 nb).alloc (by show 0 < 4; decide) (.cells [.int .i64 k, .int .i64 n, .string s, .slice p m c].toArray 35)) | (refine wpList_build1L uEx inEx (by decide) (by decide) rfl _ rfl [_, _, _, _] rfl rfl ?_; (try simp only [Act.put, List.setIfInBounds_toArray, List.set_cons_zero, List.set_cons_succ])) | (refine wpList_store_cl rfl 35 _ _ rfl w.heap.size 0 4 _ rfl rfl rfl HM (by show 4 ≤ 4; decide) iEx one4 ?_; intro w5 hc5 k5 hsz5; clear hsz5))
      have z1 := k1.size
      simp only [World.size_alloc] at z1
      have z2 := k2.size
      have K2 : Keeps (fun k => k = r) w w2 := (((Keeps.refl _ w).alloc _).trans k1).trans k2
      have t3 : TC w2 (fun g => w.heap.size < g) 35 t _ := t2.mono (fun g hg => by omega)
      have tn := t3.node1 (k := 5) (n := 0) (wd := []) k5 (fun g hg => by omega) (by omega) (by unfold I64; omega) (by unfold I64; omega) (by decide)
      have hc6 : CL w5 w.heap.size [.int .i64 5, .int .i64 0, .string (bs []), .slice (some ⟨w2.heap.size, 0, none⟩) 1 1] := hc5
      have hrn := run_ex hc6
      have k6 : Keeps (fun i => i = w.heap.size) w2 w5 := ((Keeps.refl _ w2).alloc _).trans k5
      refine bodyPost_ret (v := .agg #[.int .i64 5, .int .i64 0, .string (bs []), .slice (some ⟨w2.heap.size, 0, none⟩) 1 1]) (by rw [results_cell1 rfl]; simp [asAddr, hrn]) rfl ?_
      refine ⟨_, _, _, _, _, _, rfl, tn.mono (fun g hg => by omega), h2.keep k6 (fun i hi e => by have := h.low; omega) (fun e => by omega), K2.trans' k6 (fun _ _ e => e) (fun i hi e => by omega)⟩
end Go.Proofs.YtehblpbefkopbaaGreatDoor
