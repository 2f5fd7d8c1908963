import Derived.Test.YthmlppepgcjfgaaGrA
import Derived.Maps.OwnSet
import Derived.Deep.RegionHeld3
import Derived.WalkMore
import Derived.Scope
namespace Go.Proofs.Ythmlppepgcjfgaa
open Go.RowKit Go.Maps Go.ChangeMaps Go.MapKept Go.WideShapes
attribute [local go_sem] Oper.semAt_some run_store_nf run_store_f
theorem underI : Try.prog.underlying 3 = some (.int .i64) := by kernel_rfl
theorem keyedG : Keyed Try.prog 3 := int_keyed underI
theorem zeroI (w : World) : (zeroValue 3).run Try.prog w = .ok (.int .i64 0) w := by kernel_rfl
theorem tight {H : Type} {P : Program} {k : TypeId} {R : Value → Option (DataW H × List MemPlace)} {w : World} {b n : Nat} {D : DataW H} (h : w.ownsMap P k R b n D) : w.ownsMap P k R b (Maps.size D) D := by
  obtain ⟨es, clock, hb, F, hs, rfl⟩ := h
  exact ⟨es, clock, hb, F, by simp [Maps.size, length_sorted], rfl⟩
/-- An element stands for itself. -/
def Rh (v : Value) : Option (DataW Value × List MemPlace) := some (.held v, [])
/-- A map from numbers, in memory. -/
def MV (w : World) (mb n : Nat) (f : Int → Option Value) : Prop :=
  ∃ D : DataW Value, w.ownsMap Try.prog 3 Rh mb n D ∧ Maps.size D = n ∧
    ∀ k, I64 k → Maps.has D (.int .i64 k) = (f k).isSome ∧ ∀ u, f k = some u → ∀ z, D.atKey (.int .i64 k) z = .held u
theorem MV.lt {w : World} {mb n : Nat} {f : Int → Option Value} (h : MV w mb n f) : mb < w.heap.size := by
  obtain ⟨D, h, _⟩ := h
  exact h.lt
theorem MV.same {w w' : World} {mb n : Nat} {f : Int → Option Value} (h : MV w mb n f) (hb : w'.heap[mb]? = w.heap[mb]?) : MV w' mb n f := by
  obtain ⟨D, ⟨es, c, hb', r⟩, r'⟩ := h
  exact ⟨D, ⟨es, c, hb.trans hb', r⟩, r'⟩
theorem MV.keep {w w' : World} {mb n : Nat} {f : Int → Option Value} {S : Nat → Prop} (h : MV w mb n f) (k : Keeps S w w') (hS : ¬ S mb) : MV w' mb n f := h.same (k.block mb h.lt hS)
theorem key_int {k : Int} (h : I64 k) : keyOf Try.prog 3 (.int .i64 k) = some (.int .i64 k) := keyOf_int_mk underI (wf_of_i64 h)
theorem keeps_turned {w w' : World} {b : Nat} (h : w.mapTurned w' b) : Keeps (fun k => k = b) w w' := (Keeps.refl _ w).grown h.grown (fun _ _ e => by cases e; rfl)
theorem ne_key {a b : Int} (h : a ≠ b) : (Lit.int .i64 a) ≠ (Lit.int .i64 b) := fun e => h (by cases e; rfl)
def updV (f : Int → Option Value) (k : Int) (v : Value) : Int → Option Value := fun x => if x = k then some v else f x
theorem MV.look {w : World} {mb n : Nat} {f : Int → Option Value} (h : MV w mb n f) {t e : TypeId} (ht : Try.prog.underlying t = some (.map 3 e)) {z : Value} (hz : (zeroValue e).run Try.prog w = .ok z w) {k : Int} (hk : I64 k) :
    (Instr.lookup t (.map (some mb)) (.int .i64 k) false).run Try.prog w = .ok ((f k).getD z) w := by
  obtain ⟨D, h1, h2, h3⟩ := h
  obtain ⟨v, ps, hrun, hv⟩ := h1.lookup keyedG ht hz (zd := .held z) (zp := []) rfl (key_int hk)
  rw [hrun]
  have e : (DataW.held v : DataW Value) = D.atKey (.int .i64 k) (.held z) := by
    exact congrArg Prod.fst (Option.some.inj hv)
  cases hf : f k with
  | none =>
    rw [atKey_of_not_has (by rw [(h3 k hk).1, hf]; rfl)] at e
    rw [DataW.held.inj e]
    rfl
  | some u =>
    rw [(h3 k hk).2 u hf] at e
    rw [DataW.held.inj e]
    rfl
theorem MV.put {w : World} {mb n : Nat} {f : Int → Option Value} (h : MV w mb n f) {t e : TypeId} (ht : Try.prog.underlying t = some (.map 3 e)) {k : Int} (hk : I64 k) (v : Value) (hn : n < 9223372036854775807) :
    ∃ w', (Instr.mapUpdate t (.map (some mb)) (.int .i64 k) v).run Try.prog w = .ok () w' ∧ MV w' mb (if (f k).isSome then n else n + 1) (updV f k v) ∧ Keeps (fun i => i = mb) w w' := by
  obtain ⟨D, h1, h2, h3⟩ := h
  obtain ⟨w', hrun, hown, htn⟩ := h1.store keyedG ht (by unfold maxLen; omega) (key_int hk) (d := .held v) (ps := []) rfl
  have hT := h1.tidy keyedG
  have e := size_put (k := .int .i64 k) hT (.held v)
  rw [(h3 k hk).1, h2] at e
  refine ⟨w', hrun, ⟨D.put (.int .i64 k) (.held v), ?_, e, fun x hx => ?_⟩, keeps_turned htn⟩
  · rw [← e]
    exact tight hown
  · unfold updV
    by_cases c : x = k
    · subst c
      have hkl : WideAt.IsKeyLit (.int .i64 x) := trivial
      rw [if_pos rfl, has_put_same h1.isMap hkl]
      refine ⟨rfl, fun u hu z => ?_⟩
      rw [atKey_put_same h1.isMap hkl, Option.some.inj hu]
    · rw [if_neg c, has_put_other (ne_key c)]
      refine ⟨(h3 x hx).1, fun u hu z => ?_⟩
      rw [atKey_put_other (ne_key c)]
      exact (h3 x hx).2 u hu z
theorem MV.made (w : World) : MV (w.alloc (.map #[] 0)) w.heap.size 0 (fun _ => none) :=
  ⟨.map [], World.ownsMap_made w _ _ _, rfl, fun _ _ => ⟨rfl, fun u hu => by cases hu⟩⟩
theorem wpAnyH_two' {P : Program} {ops : Array Oper} {Q : Exit → Act → World → Prop} {md : Region.Mode} {S : World → Prop} {fuel : Nat} {listed : Array Bool} {a : Act} {w : World} {o o2 : Oper} (i i2 : Nat) (hr : Region.ready md ops listed = [i, i2]) (hoi : ops[i]? = some o) (hoi2 : ops[i2]? = some o2) (hw : Region.wanted o (yielded ops a.tmps) = true) (hw2 : Region.wanted o2 (yielded ops a.tmps) = true)
    (h : Oper.wp P o a w (fun a' w' => S w' ∧ (S w' → wpAnyH P md ops Q S fuel (listed.setIfInBounds i true) a' w')) Q) (h2 : Oper.wp P o2 a w (fun a' w' => S w' ∧ (S w' → wpAnyH P md ops Q S fuel (listed.setIfInBounds i2 true) a' w')) Q) : wpAnyH P md ops Q S (fuel + 1) listed a w := by
  refine wpAnyH_ready hr (by simp) (AllReadyH.cons hoi (fun K hK => ?_) (AllReadyH.cons hoi2 (fun K hK => ?_) AllReadyH.nil))
  · rw [if_pos hw]
    exact Oper.wp_mono (fun a' w' e => hK.out _ _ e.1 e.2) h
  · rw [if_pos hw2]
    exact Oper.wp_mono (fun a' w' e => hK.out _ _ e.1 e.2) h2
theorem wp_append_t {P : Program} {w : World} {o : Oper} {a : Act} {Kk : Act → World → Prop} {Q : Exit → Act → World → Prop} (s x : Operand) (t : TypeId)
    (ho : o.op = .call { callee := .builtin .append, args := #[s, x], argTypes := #[t, t] }) (v src v' : Value) (w' : World) (hs : a.eval s = v) (hx : a.eval x = src)
    (hr : (Builtin.append_ #[t, t] o.type #[v, src]).run P w = .ok v' w') (h : Kk (a.put o.dst v') w') : Oper.wp P o a w Kk Q := by
  unfold Oper.wp execOp
  simp only [ho, resolve, invoke, builtin, Sem.run_bind, Sem.run_pure, Result.andThen_ok, List.map_toArray, List.map_cons, List.map_nil, hs, hx, hr]
  exact h
theorem wp_loadK {P : Program} {o : Oper} {a : Act} {w : World} {K : Act → World → Prop} {Q : Exit → Act → World → Prop} (ty : TypeId) (x : Operand) (ho : o.op = .load ty x) (p : Addr) (hx : a.eval x = .pointer (some p)) (v : Value) (hr : (loadVar ty p).run P w = .ok v w) (h : K (a.put o.dst v) w) : o.wp P a w K Q := by
  unfold Oper.wp execOp
  simp only [ho, hx, Instr.loadAt, Instr.sureAddr, Sem.run_bind, Sem.run_pure, Result.andThen_ok, hr]
  exact h
theorem wp_storeK {P : Program} {o : Oper} {a : Act} {w w' : World} {K : Act → World → Prop} {Q : Exit → Act → World → Prop} (ty : TypeId) (x y : Operand) (ho : o.op = .store ty x y) (p : Addr) (hx : a.eval x = .pointer (some p)) (v : Value) (hy : a.eval y = v) (hr : (storeVar ty p v).run P w = .ok () w') (h : K (a.put o.dst undef) w') : o.wp P a w K Q := by
  unfold Oper.wp execOp
  simp only [ho, hx, hy, Instr.storeAt, Instr.sureAddr, Sem.run_bind, Sem.run_pure, Result.andThen_ok, hr]
  exact h
theorem wp_lookupK {P : Program} {o : Oper} {a : Act} {w : World} {K : Act → World → Prop} {Q : Exit → Act → World → Prop} (t : TypeId) (x y : Operand) (ho : o.op = .lookup t x y false) (m k : Value) (hx : a.eval x = m) (hy : a.eval y = k) (v : Value) (hr : (Instr.lookup t m k false).run P w = .ok v w) (h : K (a.put o.dst v) w) : o.wp P a w K Q := by
  unfold Oper.wp execOp
  simp only [ho, hx, hy, hr, Sem.run_bind, Sem.run_pure, Result.andThen_ok]
  exact h
theorem wp_updateK {P : Program} {o : Oper} {a : Act} {w w' : World} {K : Act → World → Prop} {Q : Exit → Act → World → Prop} (t : TypeId) (x y z : Operand) (ho : o.op = .mapUpdate t x y z) (m k v : Value) (hx : a.eval x = m) (hy : a.eval y = k) (hz : a.eval z = v) (hr : (Instr.mapUpdate t m k v).run P w = .ok () w') (h : K (a.put o.dst undef) w') : o.wp P a w K Q := by
  unfold Oper.wp execOp
  simp only [ho, hx, hy, hz, hr, Sem.run_bind, Sem.run_pure, Result.andThen_ok]
  exact h
theorem uI : Try.prog.underlying 56 = some (.slice 3) := by kernel_rfl
theorem iI : (Try.prog.info? 3).map (fun i => (i.zero, i.size, i.bytes)) = some (some (.int .i64 0), 1, 8) := by kernel_rfl
theorem zeroSl (w : World) : (zeroValue 56).run Try.prog w = .ok (.slice none 0 0) w := by kernel_rfl
theorem wp_buildK {o : Oper} {a : Act} {w : World} {K : Act → World → Prop} {Q : Exit → Act → World → Prop} (x : Operand) (ho : o.op = .buildSlice 56 1 #[(0, x)]) (n : Int) (hx : a.eval x = .int .i64 n)
    (h : K (a.put o.dst (.slice (some ⟨w.heap.size, 0, none⟩) 1 1)) (w.alloc (.cells #[.int .i64 n] 3))) : o.wp Try.prog a w K Q := by
  obtain ⟨i0, hi0, hzz⟩ := Option.map_eq_some_iff.1 iI
  simp only [Prod.mk.injEq] at hzz
  obtain ⟨hz0, hz1, -⟩ := hzz
  refine wp_buildSlice 56 3 1 _ ho #[.int .i64 n] i0 _ uI hi0 hz0 (by rw [hz1]; decide) (by rw [hz1]; decide) ?_ h
  rw [hz1]
  have e : (#[(0, x)].map fun (i, x) => (i, a.eval x)).toList = ([Value.int .i64 n].zipIdx 0).map fun x => (x.2, x.1) := by simp [hx]
  have e2 : ([Value.int .i64 n].flatMap fun v => v.cells.toList).toArray = #[.int .i64 n] := by simp; rfl
  rw [e, Great.fill_whole (s := 1) (by decide) [Value.int .i64 n] _ (fun v hv => by simp at hv; subst hv; rfl) (by simp), e2]
def pvs (L : List Nat) : List Value := L.map (fun i : Nat => Value.int .i64 (i : Int))
theorem pvs_len (L : List Nat) : (pvs L).length = L.length := by unfold pvs; rw [List.length_map]
def PM (w : World) (a : Option Addr) (L : List Nat) : Prop := ∀ i, i < L.length → ∃ b off, a = some ⟨b, off, none⟩ ∧ w.cell? ⟨b, off + i, none⟩ = some (.int .i64 ((L.getD i 0 : Nat) : Int))
theorem PM.keep {w w' : World} {a : Option Addr} {L : List Nat} (h : PM w a L) (k : Keeps (fun _ => False) w w') : PM w' a L := fun i hi => by
  obtain ⟨b, off, e, hc⟩ := h i hi
  exact ⟨b, off, e, k.cell hc (fun e => e)⟩
theorem PM.of {W : World} {base n : Nat} {a : Option Addr} {cap : Nat} {L : List Nat} (h : W.ownsRow base 3 1 (.slice a n cap) n (pvs L)) : PM W a L := fun i hi => by
  obtain ⟨a', cap', e, hc, -, -⟩ := own_slice h
  injection e with e1 e2 e3
  subst e1
  obtain ⟨g, e, hg⟩ := hc i (.int .i64 ((L.getD i 0 : Nat) : Int)) (by
    unfold pvs
    rw [List.getElem?_map, List.getElem?_eq_getElem hi, List.getD_eq_getElem?_getD, List.getElem?_eq_getElem hi]
    rfl)
  exact ⟨g, 0, e, by rw [Nat.zero_add]; exact hg⟩
theorem PM.keepS {w w' : World} {a : Option Addr} {L : List Nat} {S : Nat → Prop} (h : PM w a L) (k : Keeps S w w') (hS : ∀ b off, a = some ⟨b, off, none⟩ → ¬ S b) : PM w' a L := fun i hi => by
  obtain ⟨b, off, e, hc⟩ := h i hi
  exact ⟨b, off, e, k.cell hc (hS b off e)⟩
/-- A number behind a list of one's own. -/
theorem append_n {W : World} {base m : Nat} {v : Value} {L : List Nat} (hO : W.ownsRow base 3 1 v m (pvs L)) (hb : base ≤ W.heap.size) (hm : (m + 1) * 8 ≤ 140737488355328) (x : Nat) :
    ∃ a' c' W', (Builtin.append_ #[56, 56] 56 #[v, .slice (some ⟨W.heap.size, 0, none⟩) 1 1]).run Try.prog (W.alloc (.cells #[.int .i64 (x : Int)] 3)) = .ok (.slice a' (m + 1) c') W' ∧ W'.ownsRow base 3 1 (.slice a' (m + 1) c') (m + 1) (pvs (L ++ [x])) ∧ Keeps (fun i => v.ownBlock = some i) W W' ∧ ((Value.slice a' (m + 1) c').ownBlock = v.ownBlock ∨ (Value.slice a' (m + 1) c').ownBlock = some (W.heap.size + 1)) := by
  obtain ⟨v', W', q1, q2, q3, q4⟩ := append_sz uI iI rfl (by decide) hO hb (by decide) hm [.int .i64 (x : Int)] rfl (fun u hu => by simp at hu; subst hu; rfl)
  have e : pvs (L ++ [x]) = pvs L ++ [.int .i64 (x : Int)] := by unfold pvs; rw [List.map_append]; rfl
  rw [← e] at q2
  obtain ⟨a', c', rfl, -⟩ := own_slice q2
  exact ⟨a', c', W', q1, q2, q3, q4⟩
theorem row_map {W : World} {base n size mb cnt : Nat} {e : TypeId} {v : Value} {l : List Value} {f : Int → Option Value} (h : W.ownsRow base e size v n l) (hm : MV W mb cnt f) : v.ownBlock ≠ some mb := fun q => by
  obtain ⟨D, ⟨es, c, hb, -⟩, -⟩ := hm
  rcases h.2 with ⟨rfl, -⟩ | ⟨g, cap, cur, rfl, -, hg, -⟩
  · cases q
  · cases q
    rw [hb] at hg
    cases hg
/-- The lists of a map, on their way. -/
structure LD (W : World) (base mb : Nat) (g : List Eg) (cnt : Nat) (f : Int → Option Value) : Prop where
  m : MV W mb cnt f
  n : cnt ≤ g.length
  b : base ≤ mb
  h : ∀ v : Nat, (f (v : Int) = none ∧ ldN g v = []) ∨ ∃ s, f (v : Int) = some s ∧ W.ownsRow base 3 1 s (ldN g v).length (pvs (ldN g v))
  d : ∀ v v' : Nat, v ≠ v' → ∀ s s', f (v : Int) = some s → f (v' : Int) = some s' → ∀ b, s.ownBlock = some b → s'.ownBlock ≠ some b
theorem LD.start (W : World) : LD (W.alloc (.map #[] 0)) W.heap.size W.heap.size [] 0 (fun _ => none) :=
  ⟨MV.made W, Nat.le_refl _, Nat.le_refl _, fun v => .inl ⟨rfl, rfl⟩, fun v v' _ s s' h => by cases h⟩
theorem LD.keep {W W' : World} {base mb cnt : Nat} {g : List Eg} {f : Int → Option Value} (h : LD W base mb g cnt f) (k : Keeps (fun _ => False) W W') : LD W' base mb g cnt f :=
  ⟨h.m.keep k (fun e => e), h.n, h.b, fun v => (h.h v).imp id (fun ⟨s, e, ho⟩ => ⟨s, e, k.owns ho (fun _ _ e => e)⟩), h.d⟩
/-- What a node's list is. -/
theorem LD.at {W : World} {base mb cnt : Nat} {g : List Eg} {f : Int → Option Value} (h : LD W base mb g cnt f) (v : Nat) : ∃ s, (f (v : Int)).getD (.slice none 0 0) = s ∧ W.ownsRow base 3 1 s (ldN g v).length (pvs (ldN g v)) ∧ (s = .slice none 0 0 ∨ f (v : Int) = some s) := by
  rcases h.h v with ⟨e, e2⟩ | ⟨s, e, ho⟩
  · rw [e, e2]
    exact ⟨_, rfl, World.ownsRow_nil _ _ _ _, .inl rfl⟩
  · rw [e]
    exact ⟨s, rfl, ho, .inr rfl⟩
/-- An edge more. -/
theorem LD.next {W W1 W2 : World} {base mb cnt : Nat} {g : List Eg} {f : Int → Option Value} (h : LD W base mb g cnt f) (e : Eg) {s s' : Value} (hs : s = .slice none 0 0 ∨ f (e.f : Int) = some s) (hsv : (f (e.f : Int)).getD (.slice none 0 0) = s)
    (k1 : Keeps (fun i => s.ownBlock = some i) W W1) (ho : W1.ownsRow base 3 1 s' ((ldN g e.f).length + 1) (pvs (ldN g e.f ++ [e.t]))) (hob : s'.ownBlock = s.ownBlock ∨ ∃ b, s'.ownBlock = some b ∧ W.heap.size ≤ b)
    (hm : MV W2 mb (if (f (e.f : Int)).isSome then cnt else cnt + 1) (updV f (e.f : Int) s')) (k2 : Keeps (fun i => i = mb) W1 W2) : LD W2 base mb (g ++ [e]) (if (f (e.f : Int)).isSome then cnt else cnt + 1) (updV f (e.f : Int) s') := by
  have nmb : s'.ownBlock ≠ some mb := by
    have hlt : mb < W.heap.size := h.m.lt
    rcases hob with q | ⟨b, q, hb⟩
    · rw [q]
      rcases hs with rfl | hs
      · intro e; cases e
      · rcases h.h e.f with ⟨e1, _⟩ | ⟨s1, e1, ho1⟩
        · rw [hs] at e1; cases e1
        · rw [hs] at e1; cases e1
          exact row_map ho1 h.m
    · rw [q]
      intro e
      injection e with e
      omega
  have hne : ∀ v : Nat, v ≠ e.f → (v : Int) ≠ (e.f : Int) := fun v hv q => hv (by omega)
  refine ⟨hm, ?_, h.b, fun v => ?_, fun v v' hv s1 s2 h1 h2 b hb1 hb2 => ?_⟩
  · rw [List.length_append]
    have := h.n
    show _ ≤ g.length + 1
    split <;> omega
  · unfold updV
    rw [ldN_app]
    by_cases q : v = e.f
    · subst q
      rw [if_pos rfl, if_pos rfl]
      refine .inr ⟨s', rfl, ?_⟩
      rw [List.length_append]
      exact k2.owns ho (fun b e1 e2 => nmb (by have e2 : b = mb := e2; rw [e1, e2]))
    · rw [if_neg (hne v q), if_neg (fun e => q e.symm)]
      rcases h.h v with hh | ⟨s1, e1, ho1⟩
      · exact .inl hh
      · refine .inr ⟨s1, e1, k2.owns (k1.owns ho1 (fun b hb hs2 => ?_)) (fun b hb e2 => ?_)⟩
        · rcases hs with rfl | hs
          · cases hs2
          · exact h.d v e.f q s1 s e1 hs b hb hs2
        · have e2 : b = mb := e2
          exact row_map ho1 h.m (by rw [hb, e2])
  · unfold updV at h1 h2
    have old : ∀ (v : Nat) (s1 : Value), v ≠ e.f → f (v : Int) = some s1 → s1.ownBlock = some b → s'.ownBlock ≠ some b := fun v s1 q e1 hb hb' => by
      rcases hob with r | ⟨b2, r, hb2⟩
      · rw [r] at hb'
        rcases hs with rfl | hs
        · cases hb'
        · exact h.d v e.f q s1 s e1 hs b hb hb'
      · rw [r] at hb'
        injection hb' with hb'
        rcases h.h v with ⟨e2, _⟩ | ⟨s3, e2, ho3⟩
        · rw [e1] at e2; cases e2
        · rw [e1] at e2; cases e2
          have := owns_lt' ho3 b hb
          omega
    by_cases q : v = e.f
    · rw [if_pos (by rw [q])] at h1
      cases h1
      have q2 : v' ≠ e.f := fun e2 => hv (by rw [q, e2])
      rw [if_neg (hne v' q2)] at h2
      exact old v' s2 q2 h2 hb2 hb1
    · rw [if_neg (hne v q)] at h1
      by_cases q2 : v' = e.f
      · rw [if_pos (by rw [q2])] at h2
        cases h2
        exact old v s1 q h1 hb1 hb2
      · rw [if_neg (hne v' q2)] at h2
        exact h.d v v' hv s1 s2 h1 h2 b hb1 hb2
theorem iEd : (Try.prog.info? 34).map (·.size) = some 4 := by kernel_rfl
theorem run_ed {W : World} {b o : Nat} {c : Ed} (hc : ∀ j v, c.cells[j]? = some v → W.cell? ⟨b, o + j, none⟩ = some v) : (loadVar 34 ⟨b, o, none⟩).run Try.prog W = .ok (.agg c.cells.toArray) W :=
  run_loadVar_mid W b o 34 c.cells _ hc Try.underlying34 rfl (by rw [iEd]; rfl)
theorem all_oneCell_ed (c : Ed) : (c.cells.toArray).all (·.oneCell') = true := by
  rw [List.all_toArray, List.all_eq_true]
  intro v hv
  simp only [Ed.cells, List.mem_cons, List.not_mem_nil, or_false] at hv
  rcases hv with rfl | rfl | rfl | rfl <;> rfl
/-- Is it a node? -/
def isN (n v : Int) : Bool := decide (0 ≤ v) && decide (v < n)
theorem isN_iff {n v : Int} : isN n v = true ↔ 0 ≤ v ∧ v < n := by unfold isN; simp
theorem gd_take {n : Int} {l : List Ed} {i : Nat} (h : i < l.length) (h1 : gdE n (l.take i) = true) (h2 : isN n (l.getD i ed0).f = true) (h3 : isN n (l.getD i ed0).t = true) : gdE n (l.take (i + 1)) = true := by
  rw [take_ed h]
  have h1 := of_decide_eq_true h1
  have h2 := isN_iff.1 h2
  have h3 := isN_iff.1 h3
  refine decide_eq_true (fun e he => ?_)
  rcases List.mem_append.1 he with he | he
  · exact h1 e he
  · simp only [List.mem_singleton] at he
    subst he
    exact ⟨h2.1, h2.2, h3.1, h3.2⟩
theorem gd_bad {n : Int} {l : List Ed} {i : Nat} (h : i < l.length) (h2 : isN n (l.getD i ed0).f = false ∨ isN n (l.getD i ed0).t = false) (hn : ¬ (n < 0 ∨ 4096 < n)) : fltG n l = 201 := by
  unfold fltG
  rw [if_neg hn, if_neg]
  intro hg
  have hg := of_decide_eq_true hg
  have hm : l.getD i ed0 ∈ l := by rw [List.getD_eq_getElem?_getD, List.getElem?_eq_getElem h]; exact List.getElem_mem h
  have := hg _ hm
  rcases h2 with h2 | h2
  · rw [isN_iff.2 ⟨this.1, this.2.1⟩] at h2; cases h2
  · rw [isN_iff.2 ⟨this.2.2.1, this.2.2.2⟩] at h2; cases h2
end Go.Proofs.Ythmlppepgcjfgaa
