import Derived.Test.YtehblpbefkopbaaDoorXaY
namespace Go.Proofs.YtehblpbefkopbaaDoor
open Go.RowKit Go.ChangeShapes Go.WideShapes Go.ChangeAt Go.Deep
attribute [local go_sem] Oper.semAt_some run_store_nf run_store_f
/-- A call of a function value that bears one value. -/
theorem wp_callF (f : Nat) {o : Oper} {a : Act} {w : World} {K : Act → World → Prop} {Q : Exit → Act → World → Prop} (x y : Tmp) {t1 : TypeId} (ho : o.op = .call { callee := .value (.tmp x), args := #[.tmp y], argTypes := #[t1] }) (u v1 : Value) (hx : a.tmps[x]?.getD undef = .func (.func f) #[u] #[]) (hy : a.tmps[y]?.getD undef = v1) (hcf : ∀ args w, (callFunc f args).run Tryd.prog w = .ok (.enter f args) w) (h : Calls Tryd.prog f #[u, v1] w (fun e w' => ∃ v, e = .returned v ∧ K (a.put o.dst v) w')) : o.wp Tryd.prog a w K Q := by
  unfold Oper.wp execOp
  simp only [ho]
  go_simp
  refine h.mono ?_
  rintro e w' ⟨v, rfl, h⟩
  exact h
theorem wp_call2v (f : Nat) {o : Oper} {a : Act} {w : World} {K : Act → World → Prop} {Q : Exit → Act → World → Prop} (x y : Tmp) {t1 t2 : TypeId} (ho : o.op = .call { callee := .value (.func f), args := #[.tmp x, .tmp y], argTypes := #[t1, t2] }) (v1 v2 : Value) (hx : a.tmps[x]?.getD undef = v1) (hy : a.tmps[y]?.getD undef = v2) (hcf : ∀ args w, (callFunc f args).run Tryd.prog w = .ok (.enter f args) w) (h : Calls Tryd.prog f #[v1, v2] w (fun e w' => ∃ v, e = .returned v ∧ K (a.put o.dst v) w')) : o.wp Tryd.prog a w K Q := wp_call2 f x y ho v1 v2 hx hy hcf h
theorem wp_call3v (f : Nat) {o : Oper} {a : Act} {w : World} {K : Act → World → Prop} {Q : Exit → Act → World → Prop} (x y z : Tmp) {t1 t2 t3 : TypeId} (ho : o.op = .call { callee := .value (.func f), args := #[.tmp x, .tmp y, .tmp z], argTypes := #[t1, t2, t3] }) (v1 v2 v3 : Value) (hx : a.tmps[x]?.getD undef = v1) (hy : a.tmps[y]?.getD undef = v2) (hz : a.tmps[z]?.getD undef = v3) (hcf : ∀ args w, (callFunc f args).run Tryd.prog w = .ok (.enter f args) w) (h : Calls Tryd.prog f #[v1, v2, v3] w (fun e w' => ∃ v, e = .returned v ∧ K (a.put o.dst v) w')) : o.wp Tryd.prog a w K Q := by
  unfold Oper.wp execOp
  simp only [ho]
  go_simp
  refine h.mono ?_
  rintro e w' ⟨v, rfl, h⟩
  exact h
/-- An expression's cells, somewhere below B. -/
def PtE (W : World) (B b o : Nat) (t : Tr) : Prop := b < B ∧ ∃ l, TC W (fun g => g < B) 32 t l ∧ ∀ j x, l[j]? = some x → W.cell? ⟨b, o + j, none⟩ = some x
theorem PtE.keep {S : Nat → Prop} {W W' : World} {B b o : Nat} {t : Tr} (h : PtE W B b o t) (k : Keeps S W W') (hB : ∀ i, i < B → ¬ S i) : PtE W' B b o t := by
  obtain ⟨h1, l, h2, h3⟩ := h
  exact ⟨h1, l, h2.stay (k.stay (fun i hi _ => hB i hi)), fun j x e => k.cell (h3 j x e) (hB b h1)⟩
/-- The contract of the survey's expression, of trees of so much at most. -/
def CX (N : Nat) : Prop := ∀ (t : Tr), bgE t ≤ N → FtE t → ∀ (W : World) (B v me ms : Nat) (wr : Bool) (ns : List Bs) (p : Option Addr) (c b o : Nat), SV W B v me ms wr ns p c → PtE W B b o t →
  Calls Tryd.prog 54 #[pR v, pA b o] W fun e w' => e = .returned (vlW (mzE t).1 (mzE t).2) ∧ SVT W B v me ms ns p c w' (wr || wrE t) (nmE t ns)
theorem iPl : (Tryd.prog.info? 120).map (·.size) = some 2 := by kernel_rfl
theorem run_pl {W : World} {b : Nat} {x y : Value} (h : CL W b [x, y]) : (loadVar 120 ⟨b, 0, none⟩).run Tryd.prog W = .ok (.agg #[x, y]) W :=
  run_loadVar_mid W b 0 120 [x, y] _ (fun j v e => by have := h.c j v e; rwa [Nat.zero_add]) Tryd.underlying120 rfl (by rw [iPl]; rfl)
theorem onePl {g : Nat} {n : Int} : ([.pointer (some ⟨g, 0, none⟩), .int .i64 n] : List Value).toArray.all (·.oneCell') = true := all_oneCell_toArray (by simp [Value.oneCell'])
/-- The sum on its way. -/
structure SuE (w : World) (B v me ms : Nat) (own : Option Nat) (g n : Nat) (Wr : World) (acc : Nat × Nat) (wr : Bool) (ns : List Bs) (p : Option Addr) (c : Nat) : Prop where
  a : CL Wr (w.heap.size + 1 + 1 + 1) [.int .i64 (acc.1 : Int), .int .i64 (acc.2 : Int)]
  k : CL Wr (w.heap.size + 1) [.pointer (some ⟨g, 0, none⟩), .int .i64 (n : Int)]
  r : CL Wr w.heap.size zZ
  V : SV Wr B v me ms wr ns p c
  kp : Keeps (svS v me ms own) w Wr
  no : ∀ i, (Value.slice p ns.length c).ownBlock = some i → own = some i ∨ w.heap.size + 1 + 1 + 1 < i
  lo : ∀ i, svS v me ms own i → B ≤ i ∧ i < w.heap.size
theorem SuE.step {w : World} {B v me ms : Nat} {own : Option Nat} {g n : Nat} {Wr W' : World} {acc : Nat × Nat} {wr wr' : Bool} {ns ns' : List Bs} {p : Option Addr} {c : Nat} (h : SuE w B v me ms own g n Wr acc wr ns p c) (q : SVT Wr B v me ms ns p c W' wr' ns') :
    ∃ p' c', SuE w B v me ms own g n W' acc wr' ns' p' c' := by
  obtain ⟨p', c', V', no', k'⟩ := q
  have hz := h.a.lt (by show 0 < 2; decide)
  have nb : ∀ i, w.heap.size ≤ i → i ≤ w.heap.size + 1 + 1 + 1 → ¬ svS v me ms (Value.slice p ns.length c).ownBlock i := by
    intro i h1 h2 e
    rcases e with e | e | e | e
    · have := (h.lo v (.inl rfl)).2; omega
    · have := (h.lo me (.inr (.inl rfl))).2; omega
    · have := (h.lo ms (.inr (.inr (.inl rfl)))).2; omega
    · rcases h.no i e with e | e
      · have := (h.lo i (.inr (.inr (.inr e)))).2; omega
      · omega
  refine ⟨p', c', h.a.keep (by show 0 < 2; decide) k' (nb _ (by omega) (by omega)), h.k.keep (by show 0 < 2; decide) k' (nb _ (by omega) (by omega)), h.r.keep (by show 0 < 2; decide) k' (nb _ (by omega) (by omega)), V', h.kp.trans' k' (fun _ _ e => e) (fun i hi e => ?_), fun i e => ?_, h.lo⟩
  · rcases e with e | e | e | e
    · exact .inl e
    · exact .inr (.inl e)
    · exact .inr (.inr (.inl e))
    · rcases h.no i e with e | e
      · exact .inr (.inr (.inr e))
      · omega
  · rcases no' i e with e | e
    · exact h.no i e
    · exact .inr (by omega)
theorem SuE.keep0 {w : World} {B v me ms : Nat} {own : Option Nat} {g n : Nat} {Wr W' : World} {acc : Nat × Nat} {wr : Bool} {ns : List Bs} {p : Option Addr} {c : Nat} (h : SuE w B v me ms own g n Wr acc wr ns p c) (k : Keeps (fun _ => False) Wr W') : SuE w B v me ms own g n W' acc wr ns p c :=
  ⟨h.a.keep (by show 0 < 2; decide) k (fun e => e), h.k.keep (by show 0 < 2; decide) k (fun e => e), h.r.keep (by show 0 < 2; decide) k (fun e => e), h.V.keep0 k, h.kp.trans (k.mono (fun _ _ e => e.elim)), h.no, h.lo⟩
/-- A box of the call's own is written. -/
theorem SuE.box {w : World} {B v me ms : Nat} {own : Option Nat} {g n : Nat} {Wr W' : World} {acc acc' : Nat × Nat} {wr : Bool} {ns : List Bs} {p : Option Addr} {c : Nat} (h : SuE w B v me ms own g n Wr acc wr ns p c) (k : Keeps (fun i => i = w.heap.size + 1 + 1 + 1) Wr W') (ca : CL W' (w.heap.size + 1 + 1 + 1) [.int .i64 (acc'.1 : Int), .int .i64 (acc'.2 : Int)]) : SuE w B v me ms own g n W' acc' wr ns p c := by
  refine ⟨ca, h.k.keep (by show 0 < 2; decide) k (fun e => by omega), h.r.keep (by show 0 < 2; decide) k (fun e => by omega), h.V.keep k (fun i hi e => ?_) (fun i hi e => ?_), h.kp.trans' k (fun _ _ e => e) (fun i hi e => by omega), h.no, h.lo⟩
  · rcases hi with q | q | q | q
    · have := (h.lo v (.inl rfl)).2; omega
    · have := (h.lo me (.inr (.inl rfl))).2; omega
    · have := (h.lo ms (.inr (.inr (.inl rfl)))).2; omega
    · rcases h.no i q with q | q
      · have := (h.lo i (.inr (.inr (.inr q)))).2; omega
      · omega
  · have := h.lo v (.inl rfl); omega
theorem SuE.svt {w : World} {B v me ms : Nat} {g n : Nat} {Wr : World} {acc : Nat × Nat} {wr : Bool} {ns ns0 : List Bs} {p p0 : Option Addr} {c c0 : Nat} (h : SuE w B v me ms (Value.slice p0 ns0.length c0).ownBlock g n Wr acc wr ns p c) : SVT w B v me ms ns0 p0 c0 Wr wr ns :=
  ⟨p, c, h.V, fun i e => (h.no i e).imp (fun q => q) (fun q => by omega), h.kp⟩
end Go.Proofs.YtehblpbefkopbaaDoor
