import Derived.Test.YtehblpbefkopbaaDoorXaX
import Derived.Test.YtehblpbefkopbaaDoorXaW
namespace Go.Proofs.YtehblpbefkopbaaDoor
open Go.RowKit Go.ChangeShapes Go.WideShapes Go.ChangeAt Go.Deep
attribute [local go_sem] Oper.semAt_some run_store_nf run_store_f
theorem wp_append_t {P : Program} {w : World} {o : Oper} {a : Act} {Kk : Act → World → Prop} {Q : Exit → Act → World → Prop} (s x : Operand) (t : TypeId)
    (ho : o.op = .call { callee := .builtin .append, args := #[s, x], argTypes := #[t, t] }) (v src v' : Value) (w' : World) (hs : a.eval s = v) (hx : a.eval x = src)
    (hr : (Builtin.append_ #[t, t] o.type #[v, src]).run P w = .ok v' w') (h : Kk (a.put o.dst v') w') : Oper.wp P o a w Kk Q := by
  unfold Oper.wp execOp
  simp only [ho, resolve, invoke, builtin, Sem.run_bind, Sem.run_pure, Result.andThen_ok, List.map_toArray, List.map_cons, List.map_nil, hs, hx, hr]
  exact h
theorem iStr : (Tryd.prog.info? 9).map (fun i => (i.zero, i.size, i.bytes)) = some (some (.string { data := #[] }), 1, 16) := by kernel_rfl
theorem uStr : Tryd.prog.underlying 50 = some (.slice 9) := by kernel_rfl
theorem wp_buildStr {o : Oper} {a : Act} {w : World} {K : Act → World → Prop} {Q : Exit → Act → World → Prop} (x : Operand) (ho : o.op = .buildSlice 50 1 #[(0, x)]) (s : ByteArray) (hx : a.eval x = .string s)
    (h : K (a.put o.dst (.slice (some ⟨w.heap.size, 0, none⟩) 1 1)) (w.alloc (.cells #[.string s] 9))) : o.wp Tryd.prog a w K Q := by
  obtain ⟨i0, hi0, hzz⟩ := Option.map_eq_some_iff.1 iStr
  simp only [Prod.mk.injEq] at hzz
  obtain ⟨hz0, hz1, -⟩ := hzz
  refine wp_buildSlice 50 9 1 _ ho #[.string s] i0 _ uStr hi0 hz0 (by rw [hz1]; decide) (by rw [hz1]; decide) ?_ h
  rw [hz1]
  have e : (#[(0, x)].map fun (i, x) => (i, a.eval x)).toList = ([Value.string s].zipIdx 0).map fun x => (x.2, x.1) := by simp [hx]
  have e2 : ([Value.string s].flatMap fun v => v.cells.toList).toArray = #[.string s] := by simp; rfl
  rw [e, Great.fill_whole (s := 1) (by decide) [Value.string s] _ (fun v hv => by simp at hv; subst hv; rfl) (by simp), e2]
theorem alive_keep {S : Nat → Prop} {W W' : World} (k : Keeps S W W') {b : Nat} (h : Alive W b) (hb : ¬ S b) : Alive W' b := by
  obtain ⟨ca, ta, q⟩ := h
  exact ⟨ca, ta, by rw [k.block b (Array.getElem?_eq_some_iff.1 q).1 hb]; exact q⟩
theorem own_alive {W : World} {P : Nat → Prop} {e : TypeId} {s b n c m : Nat} {xs : List Value} (h : OwnP W P e s (.slice (some ⟨b, 0, none⟩) n c) m xs) : Alive W b ∧ P b := by
  refine ⟨?_, h.2 b rfl⟩
  rcases h.1.2 with ⟨q, _⟩ | ⟨g, cap, cur, q, _, hg, _⟩
  · cases q
  · injection q with q1 _ _
    injection q1 with q1
    injection q1 with q1 _ _
    subst q1
    exact ⟨_, _, hg⟩
theorem GoE.go {W W' : World} {P : Nat → Prop} {wr wr' : Bool} {ns ns' : List Bs} {b n d m : Nat} (h : GoE W P wr ns b n d m) (st : Stay P W W') (hw : wr = true → wr' = true) (hx : Ext ns ns') : GoE W' P wr' ns' b n d m := by
  obtain ⟨ps, c, xs, h1, h2, h3, h4, h5, h6⟩ := h
  exact ⟨ps, c, xs, h1.stay st, h2, h3.stay st, h4, fun q => hw (h5 q), fun ns2 q => h6 ns2 (hx.trans q)⟩
theorem GoS.go {W W' : World} {P : Nat → Prop} {wr wr' : Bool} {ns ns' : List Bs} {b n d m : Nat} (h : GoS W P wr ns b n d m) (st : Stay P W W') (hw : wr = true → wr' = true) (hx : Ext ns ns') : GoS W' P wr' ns' b n d m := by
  obtain ⟨ps, c, xs, h1, h2, h3, h4, h5, h6⟩ := h
  exact ⟨ps, c, xs, h1.stay st, h2, h3.stay st, h4, fun q => hw (h5 q), fun ns2 q => h6 ns2 (hx.trans q)⟩
theorem MMap.goE {W W' : World} {B mb : Nat} {wr wr' : Bool} {ns ns' : List Bs} {S : Nat → Prop} (h : MMap W mb (GoE W (fun g => g < B) wr ns)) (k : Keeps S W W') (hm : ¬ S mb) (hB : ∀ i, i < B → ¬ S i) (hw : wr = true → wr' = true) (hx : Ext ns ns') : MMap W' mb (GoE W' (fun g => g < B) wr' ns') := by
  obtain ⟨es, cl, h1, h2⟩ := h.h
  refine ⟨es, cl, by rw [k.block mb (Array.getElem?_eq_some_iff.1 h1).1 hm]; exact h1, fun e he => ?_⟩
  obtain ⟨b, n, d, m, q1, q2, q3, q4⟩ := h2 e he
  have q5 : GoE W' (fun g => g < B) wr' ns' b n d m := q4.go (k.stay (fun i hi _ => hB i hi)) hw hx
  obtain ⟨ps, c, xs, p1, _⟩ := q5
  exact ⟨b, n, d, m, q1, q2, (own_alive p1).1, q4.go (k.stay (fun i hi _ => hB i hi)) hw hx⟩
theorem MMap.goS {W W' : World} {B mb : Nat} {wr wr' : Bool} {ns ns' : List Bs} {S : Nat → Prop} (h : MMap W mb (GoS W (fun g => g < B) wr ns)) (k : Keeps S W W') (hm : ¬ S mb) (hB : ∀ i, i < B → ¬ S i) (hw : wr = true → wr' = true) (hx : Ext ns ns') : MMap W' mb (GoS W' (fun g => g < B) wr' ns') := by
  obtain ⟨es, cl, h1, h2⟩ := h.h
  refine ⟨es, cl, by rw [k.block mb (Array.getElem?_eq_some_iff.1 h1).1 hm]; exact h1, fun e he => ?_⟩
  obtain ⟨b, n, d, m, q1, q2, q3, q4⟩ := h2 e he
  have q5 : GoS W' (fun g => g < B) wr' ns' b n d m := q4.go (k.stay (fun i hi _ => hB i hi)) hw hx
  obtain ⟨ps, c, xs, p1, _⟩ := q5
  exact ⟨b, n, d, m, q1, q2, (own_alive p1).1, q4.go (k.stay (fun i hi _ => hB i hi)) hw hx⟩
section
variable {W W' : World} {B v me ms : Nat} {wr wr' : Bool} {ns ns' : List Bs} {p p' : Option Addr} {c c' : Nat} {S : Nat → Prop}
/-- The survey goes on. -/
theorem SV.go (h : SV W B v me ms wr ns p c) (k : Keeps S W W') (he : ¬ S me) (hs : ¬ S ms) (hB : ∀ i, i < B → ¬ S i) (cl : CL W' v [.bool wr', .slice p' ns'.length c', .map (some me), .map (some ms)]) (nm : OwnP W' (fun g => B ≤ g) 9 1 (.slice p' ns'.length c') ns'.length (stl ns'))
    (hw : wr = true → wr' = true) (hx : Ext ns ns') (nd : ∀ g, (Value.slice p' ns'.length c').ownBlock = some g → g ≠ v ∧ g ≠ me ∧ g ≠ ms) (l : ns'.length ≤ 9) : SV W' B v me ms wr' ns' p' c' :=
  ⟨cl, nm, h.ee.goE k he hB hw hx, h.ss.goS k hs hB hw hx, h.g.keep k (fun i hi => hB i (Nat.lt_of_lt_of_le hi h.lo)), h.bv, h.be, h.bm, h.ne, nd, l, h.lo⟩
/-- The blocks that the survey may write. -/
def svS (v me ms : Nat) (o : Option Nat) (k : Nat) : Prop := k = v ∨ k = me ∨ k = ms ∨ o = some k
/-- Nothing of the survey has turned. -/
theorem SV.keep (h : SV W B v me ms wr ns p c) (k : Keeps S W W') (hS : ∀ i, svS v me ms (Value.slice p ns.length c).ownBlock i → ¬ S i) (hB : ∀ i, i < B → ¬ S i) : SV W' B v me ms wr ns p c :=
  h.go k (hS _ (.inr (.inl rfl))) (hS _ (.inr (.inr (.inl rfl)))) hB (h.cl.keep (by show 0 < 4; decide) k (hS _ (.inl rfl))) ⟨k.owns h.nm.1 (fun g hg => hS g (.inr (.inr (.inr hg)))), h.nm.2⟩ (fun q => q) (Ext.refl _) h.nd h.l
theorem SV.low (h : SV W B v me ms wr ns p c) : ∀ i, svS v me ms (Value.slice p ns.length c).ownBlock i → B ≤ i ∧ i < W.heap.size := by
  intro i hi
  have hm : ∀ mb G, MMap W mb G → mb < W.heap.size := fun mb G q => by obtain ⟨es, cl, h1, _⟩ := q.h; exact (Array.getElem?_eq_some_iff.1 h1).1
  rcases hi with rfl | rfl | rfl | hi
  · exact ⟨h.bv, h.cl.lt (by show 0 < 4; decide)⟩
  · exact ⟨h.be, hm _ _ h.ee⟩
  · exact ⟨h.bm, hm _ _ h.ss⟩
  · exact ⟨h.nm.2 i hi, owns_lt' h.nm.1 i hi⟩
theorem SV.keep0 (h : SV W B v me ms wr ns p c) (k : Keeps (fun _ => False) W W') : SV W' B v me ms wr ns p c := h.keep k (fun _ _ q => q) (fun _ _ q => q)
end
/-- How a call leaves the survey. -/
def SVT (W : World) (B v me ms : Nat) (ns : List Bs) (p : Option Addr) (c : Nat) (W' : World) (wr' : Bool) (ns' : List Bs) : Prop :=
  ∃ p' c', SV W' B v me ms wr' ns' p' c' ∧ (∀ g, (Value.slice p' ns'.length c').ownBlock = some g → (Value.slice p ns.length c).ownBlock = some g ∨ W.heap.size ≤ g) ∧ Keeps (svS v me ms (Value.slice p ns.length c).ownBlock) W W'
theorem SVT.refl {W : World} {B v me ms : Nat} {wr : Bool} {ns : List Bs} {p : Option Addr} {c : Nat} (h : SV W B v me ms wr ns p c) : SVT W B v me ms ns p c W wr ns := ⟨p, c, h, fun _ q => .inl q, Keeps.refl _ _⟩
theorem run_load_ss {w : World} {b o : Nat} {p : Option Addr} {m c : Nat} (h : w.cell? ⟨b, o, none⟩ = some (.slice p m c)) : (loadVar 50 ⟨b, o, none⟩).run Tryd.prog w = .ok (.slice p m c) w := by go_simp
theorem run_store_ss {w : World} {b o : Nat} (hc : (w.cell? ⟨b, o, none⟩).isSome = true) (hz : w.frozen? ⟨b, o, none⟩ = false) (p : Option Addr) (m c : Nat) : (storeVar 50 ⟨b, o, none⟩ (.slice p m c)).run Tryd.prog w = .ok () (w.setCell ⟨b, o, none⟩ (.slice p m c)) := by
  obtain ⟨u, hu⟩ := Option.isSome_iff_exists.1 hc
  go_simp
theorem SV.nvm {W : World} {B v me ms : Nat} {wr : Bool} {ns : List Bs} {p : Option Addr} {c : Nat} (h : SV W B v me ms wr ns p c) : v ≠ me := by
  intro e
  obtain ⟨es, cl, h1, _⟩ := h.ee.h
  have := h.cl.c 0 _ rfl
  rw [e] at this
  simp [World.cell?, h1] at this
theorem SV.nvs {W : World} {B v me ms : Nat} {wr : Bool} {ns : List Bs} {p : Option Addr} {c : Nat} (h : SV W B v me ms wr ns p c) : v ≠ ms := by
  intro e
  obtain ⟨es, cl, h1, _⟩ := h.ss.h
  have := h.cl.c 0 _ rfl
  rw [e] at this
  simp [World.cell?, h1] at this
set_option maxHeartbeats 1000000 in
set_option maxRecDepth 100000 in
theorem vname_any {w : World} {B v me ms : Nat} {wr : Bool} {ns : List Bs} {p : Option Addr} {c : Nat} (V : SV w B v me ms wr ns p c) (wd : Bs) (hwd : wd.length ≤ 140737488355328) : Calls Tryd.prog 53 #[pR v, .string (bs wd)] w fun e w' => e = .returned (.tuple #[]) ∧ SVT w B v me ms ns p c w' wr (nmAdd ns wd) := by
  have y1 := V.cl.c 1 _ rfl
  have hC := scontains_any V.nm (by have := V.l; omega) wd
  have hCl := clone_any wd hwd w.drew
  have Vd := V.keep0 ((Keeps.refl (fun _ => False) w).drew)
  have y1d := Vd.cl.c 1 _ rfl
  have hl := V.l
  by_cases h8 : ns.length ≤ 8
  · have d1 : decide ((ns.length : Int) ≤ 8) = true := decide_eq_true (by omega)
    have d2 : decide (ns.length ≤ 8) = true := decide_eq_true h8
    cases hc : ns.contains wd
    · rw [hc] at hC
      have HN : Hid (nmAdd ns wd = ns ++ [wd]) := by show _ = _; unfold nmAdd; rw [if_pos ⟨h8, hc⟩]
      rw [HN.out]
      clear hc HN
      obtain ⟨WD, hWD⟩ : ∃ WD, WD = bs wd := ⟨_, rfl⟩
      rw [← hWD] at hC hCl ⊢
      have HWD : Hid (WD = bs wd) := hWD
      clear hWD
      go_enter Tryd.func53, Tryd.ntmps53
      go_wp2_with (go_at_call 61; refine hC.mono ?_; rintro e wn ⟨rfl, hwn⟩; rw [hwn]; clear hwn wn)
      refine wp_region_held_drew (S := fun _ => True) (by kernel_rfl) trivial (fun hHeld => ?_)
      refine wpAnyH_take (i := 0) (v := ?_) rfl (by kernel_rfl) (by kernel_rfl) (by kernel_rfl) (fun _ _ _ h => h) (Or.inl ⟨by rfl, ?_⟩) (by assumption) ?_
      rotate_left
      · intro wx hSw; clear hSw; go_simp <;> with_reducible rfl
      (try simp only [List.getElem_toArray]); (try simp only [List.getElem_cons_succ]); (try simp only [List.getElem_cons_zero]); (try simp only [Act.put]); (try simp only [List.setIfInBounds_toArray]); (repeat first | simp only [List.set_cons_succ] | simp only [List.set_cons_zero])
      refine wpAnyH_take (i := 1) (v := ?_) rfl (by kernel_rfl) (by kernel_rfl) (by kernel_rfl) (fun _ _ _ h => h) (Or.inl ⟨by rfl, ?_⟩) (by assumption) ?_
      rotate_left
      · intro wx hSw; clear hSw; go_simp <;> with_reducible rfl
      (try simp only [List.getElem_toArray]); (try simp only [List.getElem_cons_succ]); (try simp only [List.getElem_cons_zero]); (try simp only [Act.put]); (try simp only [List.setIfInBounds_toArray]); (repeat first | simp only [List.set_cons_succ] | simp only [List.set_cons_zero])
      refine wpAnyH_take (i := 2) (v := ?_) rfl (by kernel_rfl) (by kernel_rfl) (by kernel_rfl) (fun _ _ _ h => h) (Or.inl ⟨by rfl, ?_⟩) (by assumption) ?_
      rotate_left
      · intro wx hSw; clear hSw; go_simp <;> with_reducible rfl
      (try simp only [List.getElem_toArray]); (try simp only [List.getElem_cons_succ]); (try simp only [List.getElem_cons_zero]); (try simp only [Act.put]); (try simp only [List.setIfInBounds_toArray]); (repeat first | simp only [List.set_cons_succ] | simp only [List.set_cons_zero])
      refine wpAnyH_take (i := 3) (v := ?_) rfl (by kernel_rfl) (by kernel_rfl) (by kernel_rfl) (fun _ _ _ h => h) (Or.inl ⟨by rfl, ?_⟩) (by assumption) ?_
      rotate_left
      · intro wx hSw; clear hSw; go_simp <;> with_reducible rfl
      (try simp only [List.getElem_toArray]); (try simp only [List.getElem_cons_succ]); (try simp only [List.getElem_cons_zero]); (try simp only [Act.put]); (try simp only [List.setIfInBounds_toArray]); (repeat first | simp only [List.set_cons_succ] | simp only [List.set_cons_zero])
      refine wpAnyH_take (i := 5) (v := ?_) rfl (by kernel_rfl) (by kernel_rfl) (by kernel_rfl) (fun _ _ _ h => h) (Or.inl ⟨by rfl, ?_⟩) (by assumption) ?_
      rotate_left
      · intro wx hSw; clear hSw; go_simp <;> with_reducible rfl
      (try simp only [List.getElem_toArray]); (try simp only [List.getElem_cons_succ]); (try simp only [List.getElem_cons_zero]); (try simp only [Act.put]); (try simp only [List.setIfInBounds_toArray]); (repeat first | simp only [List.set_cons_succ] | simp only [List.set_cons_zero])
      refine wpAnyH_two' 4 6 (by kernel_rfl) rfl rfl (by kernel_rfl) (by kernel_rfl) ?_ ?_
      · refine wp_loadK 50 _ rfl ⟨v, 1, none⟩ rfl _ (run_load_ss y1d) ?_
        refine ⟨trivial, fun _ => ?_⟩
        (try simp only [List.getElem_toArray]); (try simp only [List.getElem_cons_succ]); (try simp only [List.getElem_cons_zero]); (try simp only [Act.put]); (try simp only [List.setIfInBounds_toArray]); (repeat first | simp only [List.set_cons_succ] | simp only [List.set_cons_zero])
        refine wpAnyH_one 6 (by kernel_rfl) rfl rfl ?_
        refine wp_call1 62 _ rfl _ rfl (fun _ _ => rfl) (hCl.mono ?_)
        rintro e w1 ⟨rfl, k1⟩
        have V1 := Vd.keep0 k1
        have y1 := V1.cl.c 1 _ rfl
        refine ⟨_, rfl, trivial, fun _ => ?_⟩
        (try simp only [List.getElem_toArray]); (try simp only [List.getElem_cons_succ]); (try simp only [List.getElem_cons_zero]); (try simp only [Act.put]); (try simp only [List.setIfInBounds_toArray]); (repeat first | simp only [List.set_cons_succ] | simp only [List.set_cons_zero])
        obtain ⟨q', W2, hr1, ho1, kq, hbl⟩ := append_sz uStr iStr rfl (by decide) V1.nm.1 (Nat.zero_le _) (by decide) (by have := V1.l; omega) [.string WD] rfl (fun u hu => by simp at hu; rw [hu]; rfl)
        obtain ⟨p', c', rfl, -⟩ := own_slice ho1
        refine wpAnyH_one 7 (by kernel_rfl) rfl rfl ?_
        refine wp_buildStr _ rfl _ rfl ?_
        refine ⟨trivial, fun _ => ?_⟩
        (try simp only [List.getElem_toArray]); (try simp only [List.getElem_cons_succ]); (try simp only [List.getElem_cons_zero]); (try simp only [Act.put]); (try simp only [List.setIfInBounds_toArray]); (repeat first | simp only [List.set_cons_succ] | simp only [List.set_cons_zero])
        refine wpAnyH_one 8 (by kernel_rfl) rfl rfl ?_
        refine wp_append_t _ _ 50 rfl _ _ _ W2 rfl rfl hr1 ?_
        refine ⟨trivial, fun _ => ?_⟩
        (try simp only [List.getElem_toArray]); (try simp only [List.getElem_cons_succ]); (try simp only [List.getElem_cons_zero]); (try simp only [Act.put]); (try simp only [List.setIfInBounds_toArray]); (repeat first | simp only [List.set_cons_succ] | simp only [List.set_cons_zero])
        refine wpAnyH_take (i := 9) (v := ?_) rfl (by kernel_rfl) (by kernel_rfl) (by kernel_rfl) (fun _ _ _ h => h) (Or.inl ⟨by rfl, ?_⟩) (by assumption) ?_
        rotate_left
        · intro wx hSw; clear hSw; go_simp <;> with_reducible rfl
        (try simp only [List.getElem_toArray]); (try simp only [List.getElem_cons_succ]); (try simp only [List.getElem_cons_zero]); (try simp only [Act.put]); (try simp only [List.setIfInBounds_toArray]); (repeat first | simp only [List.set_cons_succ] | simp only [List.set_cons_zero])
        refine wpAnyH_take (i := 10) (v := ?_) rfl (by kernel_rfl) (by kernel_rfl) (by kernel_rfl) (fun _ _ _ h => h) (Or.inl ⟨by rfl, ?_⟩) (by assumption) ?_
        rotate_left
        · intro wx hSw; clear hSw; go_simp <;> with_reducible rfl
        (try simp only [List.getElem_toArray]); (try simp only [List.getElem_cons_succ]); (try simp only [List.getElem_cons_zero]); (try simp only [Act.put]); (try simp only [List.setIfInBounds_toArray]); (repeat first | simp only [List.set_cons_succ] | simp only [List.set_cons_zero])
        have nv : ¬ (Value.slice p ns.length c).ownBlock = some v := fun e => (V1.nd v e).1 rfl
        have C2 := V1.cl.keep (by show 0 < 4; decide) kq nv
        refine wpAnyH_one 11 (by kernel_rfl) rfl rfl ?_
        refine wp_storeK 50 _ _ rfl ⟨v, 1, none⟩ rfl _ rfl (run_store_ss (by rw [C2.c 1 _ rfl]; rfl) (C2.z 1 (by show 1 < 4; decide)) _ _ _) ?_
        refine ⟨trivial, fun _ => ?_⟩
        (try simp only [List.getElem_toArray]); (try simp only [List.getElem_cons_succ]); (try simp only [List.getElem_cons_zero]); (try simp only [Act.put]); (try simp only [List.setIfInBounds_toArray]); (repeat first | simp only [List.set_cons_succ] | simp only [List.set_cons_zero])
        refine wpAnyH_done (by kernel_rfl) ?_ _
        have elen : (ns ++ [wd]).length = ns.length + 1 := by simp
        have C3 : CL (W2.setCell ⟨v, 1, none⟩ (.slice p' (ns.length + 1) c')) v [.bool wr, .slice p' (ns ++ [wd]).length c', .map (some me), .map (some ms)] := by rw [elen]; exact C2.set (o := 1) (by show 1 < 4; decide) _
        have k3 : Keeps (svS v me ms (Value.slice p ns.length c).ownBlock) w1 (W2.setCell ⟨v, 1, none⟩ (.slice p' (ns.length + 1) c')) := Keeps.setCell (S := svS v me ms (Value.slice p ns.length c).ownBlock) (p := ⟨v, 1, none⟩) (kq.mono (fun i _ q => .inr (.inr (.inr q)))) (fun _ => .inl rfl) _
        have z1 := k1.size
        have low1 := V1.low
        have no2 : ∀ g, (Value.slice p' (ns.length + 1) c').ownBlock = some g → (Value.slice p ns.length c).ownBlock = some g ∨ w1.heap.size < g := fun g hg => by
          rcases hbl with q | q
          · rw [q] at hg; exact .inl hg
          · rw [q] at hg; cases hg; exact .inr (by omega)
        have nd2 : ∀ g, (Value.slice p' (ns.length + 1) c').ownBlock = some g → g ≠ v ∧ g ≠ me ∧ g ≠ ms := fun g hg => by
          rcases no2 g hg with q | q
          · exact V1.nd g q
          · have a1 := (low1 v (.inl rfl)).2; have a2 := (low1 me (.inr (.inl rfl))).2; have a3 := (low1 ms (.inr (.inr (.inl rfl)))).2
            exact ⟨by omega, by omega, by omega⟩
        have O3 : OwnP (W2.setCell ⟨v, 1, none⟩ (.slice p' (ns.length + 1) c')) (fun g => B ≤ g) 9 1 (.slice p' (ns.length + 1) c') (ns.length + 1) (stl ns ++ [.string (bs wd)]) := by rw [← HWD.out]; exact ⟨((Keeps.refl (fun i => i = v) W2).setCell (p := ⟨v, 1, none⟩) (fun _ => rfl) _).owns ho1 (fun g hg => (nd2 g hg).1), fun g hg => by
          rcases no2 g hg with q | q
          · exact V1.nm.2 g q
          · have a1 := low1 v (.inl rfl); omega⟩
        have FIN : Hid (SVT w B v me ms ns p c (W2.setCell ⟨v, 1, none⟩ (.slice p' (ns.length + 1) c')) wr (ns ++ [wd])) := by
          refine ⟨p', c', V1.go (S := fun i => i = v ∨ (Value.slice p ns.length c).ownBlock = some i) (Keeps.setCell (S := fun i => i = v ∨ (Value.slice p ns.length c).ownBlock = some i) (p := ⟨v, 1, none⟩) (kq.mono (fun i _ q => .inr q)) (fun _ => .inl rfl) _) (fun q => ?_) (fun q => ?_) (fun i hi q => ?_) C3 (by rw [elen]; have := O3; rw [show stl ns ++ [.string (bs wd)] = stl (ns ++ [wd]) by simp] at this; exact this) (fun q => q) ⟨[wd], rfl⟩ (by rw [elen]; exact nd2) (by rw [elen]; omega), fun g hg => ?_, ((Keeps.drew (Keeps.refl _ w)).trans (k1.mono (fun _ _ q => q.elim))).trans k3⟩
          · rcases q with q | q
            · exact absurd V1.cl (fun _ => by have a1 := V1.low me (.inr (.inl rfl)); exact V1.nvm q.symm)
            · exact (V1.nd me q).2.1 rfl
          · rcases q with q | q
            · exact V1.nvs q.symm
            · exact (V1.nd ms q).2.2 rfl
          · rcases q with q | q
            · have := V1.bv; omega
            · have := V1.nm.2 i q; omega
          · rw [elen] at hg
            rcases no2 g hg with q | q
            · exact .inl q
            · exact .inr (by have zz : w.heap.size ≤ w1.heap.size := z1; omega)
        go_end0
        exact ⟨rfl, FIN.out⟩
      · refine wp_call1 62 _ rfl _ rfl (fun _ _ => rfl) (hCl.mono ?_)
        rintro e w1 ⟨rfl, k1⟩
        have V1 := Vd.keep0 k1
        have y1 := V1.cl.c 1 _ rfl
        refine ⟨_, rfl, trivial, fun _ => ?_⟩
        (try simp only [List.getElem_toArray]); (try simp only [List.getElem_cons_succ]); (try simp only [List.getElem_cons_zero]); (try simp only [Act.put]); (try simp only [List.setIfInBounds_toArray]); (repeat first | simp only [List.set_cons_succ] | simp only [List.set_cons_zero])
        obtain ⟨q', W2, hr1, ho1, kq, hbl⟩ := append_sz uStr iStr rfl (by decide) V1.nm.1 (Nat.zero_le _) (by decide) (by have := V1.l; omega) [.string WD] rfl (fun u hu => by simp at hu; rw [hu]; rfl)
        obtain ⟨p', c', rfl, -⟩ := own_slice ho1
        refine wpAnyH_two' 4 7 (by kernel_rfl) rfl rfl (by kernel_rfl) (by kernel_rfl) ?_ ?_
        · refine wp_loadK 50 _ rfl ⟨v, 1, none⟩ rfl _ (run_load_ss y1) ?_
          refine ⟨trivial, fun _ => ?_⟩
          (try simp only [List.getElem_toArray]); (try simp only [List.getElem_cons_succ]); (try simp only [List.getElem_cons_zero]); (try simp only [Act.put]); (try simp only [List.setIfInBounds_toArray]); (repeat first | simp only [List.set_cons_succ] | simp only [List.set_cons_zero])
          refine wpAnyH_one 7 (by kernel_rfl) rfl rfl ?_
          refine wp_buildStr _ rfl _ rfl ?_
          refine ⟨trivial, fun _ => ?_⟩
          (try simp only [List.getElem_toArray]); (try simp only [List.getElem_cons_succ]); (try simp only [List.getElem_cons_zero]); (try simp only [Act.put]); (try simp only [List.setIfInBounds_toArray]); (repeat first | simp only [List.set_cons_succ] | simp only [List.set_cons_zero])
          refine wpAnyH_one 8 (by kernel_rfl) rfl rfl ?_
          refine wp_append_t _ _ 50 rfl _ _ _ W2 rfl rfl hr1 ?_
          refine ⟨trivial, fun _ => ?_⟩
          (try simp only [List.getElem_toArray]); (try simp only [List.getElem_cons_succ]); (try simp only [List.getElem_cons_zero]); (try simp only [Act.put]); (try simp only [List.setIfInBounds_toArray]); (repeat first | simp only [List.set_cons_succ] | simp only [List.set_cons_zero])
          refine wpAnyH_take (i := 9) (v := ?_) rfl (by kernel_rfl) (by kernel_rfl) (by kernel_rfl) (fun _ _ _ h => h) (Or.inl ⟨by rfl, ?_⟩) (by assumption) ?_
          rotate_left
          · intro wx hSw; clear hSw; go_simp <;> with_reducible rfl
          (try simp only [List.getElem_toArray]); (try simp only [List.getElem_cons_succ]); (try simp only [List.getElem_cons_zero]); (try simp only [Act.put]); (try simp only [List.setIfInBounds_toArray]); (repeat first | simp only [List.set_cons_succ] | simp only [List.set_cons_zero])
          refine wpAnyH_take (i := 10) (v := ?_) rfl (by kernel_rfl) (by kernel_rfl) (by kernel_rfl) (fun _ _ _ h => h) (Or.inl ⟨by rfl, ?_⟩) (by assumption) ?_
          rotate_left
          · intro wx hSw; clear hSw; go_simp <;> with_reducible rfl
          (try simp only [List.getElem_toArray]); (try simp only [List.getElem_cons_succ]); (try simp only [List.getElem_cons_zero]); (try simp only [Act.put]); (try simp only [List.setIfInBounds_toArray]); (repeat first | simp only [List.set_cons_succ] | simp only [List.set_cons_zero])
          have nv : ¬ (Value.slice p ns.length c).ownBlock = some v := fun e => (V1.nd v e).1 rfl
          have C2 := V1.cl.keep (by show 0 < 4; decide) kq nv
          refine wpAnyH_one 11 (by kernel_rfl) rfl rfl ?_
          refine wp_storeK 50 _ _ rfl ⟨v, 1, none⟩ rfl _ rfl (run_store_ss (by rw [C2.c 1 _ rfl]; rfl) (C2.z 1 (by show 1 < 4; decide)) _ _ _) ?_
          refine ⟨trivial, fun _ => ?_⟩
          (try simp only [List.getElem_toArray]); (try simp only [List.getElem_cons_succ]); (try simp only [List.getElem_cons_zero]); (try simp only [Act.put]); (try simp only [List.setIfInBounds_toArray]); (repeat first | simp only [List.set_cons_succ] | simp only [List.set_cons_zero])
          refine wpAnyH_done (by kernel_rfl) ?_ _
          have elen : (ns ++ [wd]).length = ns.length + 1 := by simp
          have C3 : CL (W2.setCell ⟨v, 1, none⟩ (.slice p' (ns.length + 1) c')) v [.bool wr, .slice p' (ns ++ [wd]).length c', .map (some me), .map (some ms)] := by rw [elen]; exact C2.set (o := 1) (by show 1 < 4; decide) _
          have k3 : Keeps (svS v me ms (Value.slice p ns.length c).ownBlock) w1 (W2.setCell ⟨v, 1, none⟩ (.slice p' (ns.length + 1) c')) := Keeps.setCell (S := svS v me ms (Value.slice p ns.length c).ownBlock) (p := ⟨v, 1, none⟩) (kq.mono (fun i _ q => .inr (.inr (.inr q)))) (fun _ => .inl rfl) _
          have z1 := k1.size
          have low1 := V1.low
          have no2 : ∀ g, (Value.slice p' (ns.length + 1) c').ownBlock = some g → (Value.slice p ns.length c).ownBlock = some g ∨ w1.heap.size < g := fun g hg => by
            rcases hbl with q | q
            · rw [q] at hg; exact .inl hg
            · rw [q] at hg; cases hg; exact .inr (by omega)
          have nd2 : ∀ g, (Value.slice p' (ns.length + 1) c').ownBlock = some g → g ≠ v ∧ g ≠ me ∧ g ≠ ms := fun g hg => by
            rcases no2 g hg with q | q
            · exact V1.nd g q
            · have a1 := (low1 v (.inl rfl)).2; have a2 := (low1 me (.inr (.inl rfl))).2; have a3 := (low1 ms (.inr (.inr (.inl rfl)))).2
              exact ⟨by omega, by omega, by omega⟩
          have O3 : OwnP (W2.setCell ⟨v, 1, none⟩ (.slice p' (ns.length + 1) c')) (fun g => B ≤ g) 9 1 (.slice p' (ns.length + 1) c') (ns.length + 1) (stl ns ++ [.string (bs wd)]) := by rw [← HWD.out]; exact ⟨((Keeps.refl (fun i => i = v) W2).setCell (p := ⟨v, 1, none⟩) (fun _ => rfl) _).owns ho1 (fun g hg => (nd2 g hg).1), fun g hg => by
            rcases no2 g hg with q | q
            · exact V1.nm.2 g q
            · have a1 := low1 v (.inl rfl); omega⟩
          have FIN : Hid (SVT w B v me ms ns p c (W2.setCell ⟨v, 1, none⟩ (.slice p' (ns.length + 1) c')) wr (ns ++ [wd])) := by
            refine ⟨p', c', V1.go (S := fun i => i = v ∨ (Value.slice p ns.length c).ownBlock = some i) (Keeps.setCell (S := fun i => i = v ∨ (Value.slice p ns.length c).ownBlock = some i) (p := ⟨v, 1, none⟩) (kq.mono (fun i _ q => .inr q)) (fun _ => .inl rfl) _) (fun q => ?_) (fun q => ?_) (fun i hi q => ?_) C3 (by rw [elen]; have := O3; rw [show stl ns ++ [.string (bs wd)] = stl (ns ++ [wd]) by simp] at this; exact this) (fun q => q) ⟨[wd], rfl⟩ (by rw [elen]; exact nd2) (by rw [elen]; omega), fun g hg => ?_, ((Keeps.drew (Keeps.refl _ w)).trans (k1.mono (fun _ _ q => q.elim))).trans k3⟩
            · rcases q with q | q
              · exact absurd V1.cl (fun _ => by have a1 := V1.low me (.inr (.inl rfl)); exact V1.nvm q.symm)
              · exact (V1.nd me q).2.1 rfl
            · rcases q with q | q
              · exact V1.nvs q.symm
              · exact (V1.nd ms q).2.2 rfl
            · rcases q with q | q
              · have := V1.bv; omega
              · have := V1.nm.2 i q; omega
            · rw [elen] at hg
              rcases no2 g hg with q | q
              · exact .inl q
              · exact .inr (by have zz : w.heap.size ≤ w1.heap.size := z1; omega)
          go_end0
          exact ⟨rfl, FIN.out⟩
        · refine wp_buildStr _ rfl _ rfl ?_
          refine ⟨trivial, fun _ => ?_⟩
          (try simp only [List.getElem_toArray]); (try simp only [List.getElem_cons_succ]); (try simp only [List.getElem_cons_zero]); (try simp only [Act.put]); (try simp only [List.setIfInBounds_toArray]); (repeat first | simp only [List.set_cons_succ] | simp only [List.set_cons_zero])
          refine wpAnyH_one 4 (by kernel_rfl) rfl rfl ?_
          refine wp_loadK 50 _ rfl ⟨v, 1, none⟩ rfl _ (run_load_ss (((Keeps.refl (fun _ => False) w1).alloc _).cell y1 (fun e => e))) ?_
          refine ⟨trivial, fun _ => ?_⟩
          (try simp only [List.getElem_toArray]); (try simp only [List.getElem_cons_succ]); (try simp only [List.getElem_cons_zero]); (try simp only [Act.put]); (try simp only [List.setIfInBounds_toArray]); (repeat first | simp only [List.set_cons_succ] | simp only [List.set_cons_zero])
          refine wpAnyH_one 8 (by kernel_rfl) rfl rfl ?_
          refine wp_append_t _ _ 50 rfl _ _ _ W2 rfl rfl hr1 ?_
          refine ⟨trivial, fun _ => ?_⟩
          (try simp only [List.getElem_toArray]); (try simp only [List.getElem_cons_succ]); (try simp only [List.getElem_cons_zero]); (try simp only [Act.put]); (try simp only [List.setIfInBounds_toArray]); (repeat first | simp only [List.set_cons_succ] | simp only [List.set_cons_zero])
          refine wpAnyH_take (i := 9) (v := ?_) rfl (by kernel_rfl) (by kernel_rfl) (by kernel_rfl) (fun _ _ _ h => h) (Or.inl ⟨by rfl, ?_⟩) (by assumption) ?_
          rotate_left
          · intro wx hSw; clear hSw; go_simp <;> with_reducible rfl
          (try simp only [List.getElem_toArray]); (try simp only [List.getElem_cons_succ]); (try simp only [List.getElem_cons_zero]); (try simp only [Act.put]); (try simp only [List.setIfInBounds_toArray]); (repeat first | simp only [List.set_cons_succ] | simp only [List.set_cons_zero])
          refine wpAnyH_take (i := 10) (v := ?_) rfl (by kernel_rfl) (by kernel_rfl) (by kernel_rfl) (fun _ _ _ h => h) (Or.inl ⟨by rfl, ?_⟩) (by assumption) ?_
          rotate_left
          · intro wx hSw; clear hSw; go_simp <;> with_reducible rfl
          (try simp only [List.getElem_toArray]); (try simp only [List.getElem_cons_succ]); (try simp only [List.getElem_cons_zero]); (try simp only [Act.put]); (try simp only [List.setIfInBounds_toArray]); (repeat first | simp only [List.set_cons_succ] | simp only [List.set_cons_zero])
          have nv : ¬ (Value.slice p ns.length c).ownBlock = some v := fun e => (V1.nd v e).1 rfl
          have C2 := V1.cl.keep (by show 0 < 4; decide) kq nv
          refine wpAnyH_one 11 (by kernel_rfl) rfl rfl ?_
          refine wp_storeK 50 _ _ rfl ⟨v, 1, none⟩ rfl _ rfl (run_store_ss (by rw [C2.c 1 _ rfl]; rfl) (C2.z 1 (by show 1 < 4; decide)) _ _ _) ?_
          refine ⟨trivial, fun _ => ?_⟩
          (try simp only [List.getElem_toArray]); (try simp only [List.getElem_cons_succ]); (try simp only [List.getElem_cons_zero]); (try simp only [Act.put]); (try simp only [List.setIfInBounds_toArray]); (repeat first | simp only [List.set_cons_succ] | simp only [List.set_cons_zero])
          refine wpAnyH_done (by kernel_rfl) ?_ _
          have elen : (ns ++ [wd]).length = ns.length + 1 := by simp
          have C3 : CL (W2.setCell ⟨v, 1, none⟩ (.slice p' (ns.length + 1) c')) v [.bool wr, .slice p' (ns ++ [wd]).length c', .map (some me), .map (some ms)] := by rw [elen]; exact C2.set (o := 1) (by show 1 < 4; decide) _
          have k3 : Keeps (svS v me ms (Value.slice p ns.length c).ownBlock) w1 (W2.setCell ⟨v, 1, none⟩ (.slice p' (ns.length + 1) c')) := Keeps.setCell (S := svS v me ms (Value.slice p ns.length c).ownBlock) (p := ⟨v, 1, none⟩) (kq.mono (fun i _ q => .inr (.inr (.inr q)))) (fun _ => .inl rfl) _
          have z1 := k1.size
          have low1 := V1.low
          have no2 : ∀ g, (Value.slice p' (ns.length + 1) c').ownBlock = some g → (Value.slice p ns.length c).ownBlock = some g ∨ w1.heap.size < g := fun g hg => by
            rcases hbl with q | q
            · rw [q] at hg; exact .inl hg
            · rw [q] at hg; cases hg; exact .inr (by omega)
          have nd2 : ∀ g, (Value.slice p' (ns.length + 1) c').ownBlock = some g → g ≠ v ∧ g ≠ me ∧ g ≠ ms := fun g hg => by
            rcases no2 g hg with q | q
            · exact V1.nd g q
            · have a1 := (low1 v (.inl rfl)).2; have a2 := (low1 me (.inr (.inl rfl))).2; have a3 := (low1 ms (.inr (.inr (.inl rfl)))).2
              exact ⟨by omega, by omega, by omega⟩
          have O3 : OwnP (W2.setCell ⟨v, 1, none⟩ (.slice p' (ns.length + 1) c')) (fun g => B ≤ g) 9 1 (.slice p' (ns.length + 1) c') (ns.length + 1) (stl ns ++ [.string (bs wd)]) := by rw [← HWD.out]; exact ⟨((Keeps.refl (fun i => i = v) W2).setCell (p := ⟨v, 1, none⟩) (fun _ => rfl) _).owns ho1 (fun g hg => (nd2 g hg).1), fun g hg => by
            rcases no2 g hg with q | q
            · exact V1.nm.2 g q
            · have a1 := low1 v (.inl rfl); omega⟩
          have FIN : Hid (SVT w B v me ms ns p c (W2.setCell ⟨v, 1, none⟩ (.slice p' (ns.length + 1) c')) wr (ns ++ [wd])) := by
            refine ⟨p', c', V1.go (S := fun i => i = v ∨ (Value.slice p ns.length c).ownBlock = some i) (Keeps.setCell (S := fun i => i = v ∨ (Value.slice p ns.length c).ownBlock = some i) (p := ⟨v, 1, none⟩) (kq.mono (fun i _ q => .inr q)) (fun _ => .inl rfl) _) (fun q => ?_) (fun q => ?_) (fun i hi q => ?_) C3 (by rw [elen]; have := O3; rw [show stl ns ++ [.string (bs wd)] = stl (ns ++ [wd]) by simp] at this; exact this) (fun q => q) ⟨[wd], rfl⟩ (by rw [elen]; exact nd2) (by rw [elen]; omega), fun g hg => ?_, ((Keeps.drew (Keeps.refl _ w)).trans (k1.mono (fun _ _ q => q.elim))).trans k3⟩
            · rcases q with q | q
              · exact absurd V1.cl (fun _ => by have a1 := V1.low me (.inr (.inl rfl)); exact V1.nvm q.symm)
              · exact (V1.nd me q).2.1 rfl
            · rcases q with q | q
              · exact V1.nvs q.symm
              · exact (V1.nd ms q).2.2 rfl
            · rcases q with q | q
              · have := V1.bv; omega
              · have := V1.nm.2 i q; omega
            · rw [elen] at hg
              rcases no2 g hg with q | q
              · exact .inl q
              · exact .inr (by have zz : w.heap.size ≤ w1.heap.size := z1; omega)
          go_end0
          exact ⟨rfl, FIN.out⟩
    · rw [hc] at hC
      have HN : Hid (nmAdd ns wd = ns) := by show _ = _; unfold nmAdd; rw [if_neg (fun q => by rw [hc] at q; cases q.2)]
      rw [HN.out]
      clear hc HN hCl
      generalize bs wd = WD at *
      go_enter Tryd.func53, Tryd.ntmps53
      go_wp2_with (go_at_call 61; refine hC.mono ?_; rintro e w' ⟨rfl, rfl⟩)
      go_end0
      exact ⟨rfl, SVT.refl V⟩
  · have d1 : decide ((ns.length : Int) ≤ 8) = false := decide_eq_false (by omega)
    have d2 : decide (ns.length ≤ 8) = false := decide_eq_false h8
    have HN : Hid (nmAdd ns wd = ns) := by show _ = _; unfold nmAdd; rw [if_neg (fun q => h8 q.1)]
    rw [HN.out]
    clear HN hCl
    generalize bs wd = WD at *
    go_enter Tryd.func53, Tryd.ntmps53
    go_wp2_with fail
    go_end0
    exact ⟨rfl, SVT.refl V⟩
end Go.Proofs.YtehblpbefkopbaaDoor
