import Derived.Test.YtdeiochjkbogpaaLocGW
import Derived.Deep.AppendSrc
import Derived.Maps.AppendAt
namespace Go.Proofs.Ytdeiochjkbogpaa
open Go.RowKit
theorem step_append_run {P : Program} {ops : Array Oper} {o : Oper} {a : Act} {w : World} {K : Act → World → Prop} {Q : Exit → Act → World → Prop} {E : Prop} (hgd : o.guard = none) (s x : Operand) (t : TypeId)
    (ho : o.op = .call { callee := .builtin .append, args := #[s, x], argTypes := #[t, t] }) (v src v' : Value) (w' : World) (hs : a.eval s = v) (hx : a.eval x = src)
    (hr : (Builtin.append_ #[t, t] o.type #[v, src]).run P w = .ok v' w') (h : K (a.put o.dst v') w') : if Region.wanted o (yielded ops a.tmps) = true then Oper.wp P o a w K Q else E := by
  have hw : Region.wanted o (yielded ops a.tmps) = true := by simp [Region.wanted, hgd]
  rw [if_pos hw]
  unfold Oper.wp execOp
  simp only [ho, resolve, invoke, builtin, Sem.run_bind, Sem.run_pure, Result.andThen_ok, List.map_toArray, List.map_cons, List.map_nil, hs, hx, hr]
  exact h
theorem one_vc3 (L : List Vl) : ∀ u ∈ fl vc3 L, u.oneCell' = true := fun u hu => by
  obtain ⟨x, _, hx⟩ := List.mem_flatMap.1 hu
  simp [vc3] at hx
  rcases hx with rfl | rfl | rfl <;> rfl
/-- A copy of a list of values. -/
theorem cpv_run {W0 W : World} (k : Keeps (fun _ => False) W0 W) {g0 : Nat} (hg : W.heap[g0]? = some (.cells #[] 52 (0, 0))) (hg0 : W0.heap.size ≤ g0) {base n : Nat} {v : Value} {L : List Vl} (own : W0.ownsRow base 52 3 v n (fl vc3 L)) (hn : n ≤ 1000) :
    ∃ v' W', (Builtin.append_ #[27, 27] 27 #[.slice (some ⟨g0, 0, none⟩) 0 0, v]).run Try.prog W = .ok v' W' ∧ W'.ownsRow W0.heap.size 52 3 v' n (fl vc3 L) ∧ Keeps (fun _ => False) W0 W' := by
  obtain ⟨i0, hi0, hz0, hz1, hz2⟩ := info_parts infoV'
  have o0 : W.ownsRow W0.heap.size 52 3 (.slice (some ⟨g0, 0, none⟩) 0 0) 0 [] := ⟨rfl, .inr ⟨g0, 0, #[], rfl, hg0, hg, Nat.le_refl _, by unfold maxLen; omega, rfl, rfl⟩⟩
  rcases own.2 with ⟨rfl, h0⟩ | ⟨g, cap, cur, rfl, hb, hgg, rest⟩
  · have hr := run_append_owned_none (P := Try.prog) (w := W) W0.heap.size 27 27 52 i0 3 underV hi0 _ 0 [] o0
    have hlen := own.1
    have hL : fl vc3 L = [] := by
      apply List.eq_nil_of_length_eq_zero
      rw [hlen, h0]
    rw [hL, h0]
    exact ⟨_, W, hr, o0, k⟩
  · have ow := k.owns own (fun _ _ e => e)
    obtain ⟨v', w', hr, ho, hgr, _, _⟩ := run_append_own_at (P := Try.prog) (w := W) W0.heap.size 27 27 52 i0 _ 3 24 underV hi0 hz0 hz1 hz2 rfl (by decide) _ 0 [] o0 ⟨g, 0, none⟩ n cap (fl vc3 L) own.1 (fun j u e => ow.cells rfl j u e) (one_vc3 L) (by unfold maxLen; omega) (by omega) k.size
    rw [Nat.zero_add, List.nil_append] at ho
    exact ⟨v', w', hr, ho, k.trans' ((Keeps.refl _ W).grown hgr (S := fun i => i = g0) (fun i _ e => by simp [Value.ownBlock] at e; exact e.symm)) (fun _ _ e => e) (fun i hi e => by omega)⟩
theorem underS : Try.prog.underlying 38 = some (.slice 27) := by kernel_rfl
theorem infoS : (Try.prog.info? 27).map (fun i => (i.zero, i.size, i.bytes)) = some (some (.slice none 0 0), 1, 24) := by kernel_rfl
theorem owns_base {W : World} {b e z n : Nat} {v : Value} {xs : List Value} (h : W.ownsRow b e z v n xs) : W.ownsRow 0 e z v n xs :=
  ⟨h.1, h.2.imp id (fun ⟨g, cap, cur, e, _, r⟩ => ⟨g, cap, cur, e, Nat.zero_le _, r⟩)⟩
theorem owns_uniq {W : World} {b e n : Nat} {v : Value} {xs ys : List Value} (h : W.ownsRow b e 1 v n xs) (h' : W.ownsRow b e 1 v n ys) : xs = ys := by
  have l1 := h.1
  have l2 := h'.1
  apply List.ext_getElem?
  intro i
  rcases Nat.lt_or_ge i (n * 1) with q | q
  · obtain ⟨a, cap, ev, hg⟩ := owns_slice h
    obtain ⟨g, _, eb⟩ := hg (by omega)
    have e1 := own_cellq h eb i _ (List.getElem?_eq_getElem (by omega))
    have e2 := own_cellq h' eb i _ (List.getElem?_eq_getElem (by omega))
    rw [List.getElem?_eq_getElem (show i < xs.length by omega), List.getElem?_eq_getElem (show i < ys.length by omega)]
    exact e1.symm.trans e2
  · rw [List.getElem?_eq_none (by omega), List.getElem?_eq_none (by omega)]
section
variable {Wb W W0 w4 : World} {Q : Nat → Prop} {fb rb wb mb n k gg cap : Nat} {s : Ws} {m : Mm} {c : Nat → Cl} {want : List Vl} {was : List (List Vl)} {mk : Int} {v u : Value} {ws : List Value}
/-- What was, as it lies. -/
theorem GX.own38 (h : GX Wb Q fb rb wb mb s m n c want was mk W) : ∃ a cp ws, W.cell? ⟨fb, 38, none⟩ = some (.slice a was.length cp) ∧ W.ownsRow 0 27 1 (.slice a was.length cp) was.length ws ∧ (∀ g, (Value.slice a was.length cp).ownBlock = some g → g ≠ fb ∧ ¬ Q g) := by
  obtain ⟨ρ, fv, ws, R, F, q, kk, z⟩ := h
  obtain ⟨a, cp, e, _⟩ := owns_slice F.so
  refine ⟨a, cp, ws, by rw [← e]; exact F.ff.cs _ (by omega), by rw [← e]; exact F.so, fun g hg => ?_⟩
  have h1 := F.sr g (by rw [e]; exact hg)
  refine ⟨fun e' => ?_, fun e' => ?_⟩
  · rw [e', F.ff.rf] at h1; omega
  · have := (q g e').2.2; omega
/-- What is wanted is put behind what was. -/
theorem GX.app38 (h : GX Wb Q fb rb wb mb s m n c want was mk W) (K0 : Keeps (fun _ => False) W W0) (hv : W.cell? ⟨fb, 38, none⟩ = some v) (hws : W.ownsRow 0 27 1 v was.length ws) (hg : W0.grownBy w4 v.ownBlock) (hu : W0.ownsRow W.heap.size 52 3 u want.length (Go.Proofs.Ytdeiochjkbogpaa.fl vc3 want))
    (own : w4.ownsRow 0 27 1 (.slice (some ⟨gg, 0, none⟩) (was.length + 1) cap) (was.length + 1) (ws ++ [u])) (hat : v.ownBlock = some gg ∨ W0.heap.size ≤ gg) :
    GX Wb Q fb rb wb mb s m n c want (was ++ [want]) mk (w4.setCell ⟨fb, 38, none⟩ (.slice (some ⟨gg, 0, none⟩) (was.length + 1) cap)) := by
  have hw := h.cells.2.2.2.2.1
  obtain ⟨ρ, fv, ws', R, F, q, kk, z⟩ := h
  obtain rfl : v = fv 38 := Option.some.inj (hv.symm.trans (F.ff.cs _ (by omega)))
  obtain rfl : ws = ws' := owns_uniq hws F.so
  have s0 := K0.size
  have lg := owns_lt' own gg rfl
  have s4 : W0.heap.size ≤ w4.heap.size := ((Keeps.refl (fun i => (fv 38).ownBlock = some i) W0).grown hg (fun _ _ e => e)).size
  have x1 : Ext (fun r => r = 19) W W0 ρ (ro ρ W W0 (fun i => u.ownBlock = some i) 19) := ro_ext (K0.mono (fun _ _ e => e.elim)) rfl
  have K2 : Keeps (fun i => (fv 38).ownBlock = some i) W0 w4 := (Keeps.refl (fun i => (fv 38).ownBlock = some i) W0).grown hg (fun _ _ e => e)
  have K1 : Keeps (fun i => (fv 38).ownBlock = some i) W w4 := K0.trans' K2 (fun _ _ e => e.elim) (fun _ _ e => e)
  have r38 : ∀ i, (fv 38).ownBlock = some i → ro ρ W W0 (fun i => u.ownBlock = some i) 19 i = 18 := fun i e => by rw [ro_old (owns_lt' F.so i e)]; exact F.sr i e
  have x2 : Ext (fun r => r = 18) W0 w4 (ro ρ W W0 (fun i => u.ownBlock = some i) 19) (ro (ro ρ W W0 (fun i => u.ownBlock = some i) 19) W0 w4 (fun i => i = gg) 18) := ro_ext (K2.mono (fun i _ e => r38 i e)) rfl
  have x := (x1.mono (T := fun r => r = 18 ∨ r = 19) (fun _ e => .inr e)).trans (x2.mono (T := fun r => r = 18 ∨ r = 19) (fun _ e => .inl e))
  have hg' : ∀ g, (Value.slice (some ⟨gg, 0, none⟩) (was.length + 1) cap).ownBlock = some g → ro (ro ρ W W0 (fun i => u.ownBlock = some i) 19) W0 w4 (fun i => i = gg) 18 g = 18 := fun g e => by
    cases e
    rcases hat with e | e
    · rw [ro_old (Nat.lt_of_lt_of_le (owns_lt' F.so gg e) s0)]; exact r38 gg e
    · exact ro_new e rfl lg
  have hu4 : w4.ownsRow 0 52 3 u want.length (Go.Proofs.Ytdeiochjkbogpaa.fl vc3 want) := owns_base (K2.owns hu (fun g hg e => by
    have h1 := own_lo hu hg
    have h2 := owns_lt' F.so g e
    omega))
  have hur : ∀ g, u.ownBlock = some g → ro (ro ρ W W0 (fun i => u.ownBlock = some i) 19) W0 w4 (fun i => i = gg) 18 g = 19 := fun g hg => by
    have h1 := own_lo hu hg
    have h2 := owns_lt' hu g hg
    rw [ro_old h2]
    exact ro_new h1 hg h2
  have hs : ∀ (i : Nat) (l : List Vl) (v : Value), was[i]? = some l → ws[i]? = some v → w4.ownsRow 0 52 3 v l.length (Go.Proofs.Ytdeiochjkbogpaa.fl vc3 l) := fun i l v hl hv => K1.owns (F.si i l v hl hv) (fun g hg e => by
    have h1 := F.sj i v g hv hg
    have h2 := F.sr g e
    omega)
  have R1 := R.beside (x.mono (fun _ e => by omega)) (ro_bnd s4)
  obtain ⟨R2, x3⟩ := floor_set (o := 38) R1 (F.ff.ext x (by omega)) (.slice (some ⟨gg, 0, none⟩) (was.length + 1) cap)
  refine ⟨_, _, _, R2, F.re38 x own hg' hs hu4 hur, fun i hi => ⟨Nat.lt_of_lt_of_le (q i hi).1 (Nat.le_trans K1.size x3.keeps.size), (q i hi).2.1, (x.old i (q i hi).1).trans (q i hi).2.2⟩, ?_, fun i hi => (x.old i (Nat.lt_of_lt_of_le hi kk.size)).trans (z i hi)⟩
  refine (kk.trans' K1 (fun _ _ e => e) (fun i hi e => ?_)).trans' (keeps_set w4 fb 38 _) (fun _ _ e => e) (fun i hi e => by omega)
  have h1 := F.sr i e
  have h2 := z i hi
  omega
/-- What has committed. -/
theorem GX.com (h : GX Wb Q fb rb wb mb s m n c want was mk W) :
    Calls Try.prog 6 #[.pointer (some ⟨wb, 0, none⟩)] W fun e w' => e = .returned (.slice (some ⟨W.heap.size, 0, none⟩) s.objs.length s.objs.length) ∧
      w'.ownsRow W.heap.size 52 3 (.slice (some ⟨W.heap.size, 0, none⟩) s.objs.length s.objs.length) s.objs.length (Go.Proofs.Ytdeiochjkbogpaa.fl vc3 (s.com m)) ∧ Keeps (fun _ => False) W w' := by
  obtain ⟨ρ, fv, ws, R, F, q, kk, z⟩ := h
  exact com_any R.st R.iv.wf
/-- The floor as it is laid. -/
def fnil (rb : Nat) (wv : Value) : Nat → Value := fun o => if o = 0 then .pointer (some ⟨rb, 0, none⟩) else if o = 37 then wv else if o = 38 then .slice none 0 0 else if o = 40 then .bool false else if 1 ≤ o ∧ o < 37 ∧ ((o - 1) % 9 = 7 ∨ (o - 1) % 9 = 8) then .slice none 0 0 else .int .i64 0
def cl0 : Cl := ⟨0, 0, 0, 0, 0, 0, 0, [], []⟩
theorem GX.init {ρ : Nat → Nat} {W1 : World} (R : Rs W ρ 1 2 7 rb wb mb s m n) (kk : Keeps (fun _ => False) Wb W) (z : ∀ k, k < Wb.heap.size → ρ k = 0) {wv : Value} (K : Keeps (fun _ => False) W W0) (ow : W0.ownsRow W.heap.size 52 3 wv want.length (Go.Proofs.Ytdeiochjkbogpaa.fl vc3 want)) (K1 : Keeps (fun _ => False) W0 W1) (hsz : W0.heap.size < W1.heap.size)
    (hc : ∀ o, o < 41 → W1.cell? ⟨W0.heap.size, o, none⟩ = some (fnil rb wv o)) (hf : ∀ o, W1.frozen? ⟨W0.heap.size, o, none⟩ = false) : GX Wb (fun _ => False) W0.heap.size rb wb mb s m n (fun _ => cl0) want [] 0 W1 := by
  have s0 := K.size
  have x1 : Ext (fun r => r = 17) W W0 ρ (ro ρ W W0 (fun i => wv.ownBlock = some i) 17) := ro_ext (K.mono (fun _ _ e => e.elim)) rfl
  have x2 : Ext (fun r => r = 8) W0 W1 (ro ρ W W0 (fun i => wv.ownBlock = some i) 17) (ro (ro ρ W W0 (fun i => wv.ownBlock = some i) 17) W0 W1 (fun i => i = W0.heap.size) 8) := ro_ext (K1.mono (fun _ _ e => e.elim)) rfl
  have x := (x1.mono (T := fun r => 8 ≤ r) (fun _ e => by omega)).trans (x2.mono (T := fun r => 8 ≤ r) (fun _ e => by omega))
  refine ⟨_, fnil rb wv, [], R.beside x (ro_bnd K1.size), ⟨⟨hc, hf, ro_new (Nat.le_refl _) rfl hsz⟩, rfl, ?_, ?_, ?_, ?_, ?_, ?_, ?_, ?_, ?_, ?_, ?_, ?_, ?_, ?_, ?_, ?_, ?_, rfl, rfl⟩, fun _ e => e.elim, (kk.trans K).trans K1, fun i hi => (x.old i (Nat.lt_of_lt_of_le hi kk.size)).trans (z i hi)⟩
  · intro k hk; match k, hk with | 0, _ => rfl | 1, _ => rfl | 2, _ => rfl | 3, _ => rfl
  · intro k hk; match k, hk with | 0, _ => rfl | 1, _ => rfl | 2, _ => rfl | 3, _ => rfl
  · intro k hk; match k, hk with | 0, _ => rfl | 1, _ => rfl | 2, _ => rfl | 3, _ => rfl
  · intro k hk; match k, hk with | 0, _ => rfl | 1, _ => rfl | 2, _ => rfl | 3, _ => rfl
  · intro k hk; match k, hk with | 0, _ => rfl | 1, _ => rfl | 2, _ => rfl | 3, _ => rfl
  · intro k hk; match k, hk with | 0, _ => rfl | 1, _ => rfl | 2, _ => rfl | 3, _ => rfl
  · intro k hk; match k, hk with | 0, _ => rfl | 1, _ => rfl | 2, _ => rfl | 3, _ => rfl
  · intro k hk
    have e : fnil rb wv (1 + k * 9 + 7) = .slice none 0 0 := by match k, hk with | 0, _ => rfl | 1, _ => rfl | 2, _ => rfl | 3, _ => rfl
    rw [e]; exact World.ownsRow_nil _ _ _ _
  · intro k g hk hg
    have e : fnil rb wv (1 + k * 9 + 7) = .slice none 0 0 := by match k, hk with | 0, _ => rfl | 1, _ => rfl | 2, _ => rfl | 3, _ => rfl
    rw [e] at hg; cases hg
  · intro k hk
    have e : fnil rb wv (1 + k * 9 + 8) = .slice none 0 0 := by match k, hk with | 0, _ => rfl | 1, _ => rfl | 2, _ => rfl | 3, _ => rfl
    rw [e]; exact World.ownsRow_nil _ _ _ _
  · intro k g hk hg
    have e : fnil rb wv (1 + k * 9 + 8) = .slice none 0 0 := by match k, hk with | 0, _ => rfl | 1, _ => rfl | 2, _ => rfl | 3, _ => rfl
    rw [e] at hg; cases hg
  · exact owns_base (K1.owns ow (fun _ _ e => e))
  · intro g hg
    have hg : wv.ownBlock = some g := hg
    have h1 := own_lo ow hg
    have h2 := owns_lt' ow g hg
    rw [ro_old h2]
    exact ro_new h1 hg h2
  · exact World.ownsRow_nil _ _ _ _
  · intro g hg; cases hg
  · intro i l v hl; simp at hl
  · intro i v g hv; simp at hv
end
/-- Where a step ends. -/
structure Sp (Wb : World) (fb rb wb mb N t : Nat) (was : List (List Vl)) (w' : World) : Prop where
  ex : ∃ s m n c want mk, GX Wb (fun _ => False) fb rb wb mb s m n c want was mk w' ∧ Fl s m c (was ++ [want]) 4 ∧ want = s.com m ∧ Bg s m n mk t ∧ s.objs.length = N ∧ ∀ k, k < 4 → (c k).at_ ≤ 4
/-- What steps keeps to. -/
def StepsOk : Prop := ∀ {Wb W : World} {fb rb wb mb n k N t : Nat} {s : Ws} {m : Mm} {c : Nat → Cl} {want : List Vl} {was : List (List Vl)} {mk : Int}, GX Wb (fun _ => False) fb rb wb mb s m n c want was mk W → Fl s m c was 4 → want = s.com m → Bg s m n mk t → s.objs.length = N → 1 ≤ N → t < 12000 → was.length ≤ 1000000 → (∀ i, i < was.length → (was.getD i []).length = N) → (∀ k, k < 4 → (c k).at_ ≤ 4) → k < 4 → ∀ {cl act ob : Int},
    Calls Try.prog 8 #[.pointer (some ⟨fb, 0, none⟩), .int .i64 (k : Int), .agg #[.int .i64 cl, .int .i64 act, .int .i64 ob]] W fun e w' => e = .returned (.bool true) ∧ Sp Wb fb rb wb mb N (t + 1) was w'
/-- Between two steps. -/
structure Lp (Wb : World) (fb rb wb mb N t : Nat) (W : World) : Prop where
  ex : ∃ s m n c want was mk, GX Wb (fun _ => False) fb rb wb mb s m n c want was mk W ∧ Fl s m c was 4 ∧ want = s.com m ∧ Bg s m n mk t ∧ s.objs.length = N ∧ was.length = t + 1 ∧ (∀ i, i < was.length → (was.getD i []).length = N) ∧ ∀ k, k < 4 → (c k).at_ ≤ 4
/-- While the attempts begin. -/
structure Ap4 (Wb : World) (fb rb wb mb N j : Nat) (want : List Vl) (W : World) : Prop where
  ex : ∃ s m c, GX Wb (fun _ => False) fb rb wb mb s m 0 c want [want] 0 W ∧ Fb s m j ∧ (∀ k, k < 4 → (c k).at_ = 0 ∧ (c k).held = [] ∧ (c k).put = []) ∧ (∀ k, k < j → (c k).att = k + 1) ∧ want = s.com m ∧ s.objs.length = N ∧ s.locs.length ≤ 80 ∧ m.cells.length ≤ 100 + 2 * j
theorem fb_start {c : Nat} (iv : Inv (nw (fv c) 0 c) (nm Mm.new c)) : Fb (nw (fv c) 0 c) (nm Mm.new c) 0 := by
  refine ⟨iv, rfl, fun a h1 h2 => by omega, fun o ho => ?_⟩
  have ho : o < c := by simpa [nw] using ho
  have e : (nw (fv c) 0 c).at_ (nm Mm.new c) o = o := at_of (by
    rw [nw_ob (fv c) 0 ho]
    exact nm_val Mm.new ho)
  rw [e, nw_lo (fv c) 0 ho]
theorem Ap4.start {Wb W : World} {fb rb wb mb N : Nat} {want : List Vl} (h : Ap4 Wb fb rb wb mb N 4 want W) : Lp Wb fb rb wb mb N 0 W := by
  obtain ⟨s, m, c, G, F, h1, h2, hw, hN, hl, hc⟩ := h
  refine ⟨s, m, 0, c, want, [want], 0, G, by rw [hw]; exact Fl.start F (fun k hk => ⟨(h1 k hk).1, h2 k hk, (h1 k hk).2.1, (h1 k hk).2.2⟩), hw, ⟨by rw [F.al]; omega, by omega, by omega, by omega, by omega, by omega⟩, hN, rfl, fun i hi => ?_, fun k hk => by rw [(h1 k hk).1]; omega⟩
  have : i = 0 := by simp at hi; omega
  subst this
  show want.length = N
  rw [hw, com_len]
  exact hN
theorem Ap4.more {Wb W' : World} {fb rb wb mb N j : Nat} {want : List Vl} {s : Ws} {m : Mm} {c : Nat → Cl} (hj : j < 4) (F : Fb s m j) (h1 : ∀ k, k < 4 → (c k).at_ = 0 ∧ (c k).held = [] ∧ (c k).put = []) (h2 : ∀ k, k < j → (c k).att = k + 1) (hw : want = s.com m) (hN : s.objs.length = N) (hl : s.locs.length ≤ 80) (hc : m.cells.length ≤ 100 + 2 * j)
    (G : GX Wb (fun _ => False) fb rb wb mb (s.beg (j : Int) (j : Int) (-1) m.cells.length) ((m.make 1).make 0) 0 (upd c j { c j with at_ := 0, att := s.atts.length, held := [], put := [] }) want [want] 0 W') : Ap4 Wb fb rb wb mb N (j + 1) want W' := by
  obtain ⟨F', e⟩ := F.beg hj (j : Int) (j : Int) (-1)
  refine ⟨_, _, _, G, F', fun k hk => ?_, fun k hk => ?_, hw.trans e.symm, hN, hl, by rw [Mm.len_make, Mm.len_make]; omega⟩
  · by_cases q : k = j
    · rw [q, upd_self]; exact ⟨rfl, rfl, rfl⟩
    · rw [upd_other q]; exact h1 k hk
  · by_cases q : k = j
    · rw [q, upd_self, F.al]
    · rw [upd_other q]; exact h2 k (by omega)
theorem Sp.next {Wb W' : World} {fb rb wb mb N t : Nat} {was : List (List Vl)} {s : Ws} {m : Mm} {n : Nat} {c : Nat → Cl} {want : List Vl} {mk : Int} (hwas : was.length = t + 1) (hwl : ∀ i, i < was.length → (was.getD i []).length = N) (F : Fl s m c (was ++ [want]) 4) (hw : want = s.com m) (hB : Bg s m n mk (t + 1)) (hN : s.objs.length = N) (h4 : ∀ k, k < 4 → (c k).at_ ≤ 4) (G : GX Wb (fun _ => False) fb rb wb mb s m n c want (was ++ [want]) mk W') : Lp Wb fb rb wb mb N (t + 1) W' := by
  refine ⟨s, m, n, c, want, was ++ [want], mk, G, F, hw, hB, hN, by simp [hwas], fun i hi => ?_, h4⟩
  by_cases q : i < was.length
  · have e : (was ++ [want]).getD i [] = was.getD i [] := by simp [List.getD_eq_getElem?_getD, List.getElem?_append_left q]
    rw [e]; exact hwl i q
  · have q' : i = was.length := by simp at hi; omega
    have e : (was ++ [want]).getD i [] = want := by rw [q']; simp [List.getD_eq_getElem?_getD]
    rw [e, hw, com_len]; exact hN
end Go.Proofs.Ytdeiochjkbogpaa
