import Derived.Test.YtdldhblhbbgloaaLocAS
import Derived.Deep.AppendSrc
import Derived.Maps.AppendAt
namespace Go.Proofs.Ytdldhblhbbgloaa
open Go.RowKit
theorem wpList_append_run {P : Program} {w : World} {ops : Array Oper} {rest : List Oper} {o : Oper} {a : Act} {Q : Exit → Act → World → Prop} (hgd : o.guard = none) (s x : Operand) (t : TypeId)
    (ho : o.op = .call { callee := .builtin .append, args := #[s, x], argTypes := #[t, t] }) (v src v' : Value) (w' : World) (hs : a.eval s = v) (hx : a.eval x = src)
    (hr : (Builtin.append_ #[t, t] o.type #[v, src]).run P w = .ok v' w') (h : wpList P ops Q rest (a.put o.dst v') w') : wpList P ops Q (o :: rest) a w :=
  wpList_plain hgd fun K hK => by
    unfold Oper.wp execOp
    simp only [ho, resolve, invoke, builtin, Sem.run_bind, Sem.run_pure, Result.andThen_ok, List.map_toArray, List.map_cons, List.map_nil, hs, hx, hr]
    exact hK _ _ h

theorem one_vc3 (L : List Vl) : ∀ u ∈ fl vc3 L, u.oneCell' = true := fun u hu => by
  obtain ⟨x, _, hx⟩ := List.mem_flatMap.1 hu
  simp [vc3] at hx
  rcases hx with rfl | rfl | rfl <;> rfl
theorem cpv_run {W0 W : World} (k : Keeps (fun _ => False) W0 W) {g0 : Nat} (hg : W.heap[g0]? = some (.cells #[] 28 (0, 0))) (hg0 : W0.heap.size ≤ g0) {base n : Nat} {v : Value} {L : List Vl} (own : W0.ownsRow base 28 3 v n (fl vc3 L)) (hn : n ≤ 1000) :
    ∃ v' W', (Builtin.append_ #[35, 35] 35 #[.slice (some ⟨g0, 0, none⟩) 0 0, v]).run Try.prog W = .ok v' W' ∧ W'.ownsRow W0.heap.size 28 3 v' n (fl vc3 L) ∧ Keeps (fun _ => False) W0 W' := by
  obtain ⟨i0, hi0, hz0, hz1, hz2⟩ := info_parts infoV'
  have o0 : W.ownsRow W0.heap.size 28 3 (.slice (some ⟨g0, 0, none⟩) 0 0) 0 [] := ⟨rfl, .inr ⟨g0, 0, #[], rfl, hg0, hg, Nat.le_refl _, by unfold maxLen; omega, rfl, rfl⟩⟩
  rcases own.2 with ⟨rfl, h0⟩ | ⟨g, cap, cur, rfl, hb, hgg, rest⟩
  · have hr := run_append_owned_none (P := Try.prog) (w := W) W0.heap.size 35 35 28 i0 3 underV hi0 _ 0 [] o0
    have hlen := own.1
    have hL : fl vc3 L = [] := by
      apply List.eq_nil_of_length_eq_zero
      rw [hlen, h0]
    rw [hL, h0]
    exact ⟨_, W, hr, o0, k⟩
  · have ow := k.owns own (fun _ _ e => e)
    obtain ⟨v', w', hr, ho, hgr, _, _⟩ := run_append_own_at (P := Try.prog) (w := W) W0.heap.size 35 35 28 i0 _ 3 24 underV hi0 hz0 hz1 hz2 rfl (by decide) _ 0 [] o0 ⟨g, 0, none⟩ n cap (fl vc3 L) own.1 (fun j u e => ow.cells rfl j u e) (one_vc3 L) (by unfold maxLen; omega) (by omega) k.size
    rw [Nat.zero_add, List.nil_append] at ho
    exact ⟨v', w', hr, ho, k.trans' ((Keeps.refl _ W).grown hgr (S := fun i => i = g0) (fun i _ e => by simp [Value.ownBlock] at e; exact e.symm)) (fun _ _ e => e) (fun i hi e => by omega)⟩

theorem stv1 {W : World} {base e g n cap : Nat} {L : List Vl} {i : Nat} (own : W.ownsRow base e 3 (.slice (some ⟨g, 0, none⟩) n cap) n (fl vc3 L)) (hi : i < L.length) (x : Int) :
    (W.setCell ⟨g, i * 3, none⟩ (.int .i64 x)).ownsRow base e 3 (.slice (some ⟨g, 0, none⟩) n cap) n (fl vc3 (L.set i ⟨x, (L.getD i vl0).next, (L.getD i vl0).dead⟩)) := by
  have e1 := fl_set vc3_len L i 0 (L.getD i vl0) ⟨x, (L.getD i vl0).next, (L.getD i vl0).dead⟩ (.int .i64 x) (getD_get hi) (by omega) rfl
  have h1 := (own.stored (i * 3) (.int .i64 x)).1
  rw [show i * 3 = i * 3 + 0 from rfl, ← e1] at h1
  exact h1
theorem VA.keepB {w w' : World} {a : Option Addr} {vs : List Vl} {B : Nat} (h : VA w a vs) (k : Keeps (fun x => x = B) w w') (hn : ∀ g o, a = some ⟨g, o, none⟩ → g ≠ B) : VA w' a vs := by
  rcases h with h | ⟨b, off, rfl, h⟩
  · exact .inl h
  · have n : ¬ b = B := hn b off rfl
    exact .inr ⟨b, off, rfl, fun i v hi => ⟨k.cell (h i v hi).1 n, k.cell (h i v hi).2.1 n, k.cell (h i v hi).2.2 n⟩⟩
theorem com_len {s : Ws} {m : Mm} : (s.com m).length = s.objs.length := by simp [Ws.com]
def cl (n : Int) : Nat := if n < 1 then 1 else if 80 < n then 80 else n.toNat
theorem cl_ok (n : Int) : 1 ≤ cl n ∧ cl n ≤ 80 := by unfold cl; split; omega; split <;> omega
theorem fresh_at {w : World} {ρ : Nat → Nat} {u j q : Nat} (hb : Bnd w ρ) (hu : u ≠ 0) (hj : j ≠ 0) (hq : q ≠ 0) (hap : ¬ (j ≤ u ∧ u < j + 5)) (hqs : ¬ Sr u j q) (n : Int) :
    Calls Try.prog 10 #[.int .i64 n] w fun e w' => ∃ rb wb mb ρ', e = .returned (.pointer (some ⟨rb, 0, none⟩)) ∧ Rs w' ρ' u j q rb wb mb (nw (fv (cl n)) 0 (cl n)) (nm Mm.new (cl n)) 0 ∧ Ext (Sq u j q) w w' ρ ρ' := by
  unfold cl
  split
  · next h => exact fresh_lo hb hu hj hq hap hqs h
  · next h =>
    split
    · next h' => exact fresh_hi hb hu hj hq hap hqs h'
    · next h' =>
      obtain ⟨c, rfl⟩ : ∃ c : Nat, n = c := ⟨n.toNat, by omega⟩
      rw [Int.toNat_natCast]
      exact fresh_mid hb hu hj hq hap hqs (by omega) (by omega)
theorem nm_old (m : Mm) (k : Nat) {c : Nat} (h : c < m.cells.length) : (nm m k).val c = m.val c := by
  show (ca (m.cells ++ [(2, 2), (0, 0)] ++ _) c).2 = (ca m.cells c).2
  simp [ca, List.getD_eq_getElem?_getD, List.getElem?_append_left h]
def v3 : List Vl := [⟨500, 0, false⟩, ⟨501, 0, false⟩, ⟨502, 0, false⟩]
theorem own_nw {vs : List Vl} {c k x : Nat} (h : OwnC (nw vs c k) x) : c ≤ x := by
  rcases h with ⟨i, hi, h⟩ | ⟨i, hi, h⟩
  · have : i = 0 := by simp [nw] at hi; exact hi
    rw [this, nw_att] at h
    rcases h with h | h
    · have : x = c := h; omega
    · have : x = c + 1 := h; omega
  · have hk : i < k := by simpa [nw] using hi
    rw [nw_ob _ _ hk] at h; omega
/-- The beginning. -/
theorem A3.start {w W W1 W2 W3 : World} {ρ ρ1 : Nat → Nat} {rb wb mb rc wc mc : Nat} {c : Nat} (_ : 1 ≤ c ∧ c ≤ 80) (r1 : Rs W ρ 1 2 7 rb wb mb (nw (fv c) 0 c) (nm Mm.new c) 0) (r2 : Rs W ρ 11 12 17 rc wc mc (nw (fv c) 0 c) (nm Mm.new c) 0) (kp : Keeps (fun _ => False) w W) (lo : ∀ i, i < w.heap.size → ρ i = 0)
    (s3 : St W1 ρ1 11 22 W.heap.size mc (nw v3 (nm Mm.new c).cells.length 3) (nm (nm Mm.new c) 3)) (x : Ext (Sr 11 22) W W1 ρ ρ1) (K : Keeps (fun i => ρ1 i = 0 ∧ w.heap.size ≤ i) W1 W2)
    (h3 : W3 = W2.alloc (.cells #[.pointer (some ⟨mc, 0, none⟩), .pointer (some ⟨W.heap.size, 0, none⟩), .int .i64 0] 42)) :
    ∃ ρ', A3 w W3 ρ' rb wb mb rc wc mc W2.heap.size W.heap.size (nw (fv c) 0 c) (nm Mm.new c) 0 (nw (fv c) 0 c) (nm (nm Mm.new c) 3) 0 (nw v3 (nm Mm.new c).cells.length 3) := by
  have sr : ∀ {r : Nat}, Sr 11 22 r ↔ r = 11 ∨ (22 ≤ r ∧ r < 27) := fun {r} => by unfold Sr; omega
  have y : Ext (fun r => r = 0) W1 W2 ρ1 ρ1 := ⟨K.mono (fun _ _ e => e.1), fun _ _ => rfl, fun i hi => .inr (s3.bnd i hi)⟩
  have b2 : Bnd W2 ρ1 := fun i hi => s3.bnd i (Nat.le_trans K.size hi)
  have K3 : Keeps (fun _ => False) W2 W3 := by rw [h3]; exact (Keeps.refl _ W2).alloc _
  have z3 : W3.heap.size = W2.heap.size + 1 := by rw [h3]; simp
  have q : Ext (fun r => r = 27) W2 W3 ρ1 (ro ρ1 W2 W3 (fun k => k = W2.heap.size) 27) := ro_ext (K3.mono (fun _ _ e => e.elim)) rfl
  have b3 := ro_bnd (ρ := ρ1) (T := fun k => k = W2.heap.size) (r := 27) K3.size
  have a1 := ((r1.ext x s3.bnd (by rw [sr]; omega) (fun r h1 h2 => by rw [sr]; omega) (by rw [sr]; omega)).ext y b2 (by decide) (fun r h1 h2 e => by omega) (by decide)).ext q b3 (by decide) (fun r h1 h2 e => by omega) (by decide)
  have nr : ¬ Sr 11 22 (ρ rc) := by rw [r2.rr, sr]; omega
  have rr1 := (x.old rc r2.lt).trans r2.rr
  have n0 : ¬ ρ1 rc = 0 := by rw [rr1]; decide
  have n27 : ¬ ρ1 rc = 27 := by rw [rr1]; decide
  have l1 := Nat.lt_of_lt_of_le r2.lt x.keeps.size
  have l2 := Nat.lt_of_lt_of_le l1 K.size
  have wj2 := ((r2.st.wj.ext x (fun r h1 h2 => by rw [sr]; omega)).ext y (fun r h1 h2 e => by omega)).ext q (fun r h1 h2 e => by omega)
  have mj2 := (s3.mj.ext y (by decide)).ext q (by decide)
  have wj3 := (s3.wj.ext y (fun r h1 h2 e => by omega)).ext q (fun r h1 h2 e => by omega)
  have it : Inv (nw (fv c) 0 c) (nm (nm Mm.new c) 3) := r2.iv.congr (by rw [nm_len (nm Mm.new c) 3]; omega) (fun i hi => nm_old _ _ hi)
  have i3 : Inv (nw v3 (nm Mm.new c).cells.length 3) (nm (nm Mm.new c) 3) := inv_nw v3 (nm Mm.new c) (by decide) (by decide)
  refine ⟨ro ρ1 W2 W3 (fun k => k = W2.heap.size) 27, a1, ⟨⟨b3, mj2, wj2, by decide, by decide, by omega⟩, q.cell (y.cell (x.cell r2.c0 nr) n0) n27, q.cell (y.cell (x.cell r2.c1 nr) n0) n27, q.cell (y.cell (x.cell r2.c2 nr) n0) n27, (q.keeps.frozen (p := ⟨rc, 2, none⟩) l2 n27).trans ((y.keeps.frozen (p := ⟨rc, 2, none⟩) l1 n0).trans ((x.keeps.frozen (p := ⟨rc, 2, none⟩) r2.lt nr).trans r2.z2)), (q.old rc l2).trans rr1, r2.q0, r2.qs, it, (fun e => by cases e), Nat.le_refl 0⟩, wj3, by rw [h3]; simp, by rw [h3]; simp, ⟨0, by rw [h3]; simp⟩, by rw [h3]; simp, ro_new (Nat.le_refl _) rfl (by omega), i3, fun x h h' => ?_, ?_, ?_, fun i hi => ?_⟩
  · have := r2.iv.own h
    have := own_nw h'
    omega
  · exact ⟨rfl, rfl, rfl, rfl, fun i hi => nm_old _ _ (r2.iv.co i hi), fun i hi => nm_old _ _ (r2.iv.ca_ i hi).1, fun i hi => nm_old _ _ (r2.iv.ca_ i hi).2⟩
  · refine ((kp.trans' x.keeps (fun _ _ e => e) (fun i hi e => by rw [lo i hi, sr] at e; omega)).trans' K (fun _ _ e => e) (fun i hi e => by omega)).trans K3
  · have li := Nat.lt_of_lt_of_le hi kp.size
    exact (q.old i (Nat.lt_of_lt_of_le li (Nat.le_trans x.keeps.size K.size))).trans ((x.old i li).trans (lo i hi))
end Go.Proofs.Ytdldhblhbbgloaa
