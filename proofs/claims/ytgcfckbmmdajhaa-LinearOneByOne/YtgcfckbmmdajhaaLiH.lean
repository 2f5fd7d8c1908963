import Derived.Test.YtgcfckbmmdajhaaLiG
import Derived.Test.YtgcfckbmmdajhaaLiF
import Derived.Maps.AppendAt
namespace Go.Proofs.Ytgcfckbmmdajhaa
open Go.RowKit
theorem add_atT (b o j : Nat) : (⟨b, o, none⟩ : Addr).add j = ⟨b, o + j, none⟩ := Addr.add_mid b o j
theorem append_sz {t e : TypeId} {z : Value} {size bytes : Nat} (ht : Try.prog.underlying t = some (.slice e)) (hinfo : (Try.prog.info? e).map (fun i => (i.zero, i.size, i.bytes)) = some (some z, size, bytes)) (hz : z.cells.size = size) (hs : 0 < size) {W : World} {base k : Nat} {v : Value} {xs : List Value} (hown : W.ownsRow base e size v k xs) (hb : base ≤ W.heap.size) (hb0 : 0 < bytes) (hk : (k + 1) * bytes ≤ 140737488355328) (q : List Value) (hq : q.length = size) (h1 : ∀ u ∈ q, u.oneCell' = true) :
    ∃ v' w', (Builtin.append_ #[t, t] t #[v, .slice (some ⟨W.heap.size, 0, none⟩) 1 1]).run Try.prog (W.alloc (.cells q.toArray e)) = .ok v' w' ∧ w'.ownsRow base e size v' (k + 1) (xs ++ q) ∧ Keeps (fun i => v.ownBlock = some i) W w' ∧ (v'.ownBlock = v.ownBlock ∨ v'.ownBlock = some (W.heap.size + 1)) := by
  obtain ⟨i0, hi0, hzz⟩ := Option.map_eq_some_iff.1 hinfo
  simp only [Prod.mk.injEq] at hzz
  obtain ⟨hz0, hz1, hz2⟩ := hzz
  have hk2 : k + 1 ≤ 140737488355328 := Nat.le_trans (Nat.le_mul_of_pos_right _ hb0) hk
  obtain ⟨v', w', hr, ho, hg, _, hbl⟩ := run_append_own_at (P := Try.prog) (w := W.alloc (.cells q.toArray e)) base t t e i0 _ size bytes ht hi0 hz0 hz1 hz2 hz hs v k xs (((Keeps.refl (fun _ => False) W).alloc _).owns hown (fun _ _ e => e)) ⟨W.heap.size, 0, none⟩ 1 1 q (by omega) (fun j y hy => by
      rw [add_atT]
      have := (CL.made W q e).c j y hy
      simpa using this) h1 (by unfold maxLen; omega) (by omega) (Nat.le_trans hb (by simp))
  exact ⟨v', w', hr, ho, ((Keeps.refl _ W).alloc _).grown hg (fun i _ e => e), by simpa using hbl⟩
theorem own_slice {W : World} {base n size : Nat} {e : TypeId} {v : Value} {l : List Value} (h : W.ownsRow base e size v n l) : ∃ a cap, v = .slice a n cap ∧ (∀ j u, l[j]? = some u → ∃ g, a = some ⟨g, 0, none⟩ ∧ W.cell? ⟨g, j, none⟩ = some u) ∧ (∀ g, v.ownBlock = some g → a = some ⟨g, 0, none⟩) ∧ (∀ g off, a = some ⟨g, off, none⟩ → off = 0 ∧ v.ownBlock = some g) := by
  have hlen := h.1
  rcases h.2 with ⟨rfl, h0⟩ | ⟨g, cap, cur, rfl, _⟩
  · have hz : n = 0 := by first | exact h0.1 | omega
    subst hz
    refine ⟨none, 0, rfl, fun j u e => ?_, (fun g e => by cases e), fun g off e => by cases e⟩
    have := (List.getElem?_eq_some_iff.1 e).1
    omega
  · refine ⟨_, cap, rfl, fun j u e => ⟨g, rfl, ?_⟩, fun g' e => by cases e; rfl, fun g' off e => by cases e; exact ⟨rfl, rfl⟩⟩
    have := h.cells (g := g) rfl j u e
    rw [add_atT, Nat.zero_add] at this
    exact this
theorem owns_low {W : World} {base base' n size : Nat} {e : TypeId} {v : Value} {l : List Value} (h : W.ownsRow base e size v n l) (hb : base' ≤ base) : W.ownsRow base' e size v n l := by
  refine ⟨h.1, ?_⟩
  rcases h.2 with h0 | ⟨g, cap, cur, rfl, hbg, rest⟩
  · exact .inl h0
  · exact .inr ⟨g, cap, cur, rfl, Nat.le_trans hb hbg, rest⟩
theorem owns_baseT {w : World} {base : Nat} {e : TypeId} {size : Nat} {v : Value} {n : Nat} {xs : List Value} (h : w.ownsRow base e size v n xs) (k : Nat) (hk : v.ownBlock = some k) : base ≤ k := by
  rcases h.2 with ⟨rfl, _⟩ | ⟨g, cap, cur, rfl, hb, _⟩
  · cases hk
  · cases hk
    exact hb
/-- Numbers in memory. -/
def KL (w : World) (a : Option Addr) (S : List Int) : Prop := ∀ i, i < S.length → ∃ b off, a = some ⟨b, off, none⟩ ∧ w.cell? ⟨b, off + i, none⟩ = some (.int .i64 (S.getD i 0))
theorem KL.keep {w w' : World} {a : Option Addr} {S : List Int} (h : KL w a S) (k : Keeps (fun _ => False) w w') : KL w' a S := fun i hi => by
  obtain ⟨b, off, e, hc⟩ := h i hi
  exact ⟨b, off, e, k.cell hc (fun e => e)⟩
def kvs (S : List Int) : List Value := S.map (Value.int .i64)
theorem kl_of {W : World} {base n : Nat} {v : Value} {S : List Int} (h : W.ownsRow base 2 1 v n (kvs S)) : ∃ a cap, v = .slice a n cap ∧ KL W a S ∧ n = S.length ∧ (a = none → cap = 0) := by
  have hl := h.1
  unfold kvs at hl
  rw [List.length_map, Nat.mul_one] at hl
  rcases h.2 with ⟨rfl, h0⟩ | ⟨g, cap, cur, rfl, _⟩
  · refine ⟨none, 0, by rw [h0], fun i hi => by omega, hl.symm, fun _ => rfl⟩
  · refine ⟨_, cap, rfl, fun i hi => ⟨g, 0, rfl, ?_⟩, hl.symm, fun e => by cases e⟩
    have := h.cells (g := g) rfl i (.int .i64 (S.getD i 0)) (by
      unfold kvs
      rw [List.getElem?_map, List.getElem?_eq_getElem hi, List.getD_eq_getElem?_getD, List.getElem?_eq_getElem hi]
      rfl)
    rw [add_atT] at this
    exact this
theorem take_next {S : List Int} {i : Nat} (h : i < S.length) : S.take (i + 1) = S.take i ++ [S.getD i 0] := by
  rw [List.take_add_one, List.getElem?_eq_getElem h, List.getD_eq_getElem?_getD, List.getElem?_eq_getElem h]
  rfl
theorem uK : Try.prog.underlying 25 = some (.slice 2) := by kernel_rfl
theorem iK : (Try.prog.info? 2).map (fun i => (i.zero, i.size, i.bytes)) = some (some (.int .i64 0), 1, 8) := by kernel_rfl
theorem wpList_append_tL {P : Program} {w : World} {ops : Array Oper} {rest : List Oper} {o : Oper} {a : Act} {Q : Exit → Act → World → Prop} (hgd : o.guard = none) (s x : Operand) (t : TypeId)
    (ho : o.op = .call { callee := .builtin .append, args := #[s, x], argTypes := #[t, t] }) (v src v' : Value) (w' : World) (hs : a.eval s = v) (hx : a.eval x = src)
    (hr : (Builtin.append_ #[t, t] o.type #[v, src]).run P w = .ok v' w') (h : wpList P ops Q rest (a.put o.dst v') w') : wpList P ops Q (o :: rest) a w :=
  wpList_plain hgd fun _ hK => by
    unfold Oper.wp execOp
    simp only [ho, resolve, invoke, builtin, Sem.run_bind, Sem.run_pure, Result.andThen_ok, List.map_toArray, List.map_cons, List.map_nil, hs, hx, hr]
    exact hK _ _ h
/-- A number behind a list of the call's own. -/
theorem append_k {W : World} {base m : Nat} {v : Value} {L : List Int} (hO : W.ownsRow base 2 1 v m (kvs L)) (hb : base ≤ W.heap.size) (hm : (m + 1) * 8 ≤ 140737488355328) (x : Int) :
    ∃ a' c' W', (Builtin.append_ #[25, 25] 25 #[v, .slice (some ⟨W.heap.size, 0, none⟩) 1 1]).run Try.prog (W.alloc (.cells #[.int .i64 x] 2)) = .ok (.slice a' (m + 1) c') W' ∧ W'.ownsRow base 2 1 (.slice a' (m + 1) c') (m + 1) (kvs (L ++ [x])) ∧ Keeps (fun i => base ≤ i) W W' := by
  obtain ⟨v', W', q1, q2, q3, -⟩ := append_sz uK iK rfl (by decide) hO hb (by decide) hm [.int .i64 x] rfl (fun u hu => by simp at hu; subst hu; rfl)
  have e : kvs (L ++ [x]) = kvs L ++ [.int .i64 x] := by unfold kvs; rw [List.map_append]; rfl
  rw [← e] at q2
  obtain ⟨a', c', rfl, -⟩ := own_slice q2
  exact ⟨a', c', W', q1, q2, q3.mono (fun i _ e => owns_baseT hO i e)⟩
end Go.Proofs.Ytgcfckbmmdajhaa
