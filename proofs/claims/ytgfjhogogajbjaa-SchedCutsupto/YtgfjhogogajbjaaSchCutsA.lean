import Derived.Test.YtgfjhogogajbjaaSchWhole2
import Derived.Test.YtgfjhogogajbjaaSchR4
namespace Go.Proofs.Ytgfjhogogajbjaa
open Go.RowKit Go.Shelf
attribute [local go_sem] Oper.semAt_some

theorem cat_zero (z z' : Nat → Int) : cat z 0 z' = z' := by funext i; simp [cat]
theorem made_empty (w : World) (z : Nat → Int) : (w.alloc (.cells #[] 2)).ownsRow w.heap.size 2 1 (.slice (some ⟨w.heap.size, 0, none⟩) 0 0) 0 (nums z 0) := World.ownsRow_made w #[] 0 (Nat.le_refl _) (by unfold maxLen; omega) rfl

set_option maxHeartbeats 400000 in
theorem store_func (W : World) (t : TypeId) (fn : Fn) (first cp : Array Value) : (store ⟨W.heap.size, 0, none⟩ (.func fn first cp)).run Try.prog (W.alloc (.cells #[Value.nilFunc] t)) = .ok () (W.alloc (.cells #[.func fn first cp] t)) := by
  rw [run_store _ _ _ _ _ rfl]
  simp [go_sem]
theorem owns_shape {w : World} {base : Nat} {e : TypeId} {size : Nat} {v : Value} {n : Nat} {xs : List Value} (h : w.ownsRow base e size v n xs) : ∃ a cap, v = .slice a n cap := by
  rcases h.2 with ⟨rfl, rfl⟩ | ⟨g, c3, cur, rfl, _⟩
  · exact ⟨_, _, rfl⟩
  · exact ⟨_, _, rfl⟩
/-- An append whose run is known, in a fence that is wide. -/
theorem wpListIn_append_run {P : Program} {n : Nat} {w : World} {ops : Array Oper} {rest : List Oper} {o : Oper} {a : Act} {Q : Exit → Act → World → Prop} (hgd : o.guard = none) (s x : Operand) (t : TypeId)
    (ho : o.op = .call { callee := .builtin .append, args := #[s, x], argTypes := #[t, t] }) (v src v' : Value) (w' : World) (hs : a.eval s = v) (hx : a.eval x = src)
    (hr : (Builtin.append_ #[t, t] o.type #[v, src]).run P w = .ok v' w') (h : wpListIn Fence.wide n P ops Q rest (a.put o.dst v') w') : wpListIn Fence.wide n P ops Q (o :: rest) a w :=
  wpListIn_plain hgd fun K hK => by
    unfold Oper.wpIn
    refine ⟨fun _ _ => trivial, ?_⟩
    show o.uponIn Fence.wide n P a K Q ((o.semAt none a.eval).run P w)
    rw [Oper.semAt_none]
    unfold execOp
    simp only [ho, resolve, invoke, builtin, Sem.run_bind, Sem.run_pure, Result.andThen_ok, List.map_toArray, List.map_cons, List.map_nil, hs, hx, hr]
    exact hK _ _ h

/-- The part of a world below n. -/
def cutoff (w : World) (n : Nat) : World := { w with heap := w.heap.extract 0 n }
theorem cutoff_size (w : World) {n : Nat} (h : n ≤ w.heap.size) : (cutoff w n).heap.size = n := by simp [cutoff, Nat.min_eq_left h]
theorem cutoff_keeps (w : World) {n : Nat} (h : n ≤ w.heap.size) : Keeps (fun _ => False) (cutoff w n) w := by
  refine ⟨rfl, rfl, rfl, by rw [cutoff_size w h]; exact h, fun k hk _ => ?_⟩
  rw [cutoff_size w h] at hk
  show w.heap[k]? = (w.heap.extract 0 n)[k]?
  rw [Array.getElem?_extract, if_pos (by omega), Nat.zero_add]
/-- Stretches' value stands where only others were written. -/
theorem SQ.moved {w0 w W : World} {B1 B2 nt : Nat} {a : Option Addr} {m cap : Nat} {z : Nat → Int} (h : SQ w0 w B1 B2 nt a m cap z) (k : Keeps (fun k => k < w0.heap.size ∨ w.heap.size ≤ k) w W) :
    ∃ v0 : World, v0.heap.size = w0.heap.size ∧ SQ v0 W B1 B2 nt a m cap z := by
  have hl := h.lt
  have h1 := h.n1
  have h2 := h.n2
  have hk := h.keeps.size
  have hk2 := k.size
  refine ⟨cutoff W w0.heap.size, cutoff_size W (by omega), k.cell h.c1 (by show ¬ (B1 < _ ∨ _ ≤ B1); omega), k.cell h.c2 (by show ¬ (B2 < _ ∨ _ ≤ B2); omega), ?_, by rw [cutoff_size W (by omega)]; exact h1, by rw [cutoff_size W (by omega)]; exact h2, fun g o e => by rw [cutoff_size W (by omega)]; exact h.na g o e, fun g o e => Nat.lt_of_lt_of_le (h.la g o e) k.size, cutoff_keeps W (by omega)⟩
  rcases h.nl with e | ⟨b, off, rfl, hb, hc⟩
  · exact .inl e
  · have := h.na b off rfl
    exact .inr ⟨b, off, rfl, Nat.lt_of_lt_of_le hb k.size, fun i hi => k.cell (hc i hi) (by show ¬ (b < _ ∨ _ ≤ b); omega)⟩
theorem SQ.sv' {w0 w : World} {B1 B2 nt : Nat} {a : Option Addr} {m cap : Nat} {z : Nat → Int} (h : SQ w0 w B1 B2 nt a m cap z) {N : Nat} (hN : ∀ k, Dz B1 B2 a k → k < N) {T : Nat → Prop} (hT : ∀ k, T k → k < w0.heap.size ∨ N ≤ k) (W W' : World) (k : Keeps (fun k => T k ∨ w.heap.size ≤ k) W W') : Sv (Dz B1 B2 a) W W' := by
  refine ⟨k.size, fun i hi hl => k.block i hl (fun e => ?_)⟩
  have h0 := hN i hi
  have h1 := h.lt
  have h2 := h.n1
  have h3 := h.n2
  rcases hi with rfl | rfl | ⟨o, rfl⟩
  · rcases e with e | e
    · have := hT _ e; omega
    · omega
  · rcases e with e | e
    · have := hT _ e; omega
    · omega
  · have h4 := h.na i o rfl
    rcases e with e | e
    · have := hT _ e; omega
    · have := h.la i o rfl; omega

/-- What a value that ranges gives, from w' on: M stretches; nothing that is written outside of W .. w' changes it. -/
def Gives (gf : Nat) (lb : Array Value) (M : Nat) (c : Nat → Cu) (W w' : World) : Prop :=
  ∀ (n : Nat) (X : World) (T : Nat → Prop), 1 ≤ n → Keeps (fun k => k < W.heap.size ∨ w'.heap.size ≤ k) w' X → (∀ k, T k → k < W.heap.size ∨ w'.heap.size ≤ k) →
    SeqStopsK Fence.wide n Try.prog gf lb (fun j : Fin M => encu (c j)) (Keeps (fun k => T k ∨ X.heap.size ≤ k)) (fun ys => ys = idx M M) (fun pre => ∃ k, 0 < k ∧ k ≤ M ∧ pre = idx M k) M X
theorem gives_any {W w' : World} {B1 B2 nt : Nat} {a : Option Addr} {m cap : Nat} {z : Nat → Int} (h : SQ W w' B1 B2 nt a m cap z) (hm : m ≤ 4096) {M : Nat} (hM : Many (nmf nt z) m M) :
    Gives 21 #[.pointer (some ⟨B1, 0, none⟩), .pointer (some ⟨B2, 0, none⟩)] M (fun j => cut (nmf nt z) m j) W w' := fun n X T hn k hT => by
  obtain ⟨v0, e0, hq⟩ := h.moved k
  refine cut_stops n hn hq hm hM _ (hq.sv' (N := w'.heap.size) (fun k hk => ?_) (fun k hk => by rw [e0]; exact hT k hk))
  have hl := h.lt
  rcases hk with rfl | rfl | ⟨o, rfl⟩
  · exact hl.1
  · exact hl.2
  · exact h.la _ o rfl
theorem gives_none (c : Nat → Cu) (W w' : World) : Gives 19 #[] 0 c W w' := fun n X T _ _ _ => by
  have := none_stops n (Keeps (fun k => T k ∨ X.heap.size ≤ k)) X (fun ys => ys = idx 0 0) (fun pre => ∃ k, 0 < k ∧ k ≤ 0 ∧ pre = idx 0 k) rfl 0 (fun j : Fin 0 => encu (c j))
  exact this
end Go.Proofs.Ytgfjhogogajbjaa
