import Derived.Test.YtlaacojicoeneaaHsK
import Derived.Deep.AppendSrc
import Derived.Deep.RegionHeldLaw
namespace Go.Proofs.Ytlaacojicoeneaa
open Go.RowKit
theorem add_at (b o j : Nat) : (⟨b, o, none⟩ : Addr).add j = ⟨b, o + j, none⟩ := by
  unfold Addr.add; split <;> simp_all
def rcl (l : List Rw) : List Value := l.flatMap Rw.cells
theorem rw_len (r : Rw) : r.cells.length = 26 := rfl
theorem rcl_len : ∀ l : List Rw, (rcl l).length = l.length * 26
  | [] => rfl
  | r :: l => by
    show (r.cells ++ rcl l).length = _
    rw [List.length_append, rw_len, rcl_len l, List.length_cons]
    omega
theorem rcl_get : ∀ (l : List Rw) (i j : Nat) (v : Value), i < l.length → (l.getD i rw0).cells[j]? = some v → (rcl l)[i * 26 + j]? = some v
  | [], _, _, _, h, _ => by simp at h
  | q :: l, 0, j, v, _, hv => by
    have hv : q.cells[j]? = some v := hv
    have hj : j < q.cells.length := (List.getElem?_eq_some_iff.1 hv).1
    show (q.cells ++ rcl l)[0 * 26 + j]? = some v
    rw [Nat.zero_mul, Nat.zero_add, List.getElem?_append_left hj]; exact hv
  | q :: l, i + 1, j, v, h, hv => by
    have hv : (l.getD i rw0).cells[j]? = some v := hv
    have h' : i < l.length := by simpa using h
    show (q.cells ++ rcl l)[(i + 1) * 26 + j]? = some v
    rw [List.getElem?_append_right (by rw [rw_len]; omega), rw_len, show (i + 1) * 26 + j - 26 = i * 26 + j by omega]
    exact rcl_get l i j v h' hv
theorem rcl_back : ∀ (l : List Rw) (k : Nat) (v : Value), (rcl l)[k]? = some v → k / 26 < l.length ∧ (l.getD (k / 26) rw0).cells[k % 26]? = some v
  | [], _, _, h => by simp [rcl] at h
  | q :: l, k, v, h => by
    have h : (q.cells ++ rcl l)[k]? = some v := h
    by_cases hk : k < 26
    · rw [List.getElem?_append_left (by rw [rw_len]; exact hk)] at h
      have e1 : k / 26 = 0 := by omega
      have e2 : k % 26 = k := by omega
      rw [e1, e2]
      exact ⟨by simp, h⟩
    · rw [List.getElem?_append_right (by rw [rw_len]; omega), rw_len] at h
      obtain ⟨h1, h2⟩ := rcl_back l (k - 26) v h
      have e1 : k / 26 = (k - 26) / 26 + 1 := by omega
      have e2 : k % 26 = (k - 26) % 26 := by omega
      rw [e1, e2]
      exact ⟨by simpa using h1, h2⟩
theorem one_rcl (l : List Rw) : ∀ v ∈ rcl l, v.oneCell' = true := fun v hv => by
  obtain ⟨r, _, hr⟩ := List.mem_flatMap.1 hv
  have := all_oneCell_rw r
  rw [Array.all_eq_true'] at this
  exact this v (by simpa using hr)
theorem rsl_of_owns {W : World} {base n : Nat} {v : Value} {l : List Rw} (h : W.ownsRow base 39 26 v n (rcl l)) (hn : l.length = n) : ∃ a cap, v = .slice a n cap ∧ RSL W a l := by
  rcases h.2 with ⟨rfl, h0⟩ | ⟨g, cap, cur, rfl, _⟩
  · have hz : n = 0 := by first | exact h0.1 | omega
    subst hz
    exact ⟨none, 0, rfl, fun i hi => by omega⟩
  · refine ⟨_, cap, rfl, fun i hi => ⟨g, 0, rfl, fun j v hv => ?_⟩⟩
    have e := rcl_get l i j v hi hv
    have hc := h.cells (g := g) rfl (i * 26 + j) v e
    rw [add_at] at hc
    rw [Nat.zero_add] at hc ⊢
    exact hc
theorem uRows : Try.prog.underlying 22 = some (.slice 39) := by kernel_rfl
theorem iRows : ∃ i, Try.prog.info? 39 = some i ∧ i.zero = some (.agg rw0.cells.toArray) ∧ i.size = 26 ∧ i.bytes = 192 := by
  have h : (Try.prog.info? 39).map (fun i => (i.zero, i.size, i.bytes)) = some (some (.agg rw0.cells.toArray), 26, 192) := by kernel_rfl
  cases hi : Try.prog.info? 39 with
  | none => rw [hi] at h; cases h
  | some i =>
    rw [hi] at h
    simp only [Option.map_some] at h
    injection h with h
    injection h with h1 h2
    injection h2 with h2 h3
    exact ⟨i, rfl, h1, h2, h3⟩
theorem heap_new (W : World) (ob : Obj) : (W.alloc ob).heap[W.heap.size]? = some ob := (MapKept.heap_alloc W ob).1
set_option maxRecDepth 100000 in
/-- A copy of rows. -/
theorem copy_r {W0 : World} {ao : Option Addr} {l : List Rw} (co : Nat) (hO : RSL W0 ao l) (hz : ao = none → co = 0) (hn : l.length * 192 ≤ 140737488355328) :
    ∃ v' W', (Builtin.append_ #[22, 22] 22 #[.slice (some ⟨W0.heap.size, 0, none⟩) 0 0, .slice ao l.length co]).run Try.prog (W0.alloc (.cells #[] 39)) = .ok v' W' ∧ W'.ownsRow W0.heap.size 39 26 v' l.length (rcl l) ∧ Keeps (fun _ => False) W0 W' := by
  obtain ⟨i0, hi0, hz0, hz1, hz2⟩ := iRows
  have k0 : Keeps (fun _ => False) W0 (W0.alloc (.cells #[] 39)) := (Keeps.refl _ W0).alloc _
  have o0 : (W0.alloc (.cells #[] 39)).ownsRow W0.heap.size 39 26 (.slice (some ⟨W0.heap.size, 0, none⟩) 0 0) 0 [] := ⟨rfl, .inr ⟨W0.heap.size, 0, #[], rfl, Nat.le_refl _, heap_new W0 _, Nat.le_refl _, by unfold maxLen; omega, rfl, rfl⟩⟩
  cases ao with
  | none =>
    have hl : l = [] := by
      cases l with
      | nil => rfl
      | cons x r => obtain ⟨b, off, e, _⟩ := hO 0 (by simp); cases e
    subst hl
    rw [hz rfl]
    exact ⟨_, _, run_append_owned_none (P := Try.prog) (w := W0.alloc (.cells #[] 39)) W0.heap.size 22 22 39 i0 26 uRows hi0 _ 0 [] o0, o0, k0⟩
  | some a =>
    have hsrc : ∀ j u, (rcl l)[j]? = some u → (W0.alloc (.cells #[] 39)).cell? (a.add j) = some u := fun j u e => by
      obtain ⟨h1, h2⟩ := rcl_back l j u e
      obtain ⟨b, off, ea, hc⟩ := hO _ h1
      injection ea with ea
      subst ea
      rw [add_at]
      have := hc _ _ h2
      rw [show off + j / 26 * 26 + j % 26 = off + j by omega] at this
      exact k0.cell this (fun e => e)
    obtain ⟨v', w', hr, ho, hgr, _, _⟩ := run_append_own_at (P := Try.prog) (w := W0.alloc (.cells #[] 39)) W0.heap.size 22 22 39 i0 _ 26 192 uRows hi0 hz0 hz1 hz2 rfl (by decide) _ 0 [] o0 a l.length co (rcl l) (rcl_len l) hsrc (one_rcl l) (by unfold maxLen; omega) (by omega) k0.size
    rw [Nat.zero_add, List.nil_append] at ho
    exact ⟨v', w', hr, ho, k0.trans' ((Keeps.refl _ _).grown hgr (S := fun i => i = W0.heap.size) (fun i _ e => by simp [Value.ownBlock] at e; exact e.symm)) (fun _ _ e => e) (fun i hi e => by omega)⟩
theorem wpList_append_run {P : Program} {w : World} {ops : Array Oper} {rest : List Oper} {o : Oper} {a : Act} {Q : Exit → Act → World → Prop} (hgd : o.guard = none) (s x : Operand) (t : TypeId)
    (ho : o.op = .call { callee := .builtin .append, args := #[s, x], argTypes := #[t, t] }) (v src v' : Value) (w' : World) (hs : a.eval s = v) (hx : a.eval x = src)
    (hr : (Builtin.append_ #[t, t] o.type #[v, src]).run P w = .ok v' w') (h : wpList P ops Q rest (a.put o.dst v') w') : wpList P ops Q (o :: rest) a w :=
  wpList_plain hgd fun _ hK => by
    unfold Oper.wp execOp
    simp only [ho, resolve, invoke, builtin, Sem.run_bind, Sem.run_pure, Result.andThen_ok, List.map_toArray, List.map_cons, List.map_nil, hs, hx, hr]
    exact hK _ _ h
set_option maxHeartbeats 1000000 in
set_option maxRecDepth 100000 in
theorem copied_any {w : World} {a : Option Addr} {cap : Nat} {l : List Rw} (hl : RSL w a l) (hz : a = none → cap = 0) (hn : l.length * 192 ≤ 140737488355328) : Calls Try.prog 13 #[.slice a l.length cap] w fun e w' => ∃ a' cap', e = .returned (.slice a' l.length cap') ∧ RSL w' a' l ∧ Keeps (fun _ => False) w w' := by
  obtain ⟨v', W', hr, ho, k⟩ := copy_r cap hl hz hn
  obtain ⟨a', cap', rfl, hl'⟩ := rsl_of_owns ho rfl
  generalize l.length = N at *
  go_enter Try.func13, Try.ntmps13
  go_wp2_with (refine wpList_append_run rfl _ _ _ rfl _ _ _ W' rfl rfl hr ?_; clear hr)
  go_ret
  exact ⟨a', cap', rfl, hl', k⟩
theorem num_any (w : World) (n : Int) : Calls Try.prog 15 #[.int .i64 n] w fun e w' => e = .returned (.int .i64 n) ∧ w' = w := by
  go_enter Try.func15, Try.ntmps15
  go_wp2
  go_ret
  exact ⟨rfl, rfl⟩
set_option maxHeartbeats 1000000 in
set_option maxRecDepth 100000 in
theorem checks_any {w : World} {a : Option Addr} {cap : Nat} {l : List Rw} (hl : RSL w a l) (hz : a = none → cap = 0) (hn : l.length * 192 ≤ 140737488355328) : Calls Try.prog 7 #[.slice a l.length cap] w fun e w' => e = .returned (.bool true) ∧ Keeps (fun _ => False) w w' := by
  have hC := copied_any hl hz hn
  have HR : Hid (∀ W a' cap', RSL W a' l → Calls Try.prog 12 #[.slice a' l.length cap'] W fun e w' => e = .returned (.tuple #[.int .i64 (ansP (fstP l 0 (f0 6))).1, .int .i64 (ansP (fstP l 0 (f0 6))).2]) ∧ Keeps (fun _ => False) W w') := fun W a' cap' h => rcheck_any h (by omega)
  have HP : Hid (∀ W, Keeps (fun _ => False) w W → Calls Try.prog 14 #[.slice a l.length cap] W fun e w' => e = .returned (.tuple #[.int .i64 (ansP (fstP l 0 (f0 6))).1, .int .i64 (ansP (fstP l 0 (f0 6))).2]) ∧ Keeps (fun _ => False) W w') := fun W k => check_any (hl.keep k) (by omega)
  generalize (ansP (fstP l 0 (f0 6))).1 = A1 at *
  generalize (ansP (fstP l 0 (f0 6))).2 = A2 at *
  have hnm := fun W => num_any W A2
  clear hl hz hn
  generalize l.length = N at *
  go_enter Try.func7, Try.ntmps7
  go_wp2_with (first | (go_at_call 13; refine hC.mono ?_; clear hC; rintro e w1 ⟨a1, cap1, rfl, hl1, k1⟩) | (go_at_call 12; refine (HR.out w1 a1 cap1 hl1).mono ?_; clear HR; rintro e w2 ⟨rfl, k2⟩) | (go_at_call 14; refine (HP.out w2 (k1.trans k2)).mono ?_; clear HP; rintro e w3 ⟨rfl, k3⟩) | (go_at_call 15; refine (hnm _).mono ?_; rintro e w4 ⟨rfl, ew⟩; subst w4))
  go_ret
  exact ⟨rfl, (k1.trans k2).trans k3⟩
end Go.Proofs.Ytlaacojicoeneaa
