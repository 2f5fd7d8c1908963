import Derived.Test.YtagplkgjdaojnaaTabA
namespace Go.Proofs.Ytagplkgjdaojnaa
open Go.RowKit
attribute [local go_sem] Oper.semAt_some

/-- An append whose run is known. -/
theorem wpList_append_run {P : Program} {w : World} {ops : Array Oper} {rest : List Oper} {o : Oper} {a : Act} {Q : Exit → Act → World → Prop} (hgd : o.guard = none) (s x : Operand) (t : TypeId)
    (ho : o.op = .call { callee := .builtin .append, args := #[s, x], argTypes := #[t, t] }) (v src v' : Value) (w' : World) (hs : a.eval s = v) (hx : a.eval x = src)
    (hr : (Builtin.append_ #[t, t] o.type #[v, src]).run P w = .ok v' w') (h : wpList P ops Q rest (a.put o.dst v') w') : wpList P ops Q (o :: rest) a w :=
  wpList_plain hgd fun K hK => by
    unfold Oper.wp execOp
    simp only [ho, resolve, invoke, builtin, Sem.run_bind, Sem.run_pure, Result.andThen_ok, List.map_toArray, List.map_cons, List.map_nil, hs, hx, hr]
    exact hK _ _ h


theorem infoE : (Try.prog.info? 36).map (fun i => (i.zero, i.size, i.bytes)) = some (some (.agg #[.int .i64 0, .int .i64 0, .int .i64 0]), 3, 24) := by kernel_rfl
theorem underE : Try.prog.underlying 42 = some (.slice 36) := by kernel_rfl
set_option maxHeartbeats 1600000 in
set_option maxRecDepth 1000000 in
theorem cloneE_any {w : World} {v : Value} {n : Nat} {xs : List Value} (h : w.ownsRow 0 36 3 v n xs) (h1 : ∀ u ∈ xs, u.oneCell' = true) (hn : n ≤ 4398046511200) :
    Calls Try.prog 25 #[v] w fun e w' => ∃ v', e = .returned v' ∧ w'.ownsRow w.heap.size 36 3 v' n xs ∧ Keeps (fun _ => False) w w' := by
  obtain ⟨i0, hi0, hz0, hz1, hz2⟩ := info_parts infoE
  have hlen := h.1
  rcases h.2 with ⟨rfl, rfl⟩ | ⟨g, cap, cur, rfl, hb⟩
  · have hnn : ∀ W, (binOp .eql 42 (.slice none 0 0) (.slice none 0 0)).run Try.prog W = .ok (.bool true) W := fun W => rfl
    have hx : xs = [] := List.eq_nil_of_length_eq_zero (by simpa using hlen)
    subst hx
    go_enter Try.func25, Try.ntmps25
    go_wp2
    go_ret
    exact ⟨_, rfl, World.ownsRow_nil _ _ _ _, Keeps.refl _ _⟩
  · have K0 : Keeps (fun _ => False) w (w.alloc (.cells #[] 36)) := (Keeps.refl _ w).alloc _
    have own : (w.alloc (.cells #[] 36)).ownsRow w.heap.size 36 3 (.slice (some ⟨w.heap.size, 0, none⟩) 0 0) 0 [] := World.ownsRow_made w #[] 0 (Nat.le_refl _) (by unfold maxLen; omega) rfl
    have hnews : ∀ j u, xs[j]? = some u → (w.alloc (.cells #[] 36)).cell? ((⟨g, 0, none⟩ : Addr).add j) = some u := fun j u hu => K0.cell (h.cells rfl j u hu) (fun e => e)
    obtain ⟨v', w', hr, ho, hg, _, _⟩ := run_append_own_at (P := Try.prog) (w := w.alloc (.cells #[] 36)) w.heap.size 42 42 36 i0 _ 3 24 underE hi0 hz0 hz1 hz2 rfl (by decide) _ 0 [] own ⟨g, 0, none⟩ n cap xs hlen hnews h1 (by unfold maxLen; omega) (by omega) (by simp)
    have kw : Keeps (fun _ => False) w w' := K0.trans' ((Keeps.refl _ _).grown hg (S := fun k => k = w.heap.size) (fun _ _ e => by cases e; rfl)) (fun _ _ e => e) (fun i hi e => by omega)
    rw [Nat.zero_add, List.nil_append] at ho
    have hnn : ∀ W, (binOp .eql 42 (.slice (some ⟨g, 0, none⟩) n cap) (.slice none 0 0)).run Try.prog W = .ok (.bool false) W := fun W => rfl
    clear own hg hnews K0 h hb h1 hlen
    go_enter Try.func25, Try.ntmps25
    go_wp2_with ((at_builtin; refine wpList_append_run rfl _ _ _ rfl _ _ v' w' rfl rfl hr ?_))
    go_ret
    exact ⟨v', rfl, ho, kw⟩

theorem infoF : (Try.prog.info? 27).map (fun i => (i.zero, i.size, i.bytes)) = some (some (.int .i64 0), 1, 8) := by kernel_rfl
theorem underF : Try.prog.underlying 48 = some (.slice 27) := by kernel_rfl
set_option maxHeartbeats 1600000 in
set_option maxRecDepth 1000000 in
theorem cloneF_any {w : World} {v : Value} {n : Nat} {xs : List Value} (h : w.ownsRow 0 27 1 v n xs) (h1 : ∀ u ∈ xs, u.oneCell' = true) (hn : n ≤ 4398046511200) :
    Calls Try.prog 29 #[v] w fun e w' => ∃ v', e = .returned v' ∧ w'.ownsRow w.heap.size 27 1 v' n xs ∧ Keeps (fun _ => False) w w' := by
  obtain ⟨i0, hi0, hz0, hz1, hz2⟩ := info_parts infoF
  have hlen := h.1
  rcases h.2 with ⟨rfl, rfl⟩ | ⟨g, cap, cur, rfl, hb⟩
  · have hnn : ∀ W, (binOp .eql 48 (.slice none 0 0) (.slice none 0 0)).run Try.prog W = .ok (.bool true) W := fun W => rfl
    have hx : xs = [] := List.eq_nil_of_length_eq_zero (by simpa using hlen)
    subst hx
    go_enter Try.func29, Try.ntmps29
    go_wp2
    go_ret
    exact ⟨_, rfl, World.ownsRow_nil _ _ _ _, Keeps.refl _ _⟩
  · have K0 : Keeps (fun _ => False) w (w.alloc (.cells #[] 27)) := (Keeps.refl _ w).alloc _
    have own : (w.alloc (.cells #[] 27)).ownsRow w.heap.size 27 1 (.slice (some ⟨w.heap.size, 0, none⟩) 0 0) 0 [] := World.ownsRow_made w #[] 0 (Nat.le_refl _) (by unfold maxLen; omega) rfl
    have hnews : ∀ j u, xs[j]? = some u → (w.alloc (.cells #[] 27)).cell? ((⟨g, 0, none⟩ : Addr).add j) = some u := fun j u hu => K0.cell (h.cells rfl j u hu) (fun e => e)
    obtain ⟨v', w', hr, ho, hg, _, _⟩ := run_append_own_at (P := Try.prog) (w := w.alloc (.cells #[] 27)) w.heap.size 48 48 27 i0 _ 1 8 underF hi0 hz0 hz1 hz2 rfl (by decide) _ 0 [] own ⟨g, 0, none⟩ n cap xs hlen hnews h1 (by unfold maxLen; omega) (by omega) (by simp)
    have kw : Keeps (fun _ => False) w w' := K0.trans' ((Keeps.refl _ _).grown hg (S := fun k => k = w.heap.size) (fun _ _ e => by cases e; rfl)) (fun _ _ e => e) (fun i hi e => by omega)
    rw [Nat.zero_add, List.nil_append] at ho
    have hnn : ∀ W, (binOp .eql 48 (.slice (some ⟨g, 0, none⟩) n cap) (.slice none 0 0)).run Try.prog W = .ok (.bool false) W := fun W => rfl
    clear own hg hnews K0 h hb h1 hlen
    go_enter Try.func29, Try.ntmps29
    go_wp2_with ((at_builtin; refine wpList_append_run rfl _ _ _ rfl _ _ v' w' rfl rfl hr ?_))
    go_ret
    exact ⟨v', rfl, ho, kw⟩

theorem ecells_one (l : List En) : ∀ u ∈ fl ecells l, u.oneCell' = true := fun u hu => by
  obtain ⟨e, _, h⟩ := List.mem_flatMap.1 hu
  simp [ecells] at h
  rcases h with rfl | rfl | rfl <;> rfl
theorem fcells_one (l : List Rd) : ∀ u ∈ fcells l, u.oneCell' = true := fun u hu => by
  obtain ⟨e, _, rfl⟩ := List.mem_map.1 hu
  rfl
theorem es_len (rs : List Rd) : (es rs).length ≤ rs.length := ents_len rs 0

set_option maxHeartbeats 1600000 in
set_option maxRecDepth 1000000 in
theorem entries_any {w : World} {T : Tk} {rs : List Rd} (h : TV w T rs) (hn : rs.length ≤ 4398046511200) : Calls Try.prog 15 #[.pointer (some ⟨T.tb, 0, none⟩)] w fun e w' => ∃ v', e = .returned v' ∧ w'.ownsRow w.heap.size 36 3 v' (es rs).length (fl ecells (es rs)) ∧ Keeps (fun _ => False) w w' := by
  have hc := cloneE_any h.re (ecells_one _) (Nat.le_trans (es_len rs) hn)
  have f0 := h.f0
  clear h
  go_enter Try.func15, Try.ntmps15
  go_wp2_with ((go_at_call 25; refine hc.mono ?_; rintro e w1 ⟨v', rfl, ho, k⟩))
  go_ret
  exact ⟨v', rfl, ho, k⟩
end Go.Proofs.Ytagplkgjdaojnaa
