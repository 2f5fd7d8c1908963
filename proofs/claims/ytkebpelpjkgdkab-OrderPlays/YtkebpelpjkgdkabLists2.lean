import Derived.Test.YtkebpelpjkgdkabLists
import Derived.Deep.AppendSrc
namespace Go.Proofs.Ytkebpelpjkgdkab
open Go.RowKit Go.Maps

theorem itemInfo2 : (Try.prog.info? 32).map (fun i => (i.zero, i.size, i.bytes)) = some (some (.agg #[.int .i64 0, .int .i64 0]), 2, 16) := by kernel_rfl
theorem underItems2 : Try.prog.underlying 22 = some (.slice 32) := by kernel_rfl

theorem IL.take {w : World} {a : Option Addr} {xs : List It} (h : IL w a xs) {n : Nat} : IL w a (xs.take n) := by
  rcases h with h | ⟨b, off, rfl, hb, hc⟩
  · exact .inl (by rw [List.length_take]; omega)
  · refine .inr ⟨b, off, rfl, hb, fun i hi => ?_⟩
    simp at hi
    rw [ia_take (by omega)]
    exact hc i (by omega)

/-- The cells of a list. -/
theorem il_news {w : World} {b off : Nat} {xs : List It} (h : ∀ i, i < xs.length → w.cell? ⟨b, off + i * 2, none⟩ = some (.int .i64 (ia xs i).1) ∧ w.cell? ⟨b, off + i * 2 + 1, none⟩ = some (.int .i64 (ia xs i).2)) :
    ∀ j u, (flat xs)[j]? = some u → w.cell? ((⟨b, off, none⟩ : Addr).add j) = some u := by
  intro j u hj
  have hl : j < xs.length * 2 := by
    have := (List.getElem?_eq_some_iff.1 hj).1
    rw [length_flat] at this; exact this
  have e : (⟨b, off, none⟩ : Addr).add j = ⟨b, off + j, none⟩ := by unfold Addr.add; split <;> simp_all
  rw [e]
  rcases Nat.mod_two_eq_zero_or_one j with hm | hm
  · have h0 := flat_get0 xs (j / 2) (by omega)
    rw [show j / 2 * 2 = j by omega, hj] at h0
    have := (h (j / 2) (by omega)).1
    rw [show off + j / 2 * 2 = off + j by omega] at this
    rw [this, h0]
  · have h0 := flat_get1 xs (j / 2) (by omega)
    rw [show j / 2 * 2 + 1 = j by omega, hj] at h0
    have := (h (j / 2) (by omega)).2
    rw [show off + j / 2 * 2 + 1 = off + j by omega] at this
    rw [this, h0]

theorem IL.nil {w : World} {a : Option Addr} {xs : List It} (h : IL w a xs) (e : a = none) : xs.length = 0 := by
  subst e
  rcases h with h | ⟨_, _, h, _⟩
  · exact h
  · cases h

/-- An append whose run is known. -/
theorem wpList_append_run {P : Program} {w : World} {ops : Array Oper} {rest : List Oper} {o : Oper} {a : Act} {Q : Exit → Act → World → Prop} (hgd : o.guard = none) (s x : Operand) (t : TypeId)
    (ho : o.op = .call { callee := .builtin .append, args := #[s, x], argTypes := #[t, t] }) (v src v' : Value) (w' : World) (hs : a.eval s = v) (hx : a.eval x = src)
    (hr : (Builtin.append_ #[t, t] o.type #[v, src]).run P w = .ok v' w') (h : wpList P ops Q rest (a.put o.dst v') w') : wpList P ops Q (o :: rest) a w :=
  wpList_plain hgd fun K hK => by
    unfold Oper.wp execOp
    simp only [ho, resolve, invoke, builtin, Sem.run_bind, Sem.run_pure, Result.andThen_ok, List.map_toArray, List.map_cons, List.map_nil, hs, hx, hr]
    exact hK _ _ h

/-- A whole list behind one's own. -/
theorem append_items {w : World} {base g cap : Nat} {xs : List It} (hown : w.ownsRow base 32 2 (.slice (some ⟨g, 0, none⟩) xs.length cap) xs.length (flat xs)) {a : Option Addr} {ys : List It} (hi : IL w a ys) (ha : a = none → ys.length = 0) (c : Nat)
    (hroom : (xs.length + ys.length) * 16 ≤ 140737488355328) (hbase : base ≤ w.heap.size) (ty : TypeId) :
    ∃ v' w', (Builtin.append_ #[22, 22] ty #[.slice (some ⟨g, 0, none⟩) xs.length cap, .slice a ys.length c]).run Try.prog w = .ok v' w' ∧ w'.ownsRow base 32 2 v' (xs ++ ys).length (flat (xs ++ ys)) ∧ Keeps (fun k => k = g) w w' ∧ (v'.ownBlock = some g ∨ v'.ownBlock = some w.heap.size) := by
  obtain ⟨i0, hi0, hz0, hz1, hz2⟩ := info_parts itemInfo2
  cases a with
  | none =>
    have h0 := ha rfl
    have hy : ys = [] := List.eq_nil_of_length_eq_zero h0
    subst hy
    have hle : xs.length ≤ cap := by
      rcases hown.2 with ⟨h', _⟩ | ⟨g', cap', cur, h', _, _, hnc, _⟩
      · simp at h'
      · simp only [Value.slice.injEq] at h'; omega
    have := run_append_room_src (P := Try.prog) w 22 22 ty 32 i0 underItems2 hi0 g 0 xs.length cap (.slice none 0 c) 0 [] (by rw [hz1]; exact Src.ofNil w underItems2 c) (by omega) (fun j hj => by simp at hj) (fun j hj => by simp at hj)
    refine ⟨.slice (some ⟨g, 0, none⟩) xs.length cap, w, ?_, by simpa using hown, Keeps.refl _ _, .inl rfl⟩
    simpa [World.setCells] using this
  | some ad =>
    have hnews : ∀ j u, (flat ys)[j]? = some u → w.cell? (ad.add j) = some u := by
      rcases hi with h0 | ⟨b, off, e, _, hc⟩
      · intro j u hj
        have hy : ys = [] := List.eq_nil_of_length_eq_zero h0
        subst hy
        simp [flat] at hj
      · cases e; exact il_news hc
    obtain ⟨v', w', hr, ho, hg, _, hloc⟩ := run_append_own_at (P := Try.prog) w base 22 ty 32 i0 _ 2 16 underItems2 hi0 hz0 hz1 hz2 rfl (by decide) _ xs.length (flat xs) hown ad ys.length c (flat ys) (length_flat ys) hnews (flat_one ys) (by unfold maxLen; omega) hroom hbase
    refine ⟨v', w', hr, by rw [List.length_append, flat_append]; exact ho, (Keeps.refl _ w).grown hg (fun _ _ e => by cases e; rfl), hloc⟩

set_option maxHeartbeats 1600000 in
set_option maxRecDepth 1000000 in
/-- Two lists that are one. -/
theorem same_any {w : World} {a b : Option Addr} {xs : List It} (h : IL w a xs) (k : IL w b xs) (hl : xs.length ≤ 9223372036854775807) (c d : Nat) :
    Calls Try.prog 25 #[.slice a xs.length c, .slice b xs.length d] w fun e w' => e = .returned (.bool true) ∧ Keeps (fun _ => False) w w' := by
  have HI : Hid (IL w a xs) := h
  have HK : Hid (IL w b xs) := k
  clear h k
  have hne := itemNe
  go_enter Try.func25, Try.ntmps25
  go_wp2_with fail
  go_loopw [5] (fun iv wr => ∃ i : Nat, i ≤ xs.length ∧ iv = .int .i64 i ∧ Keeps (fun _ => False) w wr) (fun iv _ => xs.length - (intOf iv).toNat)
  case atStart => exact ⟨0, Nat.zero_le _, rfl, Keeps.refl _ _⟩
  case round =>
    obtain ⟨i, hi, rfl, k⟩ := hrel
    by_cases hlt : i < xs.length
    · obtain ⟨b1, o1, rfl, _, hc⟩ := HI.out.some (by omega)
      obtain ⟨b2, o2, rfl, _, hd⟩ := HK.out.some (by omega)
      have hiI : (i : Int) < (xs.length : Int) := by omega
      have c0 := k.cell (hc i hlt).1 (fun e => e)
      have c1 := k.cell (hc i hlt).2 (fun e => e)
      have d0 := k.cell (hd i hlt).1 (fun e => e)
      have d1 := k.cell (hd i hlt).2 (fun e => e)
      obtain ⟨x, hx⟩ : ∃ x, Hid (ia xs i = x) := ⟨_, rfl⟩
      rw [hx.out] at c0 c1 d0 d1
      clear hc hd
      go_wp2_with fail
      go_quiet (fail)
      go_wp2_with fail
      go_roundw
      case rel => exact ⟨i + 1, by omega, by go_num, k.drewN _⟩
      case measure => simp [intOf]; omega
    · have hiI : ¬ (i : Int) < (xs.length : Int) := by omega
      go_wp2
      go_ret
      exact ⟨rfl, k⟩

end Go.Proofs.Ytkebpelpjkgdkab
