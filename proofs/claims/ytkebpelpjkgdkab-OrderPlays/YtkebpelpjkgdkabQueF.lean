import Derived.Test.YtkebpelpjkgdkabQueE
import Derived.Test.YtkebpelpjkgdkabSortB
namespace Go.Proofs.Ytkebpelpjkgdkab
open Go.RowKit Go.Maps

set_option maxHeartbeats 1600000 in
set_option maxRecDepth 1000000 in
theorem place_any {w : World} {qb : Nat} {xs : List It} {F : List Nat} (h : QI w qb xs F) {k : Int} (hk : I64 k) :
    Calls Try.prog 29 #[.pointer (some ⟨qb, 0, none⟩), .int .i64 k] w fun e w' => ∃ c, e = .returned (.tuple #[.int .i64 c, .bool (decide (k ∈ ids xs))]) ∧ w' = w ∧ (k ∈ ids xs → ∃ p : Nat, c = p ∧ p < xs.length ∧ (ia xs p).2 = k) := by
  obtain ⟨mv, c, hc3, hlook, hpos⟩ := h.look hk
  have hpe : ∀ w : World, (binOp .eql 24 (.pointer (some ⟨qb, 0, none⟩)) (.pointer none)).run Try.prog w = .ok (.bool false) w := fun w => by kernel_rfl
  have HP : Hid (k ∈ ids xs → ∃ p : Nat, c = p ∧ p < xs.length ∧ (ia xs p).2 = k) := hpos
  obtain ⟨bb, hbb⟩ : ∃ bb, Hid (decide (k ∈ ids xs) = bb) := ⟨_, rfl⟩
  rw [hbb.out] at hlook ⊢
  clear hpos
  go_enter Try.func29, Try.ntmps29
  go_wp2
  go_ret2
  exact ⟨c, rfl, rfl, HP.out⟩

set_option maxHeartbeats 1600000 in
set_option maxRecDepth 1000000 in
/-- Key. -/
theorem key_any {w : World} {qb : Nat} {xs : List It} {F : List Nat} (h : QI w qb xs F) {k : Int} (hk : I64 k) :
    Calls Try.prog 10 #[.pointer (some ⟨qb, 0, none⟩), .int .i64 k] w fun e w' => w' = w ∧ ((k ∉ ids xs ∧ e = .returned (.tuple #[.int .i64 0, .int .i64 23])) ∨ ∃ x ∈ xs, x.2 = k ∧ e = .returned (.tuple #[.int .i64 x.1, .int .i64 0])) := by
  by_cases hin : k ∈ ids xs
  · have hd : decide (k ∈ ids xs) = true := by simp [hin]
    have hpl := place_any h hk
    rw [hd] at hpl
    rcases h with ⟨rfl, _, _⟩ | ⟨v, pm, mb, M, h, rfl⟩
    · cases hin
    · have HH : Hid (QReady w qb v pm mb M xs) := h
      go_enter Try.func10, Try.ntmps10
      go_wp2_with fail
      refine hpl.mono ?_
      rintro e w1 ⟨c, rfl, rfl, hpos⟩
      obtain ⟨p, rfl, hp, hpk⟩ := hpos hin
      obtain ⟨g, cap, rfl, hs⟩ := HH.out.hv.hs (by omega)
      have f0 := hs.f0
      have c0 := hs.c0 hp
      have hpI : (p : Int) < (xs.length : Int) := by omega
      obtain ⟨x, hx⟩ : ∃ x, Hid (ia xs p = x) := ⟨_, rfl⟩
      rw [hx.out] at c0
      have hxm : Hid (x ∈ xs ∧ x.2 = k) := by rw [← hx.out]; exact ⟨ia_mem hp, hpk⟩
      clear hpk hs hpl h hin hd
      go_wp2
      go_ret2
      exact ⟨rfl, .inr ⟨x, hxm.out.1, hxm.out.2, rfl⟩⟩
  · have hd : decide (k ∈ ids xs) = false := by simp [hin]
    have hpl := place_any h hk
    rw [hd] at hpl
    have HI : Hid (k ∉ ids xs) := hin
    clear hin hd
    go_enter Try.func10, Try.ntmps10
    go_wp2_with fail
    refine hpl.mono ?_
    rintro e w1 ⟨c, rfl, rfl, _⟩
    go_wp2
    go_ret2
    exact ⟨rfl, .inl ⟨HI.out, rfl⟩⟩

theorem ids_set {xs : List It} {p : Nat} (hp : p < xs.length) (x : It) (hx : (ia xs p).2 = x.2) : ids (xs.set p x) = ids xs := by
  unfold ids
  rw [List.map_set]
  have : x.2 = (xs.map (·.2))[p]'(by simpa using hp) := by rw [List.getElem_map, ← ia_get hp, hx]
  rw [this]
  exact List.set_getElem_self _

set_option maxHeartbeats 1600000 in
set_option maxRecDepth 1000000 in
/-- Change. -/
theorem qchange_any {w : World} {qb : Nat} {xs : List It} {F : List Nat} (h : QI w qb xs F) {k key : Int} (hk : I64 k) (hkey : I64 key) :
    Calls Try.prog 11 #[.pointer (some ⟨qb, 0, none⟩), .int .i64 k, .int .i64 key] w fun e w' => (k ∉ ids xs ∧ e = .returned (.int .i64 23) ∧ w' = w) ∨
      (∃ p, p < xs.length ∧ (ia xs p).2 = k ∧ e = .returned (.int .i64 0) ∧ ∃ ys, QI w' qb ys F ∧ ys.Perm (xs.set p (key, k)) ∧ Left w w' F F) := by
  by_cases hin : k ∈ ids xs
  · have hd : decide (k ∈ ids xs) = true := by simp [hin]
    have hpl := place_any h hk
    rw [hd] at hpl
    rcases h with ⟨rfl, _, _⟩ | ⟨v, pm, mb, M, h, rfl⟩
    · cases hin
    · have HH : Hid (QReady w qb v pm mb M xs) := h
      go_enter Try.func11, Try.ntmps11
      go_wp2_with fail
      refine hpl.mono ?_
      rintro e w1 ⟨c, rfl, rfl, hpos⟩
      obtain ⟨p, rfl, hp, hpk⟩ := hpos hin
      obtain ⟨g, cap, rfl, hs⟩ := HH.out.hv.hs (by omega)
      have hM : M k ≠ none := by rw [← hpk]; exact HH.out.full _ (ia_mem hp)
      have HPK : Hid ((ia xs p).2 = k) := hpk
      clear hpk hpl h hd hin
      go_wp2_with fail
      refine (Q.change_any hs hp HH.out.full HH.out.heap (key, k) ⟨hkey, hk⟩ hM).mono ?_
      rintro e w2 ⟨rfl, ys, N, h2, k2, m2, hh⟩
      go_wp2
      go_ret
      have hq := HH.out
      have hids : ids (xs.set p (key, k)) = ids xs := ids_set hp (key, k) HPK.out
      have hly : ys.length = xs.length := by have := m2.length; simpa using this
      have nq : ¬ Q.Tch g mb qb := fun e => e.elim (fun e => hs.gh e.symm) (fun e => hs.mg.2.1 e.symm)
      have hpl2 : Placed (M.put k p) (xs.set p (key, k)) := fun j hj => by
        rw [List.length_set] at hj
        by_cases e : p = j
        · subst e; rw [ia_set _ hp]; simp [Mp.put]
        · rw [ia_set_ne _ e]
          have e2 : (ia xs j).2 ≠ k := by rw [← HPK.out]; exact ids_ne hq.nodup hj hp (Ne.symm e)
          simp only [Mp.put, if_neg e2]; exact hq.placed j hj
      have hv2 := h2.hv
      rw [← hly] at hv2
      have hq2 : QReady w2 qb (.slice (some ⟨g, 0, none⟩) ys.length cap) pm mb N ys := by
        refine ⟨hv2, k2.cell hq.f3 nq, m2.2.1 (by rw [hids]; exact hq.nodup) hpl2, fun k' hk' => ?_, (ids_perm m2.1).nodup_iff.2 (by rw [hids]; exact hq.nodup), hh, by have := hq.le; omega⟩
        by_cases hm : k' ∈ ids (xs.set p (key, k))
        · exact (ids_perm m2.1).mem_iff.2 hm
        · rw [m2.2.2.1 k' hm] at hk'
          have e2 : k' ≠ k := fun e => hm (by rw [hids, e, ← HPK.out]; exact mem_ids hp)
          simp only [Mp.put, if_neg e2] at hk'
          rw [hids] at hm
          exact absurd (hq.only k' hk') hm
      refine .inr ⟨p, hp, HPK.out, rfl, ys, .inr ⟨_, pm, mb, N, hq2, rfl⟩, m2.1, k2.mono (fun i _ e => ?_), fun _ h => .inl h⟩
      rcases e with e | e
      · simp [e, Value.ownBlock]
      · simp [e]
  · have hd : decide (k ∈ ids xs) = false := by simp [hin]
    have hpl := place_any h hk
    rw [hd] at hpl
    have HI : Hid (k ∉ ids xs) := hin
    clear hin hd
    go_enter Try.func11, Try.ntmps11
    go_wp2_with fail
    refine hpl.mono ?_
    rintro e w1 ⟨c, rfl, rfl, _⟩
    go_wp2
    go_ret
    exact .inl ⟨HI.out, rfl, rfl⟩

set_option maxHeartbeats 1600000 in
set_option maxRecDepth 1000000 in
/-- Drop. -/
theorem drop_any {w : World} {qb : Nat} {xs : List It} {F : List Nat} (h : QI w qb xs F) {k : Int} (hk : I64 k) :
    Calls Try.prog 12 #[.pointer (some ⟨qb, 0, none⟩), .int .i64 k] w fun e w' => (k ∉ ids xs ∧ e = .returned (.int .i64 23) ∧ w' = w) ∨
      (∃ x, x ∈ xs ∧ x.2 = k ∧ e = .returned (.int .i64 0) ∧ ∃ ys, QI w' qb ys F ∧ (x :: ys).Perm xs ∧ Left w w' F F) := by
  by_cases hin : k ∈ ids xs
  · have hd : decide (k ∈ ids xs) = true := by simp [hin]
    have hpl := place_any h hk
    rw [hd] at hpl
    rcases h with ⟨rfl, _, _⟩ | ⟨v, pm, mb, M, h, rfl⟩
    · cases hin
    · have HH : Hid (QReady w qb v pm mb M xs) := h
      go_enter Try.func12, Try.ntmps12
      go_wp2_with fail
      refine hpl.mono ?_
      rintro e w1 ⟨c, rfl, rfl, hpos⟩
      obtain ⟨p, rfl, hp, hpk⟩ := hpos hin
      have HPK : Hid ((ia xs p).2 = k) := hpk
      clear hpk hpl h hd hin
      go_wp2_with fail
      refine (qcut_any HH.out hp).mono ?_
      rintro e w2 ⟨rfl, v2, M2, ys, hq2, hv2, hp2, k2⟩
      go_wp2
      go_ret
      refine .inr ⟨ia xs p, ia_mem hp, HPK.out, rfl, ys, .inr ⟨v2, pm, mb, M2, hq2, by rw [hv2]⟩, hp2, k2.mono (fun i _ e => ?_), fun _ h => .inl h⟩
      rcases e with e | e | e
      · simp [e]
      · simp [e]
      · simp [e]
  · have hd : decide (k ∈ ids xs) = false := by simp [hin]
    have hpl := place_any h hk
    rw [hd] at hpl
    have HI : Hid (k ∉ ids xs) := hin
    clear hin hd
    go_enter Try.func12, Try.ntmps12
    go_wp2_with fail
    refine hpl.mono ?_
    rintro e w1 ⟨c, rfl, rfl, _⟩
    go_wp2
    go_ret
    exact .inl ⟨HI.out, rfl, rfl⟩

/-- The items of a queue, as a list in memory. -/
theorem QI.il {w : World} {qb : Nat} {xs : List It} {F : List Nat} (h : QI w qb xs F) : ∃ a cap, w.cell? ⟨qb, 0, none⟩ = some (.slice a xs.length cap) ∧ IL w a xs := by
  rcases h with ⟨rfl, h, _⟩ | ⟨v, pm, mb, M, h, _⟩
  · exact ⟨_, _, h.c0, .inl rfl⟩
  · obtain ⟨a, cap, rfl, hil, _⟩ := owns_il h.hv.row rfl
    exact ⟨a, cap, h.hv.f0, hil⟩

set_option maxHeartbeats 1600000 in
set_option maxRecDepth 1000000 in
/-- Items. -/
theorem items_any {w : World} {qb : Nat} {xs : List It} {F : List Nat} (h : QI w qb xs F) :
    Calls Try.prog 17 #[.pointer (some ⟨qb, 0, none⟩)] w fun e w' => ∃ v, e = .returned v ∧ w'.ownsRow w.heap.size 32 2 v (srt xs).length (flat (srt xs)) ∧ Keeps (fun _ => False) w w' := by
  obtain ⟨a, cap, c0, hil⟩ := h.il
  have hle := h.le
  have hst := sort_any hil (by omega) h.num cap
  have hpe : ∀ w : World, (binOp .eql 24 (.pointer (some ⟨qb, 0, none⟩)) (.pointer none)).run Try.prog w = .ok (.bool false) w := fun w => by kernel_rfl
  go_enter Try.func17, Try.ntmps17
  go_wp2_with fail
  refine hst.mono ?_
  rintro e w1 ⟨v, rfl, ho, k⟩
  go_wp2
  go_ret
  exact ⟨_, rfl, ho, k⟩

set_option maxHeartbeats 1600000 in
set_option maxRecDepth 1000000 in
/-- Least. -/
theorem least_any {w : World} {qb : Nat} {xs : List It} {F : List Nat} (h : QI w qb xs F) :
    Calls Try.prog 19 #[.pointer (some ⟨qb, 0, none⟩)] w fun e w' => Keeps (fun _ => False) w w' ∧
      ((xs = [] ∧ e = .returned (.tuple #[.agg #[.int .i64 0, .int .i64 0], .int .i64 20])) ∨
       (∃ x ∈ xs, (∀ y ∈ xs, bef y x = false) ∧ e = .returned (.tuple #[.agg #[.int .i64 x.1, .int .i64 x.2], .int .i64 0]))) := by
  have K0 : Keeps (fun _ => False) w (w.alloc (.cells #[.int .i64 0, .int .i64 0] 32)) := (Keeps.refl _ w).alloc _
  have h0 := h.keep K0 (fun _ _ e => e)
  by_cases hn : xs.length = 0
  · have hnil : Hid (xs = []) := List.eq_nil_of_length_eq_zero hn
    have hnI : ((xs.length : Int) == 0) = true := by simp [hn]
    go_enter Try.func19, Try.ntmps19
    go_wp2_with fail
    refine (len_any h0).mono ?_
    rintro e w' ⟨rfl, rfl⟩
    have hn' : Hid (xs.length = 0) := hn
    clear hn
    go_wp2_with fail
    (try simp only [Exit.inBlock, Exit.then])
    refine bodyPost_ret (v := .tuple #[.agg #[.int .i64 0, .int .i64 0], .int .i64 20]) ?_ rfl ⟨K0, .inl ⟨hnil.out, rfl⟩⟩
    rw [results_cell_tmp rfl]
    go_simp
  · have hnI : ((xs.length : Int) == 0) = false := by rw [beq_eq_false_iff_ne]; omega
    have hq : ∃ v pm mb M, QReady (w.alloc (.cells #[.int .i64 0, .int .i64 0] 32)) qb v pm mb M xs ∧ F = qb :: pm :: mb :: v.ownBlock.toList := by
      rcases h0 with ⟨e, _⟩ | h0
      · rw [e] at hn; simp at hn
      · exact h0
    obtain ⟨v, pm, mb, M, hq, eF⟩ := hq
    obtain ⟨g, cap, rfl, hs⟩ := hq.hv.hs (by omega)
    have f0 := hs.f0
    have t0 := hs.c0 (i := 0) (by omega)
    have t1 := hs.c1 (i := 0) (by omega)
    simp only [Nat.zero_mul, Nat.zero_add] at t0 t1
    have hleast : ∀ y ∈ xs, bef y (ia xs 0) = false := fun y hy => by
      obtain ⟨i, hi, rfl⟩ := List.getElem_of_mem hy
      have := hq.heap.top bef_lin i hi
      rw [ia_get hi] at this; exact this
    have hmem : ia xs 0 ∈ xs := ia_mem (by omega)
    have k0I : (0 : Int) < (xs.length : Int) := by omega
    obtain ⟨x, hx⟩ : ∃ x, ia xs 0 = x := ⟨_, rfl⟩
    rw [hx] at t0 t1 hleast hmem
    clear hx
    have HL : Hid (x ∈ xs ∧ ∀ y ∈ xs, bef y x = false) := ⟨hmem, hleast⟩
    clear hleast hmem
    go_enter Try.func19, Try.ntmps19
    go_wp2_with fail
    refine (len_any h0).mono ?_
    rintro e w' ⟨rfl, rfl⟩
    go_wp2_with fail
    (try simp only [Exit.inBlock, Exit.then])
    refine bodyPost_ret (v := .tuple #[.agg #[.int .i64 x.1, .int .i64 x.2], .int .i64 0]) ?_ rfl ⟨?_, .inr ⟨x, HL.out.1, HL.out.2, rfl⟩⟩
    · rw [results_cell_tmp rfl]
      go_simp
    · first | exact (Keeps.refl _ w).alloc _ | exact Keeps.setCell (Keeps.setCell K0 (fun e => by simp at e) _) (fun e => by simp at e) _

end Go.Proofs.Ytkebpelpjkgdkab
