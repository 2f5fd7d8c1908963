import Derived.Test.YtkebpelpjkgdkaaQueE
namespace Go.Proofs.Ytkebpelpjkgdkaa
open Go.RowKit Go.Maps

theorem wrap_i64 (n : Int) : I64 (wrap64 n) := by unfold I64 wrap64; omega
theorem wrap_ne {base : Int} {i j : Int} (h : i ≠ j) (h1 : -2 ≤ i ∧ i < 4096) (h2 : -2 ≤ j ∧ j < 4096) : wrap64 (base + i) ≠ wrap64 (base + j) := by
  unfold wrap64; omega

set_option maxHeartbeats 3200000 in
set_option maxRecDepth 1000000 in
theorem ordFull_walk (base step : Int) (_ : I64 base) (hs : I64 step) (w : World) : Calls Try.prog 6 #[.int .i64 base, .int .i64 step] w fun e w' => e = .returned (.bool true) ∧ Below w.heap.size w w' := by
  go_enter Try.func6, Try.ntmps6
  go_wp2_with fail
  refine (new_any w).mono ?_
  rintro e w1 ⟨rfl, h1, k1⟩
  have q1 := QN.made (Keeps.refl _ w) h1 k1
  clear h1 k1
  go_wp2_with fail
  go_loopw [6] (fun iv wr => ∃ (i : Nat) (xs : List It), i ≤ 4096 ∧ iv = .int .i64 i ∧ QN w wr w.heap.size xs ∧ xs.length = i ∧ (∀ k, k ∈ ids xs ↔ ∃ j : Nat, j < i ∧ k = wrap64 (base + j))) (fun iv _ => 4096 - (intOf iv).toNat)
  case atStart => exact ⟨0, [], by omega, rfl, q1, rfl, fun k => by simp [ids]⟩
  case round =>
    obtain ⟨i, xs, hi, rfl, q, hl, hm⟩ := hrel
    by_cases hlt : i < 4096
    · have hiI : (i : Int) < 4096 := by omega
      have HL : Hid (xs.length = i) := hl
      have HM : Hid (∀ k, k ∈ ids xs ↔ ∃ j : Nat, j < i ∧ k = wrap64 (base + j)) := hm
      clear hl hm
      go_wp2_with fail
      refine (nadd_new q (wrap64 (step * i), wrap64 (base + i)) ⟨wrap_i64 _, wrap_i64 _⟩ ?_ (by have := HL.out; omega)).mono ?_
      · intro hk
        obtain ⟨j, hj, e⟩ := (HM.out _).1 hk
        exact wrap_ne (base := base) (i := i) (j := j) (by omega) (by omega) (by omega) e
      rintro e w2 ⟨rfl, ys, q2, hp⟩
      go_wp2_with fail
      refine (num_any _ _).mono ?_
      rintro e w3 ⟨rfl, rfl⟩
      go_wp2_with fail
      go_roundw
      case rel =>
        refine ⟨i + 1, ys, by omega, by go_num, q2, by rw [hp.length_eq]; simp; exact HL.out, fun k => ?_⟩
        rw [(ids_perm hp).mem_iff]
        have e : ids (xs ++ [(wrap64 (step * i), wrap64 (base + i))]) = ids xs ++ [wrap64 (base + i)] := by simp [ids]
        rw [e, List.mem_append, HM.out k]
        constructor
        · rintro (⟨j, hj, rfl⟩ | h)
          · exact ⟨j, by omega, rfl⟩
          · simp at h; exact ⟨i, by omega, h⟩
        · rintro ⟨j, hj, rfl⟩
          by_cases e : j = i
          · right; simp [e]
          · left; exact ⟨j, by omega, rfl⟩
      case measure => simp [intOf]; omega
    · have hiI : ¬ (i : Int) < 4096 := by omega
      have he : i = 4096 := by omega
      subst he
      have HL : Hid (xs.length = 4096) := hl
      have HM : Hid (∀ k, k ∈ ids xs ↔ ∃ j : Nat, j < 4096 ∧ k = wrap64 (base + j)) := hm
      clear hl hm
      have hnin : ∀ d : Int, d = -1 ∨ d = -2 → wrap64 (base + d) ∉ ids xs := fun d hd hk => by
        obtain ⟨j, hj, e⟩ := (HM.out _).1 hk
        exact wrap_ne (base := base) (i := d) (j := j) (by omega) (by omega) (by omega) e
      have s1 : wrap64 (base - 1) = wrap64 (base + -1) := rfl
      have s2 : wrap64 (base - 2) = wrap64 (base + -2) := rfl
      have hne1 := hnin (-1) (.inl rfl)
      have hne2 := hnin (-2) (.inr rfl)
      clear hnin
      go_wp2_with fail
      refine (nadd_full q (step, wrap64 (base + -1)) ⟨hs, wrap_i64 _⟩ hne1 (by have := HL.out; omega)).mono ?_
      rintro e w2 ⟨rfl, q2⟩
      go_wp2_with fail
      refine (nadd_held q2 (step, wrap64 (base + 4095)) ⟨hs, wrap_i64 _⟩ ((HM.out _).2 ⟨4095, by omega, rfl⟩)).mono ?_
      rintro e w3 ⟨rfl, q3⟩
      go_wp2_with fail
      refine (nlen q3).mono ?_
      rintro e w3' ⟨rfl, rfl⟩
      rw [HL.out]
      go_wp2_with fail
      refine (num_any _ _).mono ?_
      rintro e w4 ⟨rfl, rfl⟩
      go_wp2_with fail
      refine (num_any _ _).mono ?_
      rintro e w4 ⟨rfl, rfl⟩
      go_wp2_with fail
      refine (ntake q3 (by have := HL.out; omega)).mono ?_
      rintro e w5 ⟨x, ys, rfl, ⟨F, q5, hF5, hk5⟩, hp5, hl5⟩
      obtain ⟨j, hj, hxj⟩ := (HM.out x.2).1 ((ids_perm hp5).mem_iff.1 (by simp [ids_cons]))
      have hsub : wrap64 (x.2 - base) = (j : Int) := by rw [hxj]; unfold I64 at *; unfold wrap64; omega
      have hj0 : (0 : Int) ≤ (j : Int) := by omega
      have hj1 : (j : Int) < 4096 := by omega
      have ly : ys.length + 1 = 4096 := by have := hp5.length_eq; have := HL.out; simp at *; omega
      have hidy : ∀ k, k ∉ ids xs → k ∉ ids ys := fun k hk hm => hk ((ids_perm hp5).mem_iff.1 (by rw [ids_cons]; exact List.mem_cons_of_mem _ hm))
      have LY : Hid (ys.length + 1 = 4096) := ly
      have HXJ : Hid (x.2 = wrap64 (base + j)) := hxj
      have K5 : Keeps (fun _ => False) w5 (w5.alloc (.cells #[.int .i64 x.1, .int .i64 x.2] 41)) := (Keeps.refl _ w5).alloc _
      have q6 := q5.keep K5 (fun _ _ e => e)
      have c6 : (w5.alloc (.cells #[.int .i64 x.1, .int .i64 x.2] 41)).cell? ⟨w5.heap.size, 1, none⟩ = some (.int .i64 x.2) := by simp
      have nB : w5.heap.size ∉ F := fun hm => by have := q5.lt _ hm; omega
      clear ly hxj
      go_wp2_with fail
      refine (add_new q6 (step, wrap64 (base + -1)) ⟨hs, wrap_i64 _⟩ (hidy _ hne1) (by have := LY.out; omega)).mono ?_
      rintro e w7 ⟨rfl, zs, F7, q7, hp7, l7⟩
      have c7 := l7.keeps.cell c6 nB
      have nB7 : w5.heap.size ∉ F7 := fun hm => (l7.old _ hm).elim nB (fun e => by simp at e; omega)
      go_wp2_with fail
      refine (add_full q7 (step, wrap64 (base + -2)) ⟨hs, wrap_i64 _⟩ ?_ (by rw [hp7.length_eq]; simp; have := LY.out; omega)).mono ?_
      · intro hm
        have := (ids_perm hp7).mem_iff.1 hm
        have e : ids (ys ++ [(step, wrap64 (base + -1))]) = ids ys ++ [wrap64 (base + -1)] := by simp [ids]
        rw [e, List.mem_append] at this
        rcases this with h | h
        · exact hidy _ hne2 h
        · simp at h
          exact wrap_ne (base := base) (i := -2) (j := -1) (by omega) (by omega) (by omega) h
      rintro e w8 ⟨rfl, q8, k8⟩
      have c8 := k8.cell c7 (fun e => e)
      have KB : Keeps (fun _ => False) w w8 := ((hk5.trans K5).trans' l7.keeps (fun _ _ e => e) (fun i hi e => by have := hF5 i e; omega)).trans k8
      go_wp2_with fail
      refine (num_any _ _).mono ?_
      rintro e w9 ⟨rfl, rfl⟩
      go_wp2_with fail
      refine (num_any _ _).mono ?_
      rintro e w9 ⟨rfl, rfl⟩
      go_wp2_with fail
      refine (num_any _ _).mono ?_
      rintro e w9 ⟨rfl, rfl⟩
      go_wp2
      go_ret
      exact ⟨rfl, KB.below (Nat.le_refl _) (fun _ _ e => e)⟩
end Go.Proofs.Ytkebpelpjkgdkaa
