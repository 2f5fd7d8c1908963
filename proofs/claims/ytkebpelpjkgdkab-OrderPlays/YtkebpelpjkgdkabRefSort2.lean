import Derived.Test.YtkebpelpjkgdkabRefSort
namespace Go.Proofs.Ytkebpelpjkgdkab
open Go.RowKit Go.Maps

theorem IL.drop {w : World} {b off : Nat} {xs : List It} (h : IL w (Option.some ⟨b, off, none⟩) xs) (m : Nat) : IL w (Option.some ⟨b, off + m * 2, none⟩) (xs.drop m) := by
  rcases h with h | ⟨b', off', e, hb, hc⟩
  · exact .inl (by rw [List.length_drop]; omega)
  · cases e
    refine .inr ⟨b, off + m * 2, rfl, hb, fun i hi => ?_⟩
    rw [List.length_drop] at hi
    have e1 : ia (xs.drop m) i = ia xs (m + i) := by simp [ia, List.getD_eq_getElem?_getD]
    have := hc (m + i) (by omega)
    rw [e1, show off + m * 2 + i * 2 = off + (m + i) * 2 by omega]
    exact this

theorem owns_mono2 {w : World} {base base' : Nat} {e : TypeId} {size : Nat} {v : Value} {n : Nat} {xs : List Value} (h : w.ownsRow base e size v n xs) (hb : base' ≤ base) : w.ownsRow base' e size v n xs := by
  refine ⟨h.1, ?_⟩
  rcases h.2 with h0 | ⟨g, cap, cur, rfl, hg, rest⟩
  · exact .inl h0
  · exact .inr ⟨g, cap, cur, rfl, Nat.le_trans hb hg, rest⟩
theorem sd_short {xs : List It} (h : xs.length < 2) : Sd xs := by
  match xs, h with
  | [], _ => exact List.Pairwise.nil
  | [x], _ => exact List.pairwise_singleton _ _
theorem flat_self (xs : List It) (h : xs.length < 2) : xs = srt xs := srt_eq (sd_short h) (List.Perm.refl _)

set_option maxHeartbeats 6400000 in
set_option maxRecDepth 1000000 in
theorem rsort_any : ∀ (n : Nat) {w : World} {a : Option Addr} {items : List It} (c : Nat), items.length = n → IL w a items → items.length ≤ c → items.length * 16 ≤ 140737488355328 →
    Calls Try.prog 60 #[.slice a items.length c] w fun e w' => ∃ v, e = .returned v ∧ w'.ownsRow w.heap.size 32 2 v (srt items).length (flat (srt items)) ∧ Keeps (fun _ => False) w w' := by
  intro n
  induction n using Nat.strongRecOn with
  | ind n ih =>
    intro w a items c hn hi hc hl
    have HI : Hid (IL w a items) := hi
    have IH : Hid (∀ m, m < n → ∀ {w : World} {a : Option Addr} {items : List It} (c : Nat), items.length = m → IL w a items → items.length ≤ c → items.length * 16 ≤ 140737488355328 → Calls Try.prog 60 #[.slice a items.length c] w fun e w' => ∃ v, e = .returned v ∧ w'.ownsRow w.heap.size 32 2 v (srt items).length (flat (srt items)) ∧ Keeps (fun _ => False) w w') := ih
    have HN : Hid (items.length = n) := hn
    clear hi ih hn
    obtain ⟨i0, hi0, hz0, hz1, hz2⟩ := info_parts itemInfo2
    by_cases hs : items.length < 2
    · have hsI : (items.length : Int) < 2 := by omega
      go_enter Try.func60, Try.ntmps60
      go_wp2_with fail
      go_loopw [3, 4] (fun lv iv wr => ∃ i : Nat, i ≤ items.length ∧ iv = .int .i64 i ∧ wr.ownsRow w.heap.size 32 2 lv (items.take i).length (flat (items.take i)) ∧ Keeps (fun _ => False) w wr) (fun _ iv _ => items.length - (intOf iv).toNat)
      case atStart => exact ⟨0, Nat.zero_le _, rfl, World.ownsRow_nil _ _ _ _, Keeps.refl _ _⟩
      case round =>
        obtain ⟨i, hil, rfl, ho, hk⟩ := hrel
        by_cases hlt : i < items.length
        · obtain ⟨b, off, rfl, _, hcc⟩ := HI.out.some (by omega)
          have hiI : (i : Int) < (items.length : Int) := by omega
          have c0 := hk.cell (hcc i hlt).1 (fun e => e)
          have c1 := hk.cell (hcc i hlt).2 (fun e => e)
          have HT : Hid (items.take (i + 1) = items.take i ++ [ia items i]) := by
            show _ = _
            rw [← List.take_append_getElem hlt, ia_get hlt]
          obtain ⟨x, hx⟩ : ∃ x, Hid (ia items i = x) := ⟨_, rfl⟩
          rw [hx.out] at c0 c1
          obtain ⟨o, hoo⟩ : ∃ o, Hid (items.take i = o) := ⟨_, rfl⟩
          rw [hoo.out] at ho
          have hol : o.length ≤ 2 := by rw [← hoo.out, List.length_take]; omega
          have HO : Hid (wr.ownsRow w.heap.size 32 2 u3 o.length (flat o)) := ho
          have hob : ∀ g, u3.ownBlock = some g → w.heap.size ≤ g := fun g hg => owns_base2 ho g hg
          have h63 : o.length + 1 ≤ maxLen := by unfold maxLen; omega
          have hb16 : (o.length + 1) * 16 ≤ 140737488355328 := by omega
          have hszr := hk.size
          clear hcc ho
          go_wp2_with ((at_builtin; refine wpList_append_lies _ rfl _ _ _ rfl w.heap.size 32 i0 _ 2 16 underItems2 hi0 hz0 hz1 hz2 rfl (by decide) u3 o.length (flat o) rfl (HO.out.alloc _) ⟨wr.heap.size, 0, none⟩ 1 1 [.int .i64 x.1, .int .i64 x.2] rfl rfl (World.news_of_block (cs := #[.int .i64 x.1, .int .i64 x.2]) (t := 32) (fr := (0, 0)) (heap_alloc_new wr _)) (by simp [Value.oneCell']) (by omega) h63 hb16 (by simp; omega) _ rfl ?_))
          intro g cg w4 hown4 hgrow hat hlt4
          have K4 : Keeps (fun _ => False) w w4 := (hk.alloc _).grown hgrow (fun i hi e => by have := hob i e; omega)
          go_wp2_with fail
          go_roundw
          case rel => exact ⟨i + 1, by omega, by go_num, by rw [HT.out, hx.out, hoo.out, List.length_append, flat_append]; exact hown4, K4⟩
          case measure => simp [intOf]; omega
        · have hiI : ¬ (i : Int) < (items.length : Int) := by omega
          have hfin : items.take i = items := List.take_of_length_le (by omega)
          rw [hfin] at ho
          go_wp2
          go_ret
          exact ⟨_, rfl, by rw [← flat_self items hs]; exact ho, hk⟩
    · have hsI : ¬ (items.length : Int) < 2 := by omega
      obtain ⟨b, off, rfl, _, _⟩ := HI.out.some (by omega)
      obtain ⟨m, hm⟩ : ∃ m : Nat, Hid (items.length / 2 = m) := ⟨_, rfl⟩
      have hmI : (items.length : Int) / 2 = (m : Int) := by have := hm.out; omega
      have hml : m < items.length := by have := hm.out; omega
      have hm0 : 0 < m := by have := hm.out; omega
      have hmc : (m : Int) ≤ (c : Int) := by omega
      have hmL : (m : Int) ≤ (items.length : Int) := by omega
      have hlc : (items.length : Int) ≤ (c : Int) := by omega
      have e1 : (items.take m).length = m := by rw [List.length_take]; omega
      have e2 : (items.drop m).length = items.length - m := List.length_drop ..
      have r1 := IH.out m (by have := HN.out; omega) (w := w) (a := some ⟨b, off, none⟩) (items := items.take m) c e1 HI.out.take (by omega) (by omega)
      rw [e1] at r1
      have r2 : ∀ w', Keeps (fun _ => False) w w' → Calls Try.prog 60 #[.slice (some ⟨b, off + m * 2, none⟩) (items.length - m) (c - m)] w' fun e w'' => ∃ v, e = .returned v ∧ w''.ownsRow w'.heap.size 32 2 v (srt (items.drop m)).length (flat (srt (items.drop m))) ∧ Keeps (fun _ => False) w' w'' := fun w' hk => by
        have := IH.out (items.length - m) (by have := HN.out; omega) (w := w') (a := some ⟨b, off + m * 2, none⟩) (items := items.drop m) (c - m) e2 ((HI.out.new hk).drop m) (by omega) (by omega)
        rw [e2] at this
        exact this
      have R1 : Hid (Calls Try.prog 60 #[.slice (some ⟨b, off, none⟩) m c] w fun e w' => ∃ v, e = .returned v ∧ w'.ownsRow w.heap.size 32 2 v (srt (items.take m)).length (flat (srt (items.take m))) ∧ Keeps (fun _ => False) w w') := r1
      have R2 : Hid (∀ w', Keeps (fun _ => False) w w' → Calls Try.prog 60 #[.slice (some ⟨b, off + m * 2, none⟩) (items.length - m) (c - m)] w' fun e w'' => ∃ v, e = .returned v ∧ w''.ownsRow w'.heap.size 32 2 v (srt (items.drop m)).length (flat (srt (items.drop m))) ∧ Keeps (fun _ => False) w' w'') := r2
      clear r1 r2 e1 e2
      go_enter Try.func60, Try.ntmps60
      go_wp2_with fail
      refine R1.out.mono ?_
      rintro e w1 ⟨v1, rfl, o1, k1⟩
      go_wp2_with fail
      refine (R2.out w1 k1).mono ?_
      rintro e w2 ⟨v2, rfl, o2, k2⟩
      have o1' := k2.owns o1 (fun _ _ e => e)
      obtain ⟨a1, c1, rfl, il1, _⟩ := owns_il o1' rfl
      obtain ⟨a2, c2, rfl, il2, _⟩ := owns_il o2 rfl
      have hmg := merge_any il1 il2 (srt_sd _) (srt_sd _) (by rw [srt_length, srt_length, List.length_take, List.length_drop]; omega) c1 c2
      have hsame : srt (srt (items.take m) ++ srt (items.drop m)) = srt items := srt_congr (((srt_perm _).append (srt_perm _)).trans (by rw [List.take_append_drop]))
      rw [hsame] at hmg
      go_wp2_with fail
      refine hmg.mono ?_
      rintro e w3 ⟨v3, rfl, o3, k3⟩
      go_wp2
      go_ret
      exact ⟨_, rfl, owns_mono2 o3 (k1.trans k2).size, (k1.trans k2).trans k3⟩


end Go.Proofs.Ytkebpelpjkgdkab
