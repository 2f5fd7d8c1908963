import Derived.Test.YtkebpelpjkgdkaaLoad
namespace Go.Proofs.Ytkebpelpjkgdkaa
open Go.RowKit Go.Maps

theorem owns_mono {w : World} {base base' : Nat} {e : TypeId} {size : Nat} {v : Value} {n : Nat} {xs : List Value} (h : w.ownsRow base e size v n xs) (hb : base' ≤ base) : w.ownsRow base' e size v n xs := by
  refine ⟨h.1, ?_⟩
  rcases h.2 with h0 | ⟨g, cap, cur, rfl, hg, rest⟩
  · exact .inl h0
  · exact .inr ⟨g, cap, cur, rfl, Nat.le_trans hb hg, rest⟩
theorem nodup_of_ids : ∀ {xs : List It}, (ids xs).Nodup → xs.Nodup
  | [], _ => List.nodup_nil
  | x :: xs, h => by
    rw [ids_cons, List.nodup_cons] at h
    exact List.nodup_cons.2 ⟨fun hm => h.1 (List.mem_map.2 ⟨x, hm, rfl⟩), nodup_of_ids h.2⟩
theorem cnt_one : ∀ {xs : List It} {x : It}, xs.Nodup → x ∈ xs → cnt xs x = 1
  | y :: ys, x, hn, hm => by
    rw [List.nodup_cons] at hn
    have e0 : ∀ (zs : List It), x ∉ zs → cnt zs x = 0 := fun zs hz => by
      unfold cnt; rw [List.length_eq_zero_iff, List.filter_eq_nil_iff]; intro a ha h; simp at h; exact hz (h ▸ ha)
    by_cases e : y = x
    · subst e
      have := e0 ys hn.1
      unfold cnt at *
      simp [this]
    · have hm' : x ∈ ys := by simpa [Ne.symm e] using hm
      have := cnt_one hn.2 hm'
      unfold cnt at *
      simp [e, this]
theorem rise_snoc {out : List It} {x : It} (h : Rise true out) (hx : ∀ o ∈ out, bef x o = false ∧ x ≠ o) : Rise true (out ++ [x]) := by
  intro i h0 h1
  simp at h1
  have E : ∀ k, k < out.length → ia (out ++ [x]) k = ia out k := fun k hk => by
    simp only [ia, List.getD_eq_getElem?_getD]; rw [List.getElem?_append_left hk]
  by_cases e : i = out.length
  · have e1 : ia (out ++ [x]) i = x := by rw [e]; simp [ia]
    rw [e1, E (i - 1) (by omega)]
    have := hx _ (ia_mem (xs := out) (i := i - 1) (by omega))
    exact ⟨this.1, fun _ => this.2⟩
  · rw [E i (by omega), E (i - 1) (by omega)]; exact h i h0 (by omega)

set_option maxHeartbeats 6400000 in
set_option maxRecDepth 1000000 in
theorem ordDrains_walk {w : World} {a : Option Addr} {items : List It} (hi : IL w a items) (hl : items.length * 16 ≤ 140737488351232) (hnum : ∀ x ∈ items, I64 x.1 ∧ I64 x.2) (cap : Nat) :
    Calls Try.prog 8 #[.slice a items.length cap] w fun e w' => e = .returned (.bool true) ∧ Below w.heap.size w w' := by
  obtain ⟨i0, hi0, hz0, hz1, hz2⟩ := info_parts Q.itemInfo
  have heq := itemEq
  go_enter Try.func8, Try.ntmps8
  go_wp2_with fail
  refine (head_any w).mono ?_
  rintro e w1 ⟨rfl, k1⟩
  go_wp2_with fail
  refine (new_any w1).mono ?_
  rintro e w2 ⟨rfl, q2, k2⟩
  have kk := k1.trans k2
  have hnF : items.length = 0 ∨ ∀ b off, a = some ⟨b, off, none⟩ → b ∉ [w1.heap.size] := by
    rcases hi with h | ⟨b', off', rfl, hb, _⟩
    · exact .inl h
    · exact .inr (fun b off e => by cases e; simp; have := k1.size; omega)
  go_wp2_with fail
  refine (load_any q2 (hi.new kk) hnF (by omega) hnum cap).mono ?_
  rintro e w3 ⟨v, rfl, hown, xs, F, q3, hperm, hleft, hg⟩
  have hnd : (ids (hold items)).Nodup := (ids_perm hperm).nodup_iff.1 q3.nodup
  have hH : (hold items).length ≤ 4096 := hold_le _
  obtain ⟨L, hL⟩ : ∃ L, Hid (hold items = L) := ⟨_, rfl⟩
  rw [hL.out] at hown hperm hnd hH
  obtain ⟨av, cv, rfl, _, _⟩ := owns_il hown rfl
  have hB : ∀ k ∈ F, w.heap.size ≤ k := fun k hk => (hleft.old k hk).elim (fun e => by simp at e; have := k1.size; omega) (fun e => by have := kk.size; omega)
  have K3 : Keeps (fun _ => False) w w3 := kk.trans' hleft.keeps (fun _ _ e => e) (fun i hi e => by simp at e; have := k1.size; omega)
  have hbase : w.heap.size ≤ w2.heap.size := kk.size
  have hown' := owns_mono hown hbase
  clear hown hleft q2 k2 kk k1 hi hnF
  go_wp2_with fail
  go_loopw [6, 7] (fun ov iv wr => ∃ (out ys : List It) (Fr : List Nat), iv = .int .i64 out.length ∧ out.length ≤ L.length ∧ wr.ownsRow w.heap.size 41 2 ov out.length (flat out) ∧ wr.ownsRow w.heap.size 41 2 (.slice av L.length cv) L.length (flat L) ∧ QI wr w1.heap.size ys Fr ∧ (out ++ ys).Perm L ∧ Rise true out ∧ (∀ o ∈ out, ∀ y ∈ ys, bef y o = false ∧ y ≠ o) ∧ Keeps (fun _ => False) w wr ∧ (∀ k ∈ Fr, w.heap.size ≤ k) ∧ (∀ g, ov.ownBlock = some g → g ∉ Fr ∧ (Value.slice av L.length cv).ownBlock ≠ some g) ∧ (∀ g, (Value.slice av L.length cv).ownBlock = some g → g ∉ Fr)) (fun _ iv _ => L.length - (intOf iv).toNat)
  case atStart => exact ⟨[], xs, F, rfl, Nat.zero_le _, World.ownsRow_nil _ _ _ _, hown', q3, by simpa using hperm, (fun i h0 h1 => by simp at h1), (fun o ho => by cases ho), K3, hB, (fun g hg => by cases hg), hg⟩
  case round =>
    obtain ⟨out, ys, Fr, rfl, hol, ho, hh, hq, hp, hri, hlow, hk, hFr, hgo, hgh⟩ := hrel
    have hlp : Hid (out.length + ys.length = L.length) := by have := hp.length_eq; simp at this; exact this
    by_cases hlt : out.length < L.length
    · have hiI : (out.length : Int) < (L.length : Int) := by omega
      have hnodup : Hid ((out ++ ys).Nodup) := hp.nodup_iff.2 (nodup_of_ids hnd)
      go_wp2_with fail
      refine (take_some hq (by have := hlp.out; omega)).mono ?_
      rintro e w4 ⟨x, zs, F4, rfl, q4, hp4, hl4, l4⟩
      have ho4 := l4.keeps.owns ho (fun g hg' => (hgo g hg').1)
      have hh4 := l4.keeps.owns hh (fun g hg' => hgh g hg')
      have hk4 : Keeps (fun _ => False) w w4 := hk.trans' l4.keeps (fun _ _ e => e) (fun i hi e => by have := hFr i e; omega)
      have hF4 : ∀ k ∈ F4, w.heap.size ≤ k := fun k hk' => (l4.old k hk').elim (hFr k) (fun e => by have := hk.size; omega)
      have hgo4 : ∀ g, u6.ownBlock = some g → g ∉ F4 := fun g hg' hm => (l4.old g hm).elim (hgo g hg').1 (fun e => by have := owns_lt' ho g hg'; omega)
      have hgh4 : ∀ g, (Value.slice av L.length cv).ownBlock = some g → g ∉ F4 := fun g hg' hm => (l4.old g hm).elim (hgh g hg') (fun e => by have := owns_lt' hh g hg'; omega)
      have hxy : x ∈ ys := hp4.mem_iff.1 (by simp)
      have hxL : x ∈ L := hp.mem_iff.1 (by simp [hxy])
      have hcnt : cnt L x = 1 := cnt_one (nodup_of_ids hnd) hxL
      obtain ⟨w5, hw5⟩ : ∃ w5, w5 = w4.alloc (.cells #[.int .i64 x.1, .int .i64 x.2] 41) := ⟨_, rfl⟩
      have K5 : Keeps (fun _ => False) w4 w5 := by rw [hw5]; exact (Keeps.refl _ w4).alloc _
      have b0 : w5.cell? ⟨w4.heap.size, 0, none⟩ = some (.int .i64 x.1) := by rw [hw5]; simp
      have b1 : w5.cell? ⟨w4.heap.size, 1, none⟩ = some (.int .i64 x.2) := by rw [hw5]; simp
      have ho5 := K5.owns ho4 (fun _ _ e => e)
      have hh5 := K5.owns hh4 (fun _ _ e => e)
      have q5 := q4.keep K5 (fun _ _ e => e)
      have hov4 : ∀ g, u6.ownBlock = some g → g < w4.heap.size := fun g hg' => owns_lt' ho4 g hg'
      have HO : Hid (w5.ownsRow w.heap.size 41 2 u6 out.length (flat out)) := ho5
      have hob : ∀ g, u6.ownBlock = some g → w.heap.size ≤ g := fun g hg' => owns_base' ho5 g hg'
      have h63 : out.length + 1 ≤ maxLen := by unfold maxLen; omega
      have hb16 : (out.length + 1) * 16 ≤ 140737488355328 := by omega
      have hsz5 : w.heap.size ≤ w5.heap.size := (hk4.trans K5).size
      clear ho ho4 ho5 hh hh4 hq q4
      go_wp2_with fail
      rw [← hw5]
      clear hw5
      refine (num_any _ _).mono ?_
      rintro e w5' ⟨rfl, rfl⟩
      go_wp2_with (first | (at_builtin; refine wpList_append_lies _ rfl _ _ _ rfl w.heap.size 41 i0 _ 2 16 Q.underItems hi0 hz0 hz1 hz2 rfl (by decide) u6 out.length (flat out) rfl (HO.out.alloc _) ⟨w5'.heap.size, 0, none⟩ 1 1 [.int .i64 x.1, .int .i64 x.2] rfl rfl (World.news_of_block (cs := #[.int .i64 x.1, .int .i64 x.2]) (t := 41) (fr := (0, 0)) (heap_alloc_new w5' _)) (by simp [Value.oneCell']) (by omega) h63 hb16 (by simp; omega) _ rfl ?_) | go_in)
      intro g cg w6 hown6 hgrow hat hlt6
      have K6 : Keeps (fun k => u6.ownBlock = some k) w5' w6 := ((Keeps.refl _ w5').alloc _).grown hgrow (fun _ _ e => e)
      have nB : ¬ u6.ownBlock = some w4.heap.size := fun e => by have := hov4 _ e; omega
      have c0 := K6.cell b0 nB
      have c1 := K6.cell b1 nB
      have hh6 := K6.owns hh5 (fun g' hg' e => (hgo g' e).2 hg')
      have q6 := q5.keep K6 (fun k hk' e => hgo4 k e hk')
      have hgnew : g ∉ F4 ∧ (Value.slice av L.length cv).ownBlock ≠ some g := by
        rcases hat with hat | hat
        · exact ⟨hgo4 g hat, (hgo g hat).2⟩
        · have e : g = w5'.heap.size + 1 := by simpa using hat
          exact ⟨fun hm => by have := q5.lt g hm; omega, fun e' => by have := owns_lt' hh5 g e'; omega⟩
      obtain ⟨_, _, ev, hil6, _⟩ := owns_il hh6 rfl
      cases ev
      clear hgrow b0 b1 HO
      go_wp2_with fail
      refine (count_any hil6 (by omega) cv x).mono ?_
      rw [hcnt]
      rintro e w7 ⟨rfl, k7⟩
      go_wp2_with fail
      go_roundw
      case rel =>
        have hl' : (out ++ [x]).length = out.length + 1 := by simp
        refine ⟨out ++ [x], zs, F4, by rw [hl']; go_num, by rw [hl']; omega, ?_, k7.owns hh6 (fun _ _ e => e), q6.keep k7 (fun _ _ e => e), ?_, ?_, ?_, ?_, hF4, fun g' hg' => by cases hg'; exact hgnew, hgh4⟩
        · rw [hl', flat_append]; exact k7.owns hown6 (fun _ _ e => e)
        · rw [List.append_assoc]; exact ((hp4.append_left out)).trans hp
        · exact rise_snoc hri (fun o ho' => hlow o ho' x hxy)
        · intro o ho' y hy
          have hyy : y ∈ ys := hp4.mem_iff.1 (by simp [hy])
          rcases List.mem_append.1 ho' with ho' | ho'
          · exact hlow o ho' y hyy
          · simp at ho'
            rw [ho']
            refine ⟨hl4 y hyy, fun e => ?_⟩
            have hn2 : (x :: zs).Nodup := hp4.nodup_iff.2 ((List.nodup_append.1 hnodup.out).2.1)
            exact (List.nodup_cons.1 hn2).1 (e ▸ hy)
        · exact ((hk4.trans K5).trans' K6 (fun _ _ e => e) (fun i hi e => by have := hob i e; omega)).trans k7
      case measure => simp [intOf]; omega
    · have hiI : ¬ (out.length : Int) < (L.length : Int) := by omega
      have hys : ys = [] := List.eq_nil_of_length_eq_zero (by have := hlp.out; omega)
      subst hys
      obtain ⟨ao, co, eo, hilo, _⟩ := owns_il ho rfl
      go_wp2_with fail
      refine (take_any hq).mono ?_
      rintro e w4 (⟨_, rfl, q4, k4⟩ | ⟨h0, _⟩)
      · go_wp2_with fail
        have K5 : Keeps (fun _ => False) w4 (w4.alloc (.cells #[.int .i64 0, .int .i64 0] 41)) := (Keeps.refl _ w4).alloc _
        have b0 : (w4.alloc (.cells #[.int .i64 0, .int .i64 0] 41)).cell? ⟨w4.heap.size, 0, none⟩ = some (.int .i64 0) := by simp
        have b1 : (w4.alloc (.cells #[.int .i64 0, .int .i64 0] 41)).cell? ⟨w4.heap.size, 1, none⟩ = some (.int .i64 0) := by simp
        refine (len_any (q4.keep K5 (fun _ _ e => e))).mono ?_
        rintro e w5 ⟨rfl, rfl⟩
        go_wp2_with fail
        subst eo
        refine (rising_any ((hilo.new k4).new K5) (by omega) co true hri).mono ?_
        rintro e w6 ⟨rfl, k6⟩
        have c0 := k6.cell b0 (fun e => e)
        have c1 := k6.cell b1 (fun e => e)
        have heq0 := heq (0, 0) (0, 0)
        go_wp2_with fail
        refine (num_any _ _).mono ?_
        rintro e w7 ⟨rfl, rfl⟩
        go_wp2
        go_ret
        exact ⟨rfl, (((hk.trans k4).trans K5).trans k6).below (Nat.le_refl _) (fun _ _ e => e)⟩
      · simp at h0
end Go.Proofs.Ytkebpelpjkgdkaa
