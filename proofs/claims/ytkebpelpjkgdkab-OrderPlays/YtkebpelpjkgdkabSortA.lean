import Derived.Test.YtkebpelpjkgdkabLists
import Derived.Test.YtkebpelpjkgdkabHeapIL
import Derived.Laws.MakeOwn
namespace Go.Proofs.Ytkebpelpjkgdkab
open Go.RowKit Go.Maps

/-- In order. -/
def Sd (xs : List It) : Prop := xs.Pairwise (fun a b => bef b a = false)
/-- The items in order. -/
def srt (xs : List It) : List It := xs.mergeSort (fun a b => !bef b a)

theorem srt_perm (xs : List It) : (srt xs).Perm xs := List.mergeSort_perm _ _
theorem bef_total (a b : It) : bef a b = false ∨ bef b a = false := by
  cases h : bef a b with
  | false => exact .inl rfl
  | true => exact .inr (bef_lin.asym h)
theorem srt_sd (xs : List It) : Sd (srt xs) := by
  have := List.pairwise_mergeSort (le := fun a b : It => !bef b a) (fun a b c h1 h2 => by simp at *; exact bef_lin.trans h2 h1) (fun a b => by rcases bef_total a b with h | h <;> simp [h]) xs
  exact this.imp (fun h => by simpa using h)
theorem sd_unique {xs ys : List It} (h1 : Sd xs) (h2 : Sd ys) (hp : xs.Perm ys) : xs = ys :=
  List.Perm.eq_of_pairwise (fun _ _ _ _ h k => bef_lin.eq k h) h1 h2 hp
theorem srt_eq {xs ys : List It} (h : Sd xs) (hp : xs.Perm ys) : xs = srt ys := sd_unique h (srt_sd ys) (hp.trans (srt_perm ys).symm)
theorem srt_congr {xs ys : List It} (hp : xs.Perm ys) : srt xs = srt ys := srt_eq (srt_sd xs) ((srt_perm xs).trans hp)
theorem srt_length (xs : List It) : (srt xs).length = xs.length := (srt_perm xs).length_eq

/-- The first ones: what is kept is not behind the rest. -/
theorem srt_take {ks rest xs : List It} (hp : (ks ++ rest).Perm xs) (h : ∀ k ∈ ks, ∀ r ∈ rest, bef r k = false) : srt ks = (srt xs).take ks.length := by
  have h1 : Sd (srt ks ++ srt rest) := by
    refine List.pairwise_append.2 ⟨srt_sd ks, srt_sd rest, fun a ha b hb => h a ((srt_perm ks).mem_iff.1 ha) b ((srt_perm rest).mem_iff.1 hb)⟩
  have h2 : (srt ks ++ srt rest).Perm xs := ((srt_perm ks).append (srt_perm rest)).trans hp
  have e := srt_eq h1 h2
  rw [← e, List.take_left' (srt_length ks)]

theorem madeZeros (n : Nat) : (madeCells #[.int .i64 0, .int .i64 0] (n * 2)).toList = flat (List.replicate n (0, 0)) := by
  apply List.ext_getElem?
  intro j
  have hl : (flat (List.replicate n (0, 0))).length = n * 2 := by rw [length_flat]; simp
  by_cases hj : j < n * 2
  · have e0 : (madeCells #[.int .i64 0, .int .i64 0] (n * 2)).toList[j]? = some (.int .i64 0) := by
      rcases Nat.mod_two_eq_zero_or_one j with h | h <;> simp [madeCells, hj, h]
    rw [e0]
    have hi : j / 2 < (List.replicate n ((0 : Int), (0 : Int))).length := by simp; omega
    have ez : ia (List.replicate n ((0 : Int), (0 : Int))) (j / 2) = (0, 0) := by rw [ia_get hi]; simp
    rcases Nat.mod_two_eq_zero_or_one j with h | h
    · have e := flat_get0 _ _ hi
      rw [show j / 2 * 2 = j by omega, ez] at e
      exact e.symm
    · have e := flat_get1 _ _ hi
      rw [show j / 2 * 2 + 1 = j by omega, ez] at e
      exact e.symm
  · rw [List.getElem?_eq_none (by rw [Array.length_toList, size_madeCells]; omega), List.getElem?_eq_none (by omega)]

theorem set_zeros (m : Nat) (ts : List It) (x : It) : (List.replicate (m + 1) ((0 : Int), (0 : Int)) ++ ts).set m x = List.replicate m ((0 : Int), (0 : Int)) ++ x :: ts := by
  rw [List.replicate_succ', List.append_assoc, List.set_append_right _ _ (by simp)]
  simp

/-- All its items as much as none. -/
def M0 : Mp := fun _ => some 0

set_option maxHeartbeats 1600000 in
set_option maxRecDepth 1000000 in
/-- The heap is emptied from the list's end on. -/
theorem drain_any {w : World} {hb g cap : Nat} {ks : List It} {pm mb s : Nat} {M : Mp} (h : L.HS w hb g cap ks pm mb s M) (hF : Full M ks) (hH : Heap feb ks) :
    Calls Try.prog 35 #[.pointer (some ⟨hb, 0, none⟩)] w fun e w' => e = .returned (.slice (some ⟨w.heap.size, 0, none⟩) ks.length ks.length) ∧
      w'.ownsRow w.heap.size 32 2 (.slice (some ⟨w.heap.size, 0, none⟩) ks.length ks.length) ks.length (flat (srt ks)) ∧ Keeps (fun k => k = g ∨ k = hb) w w' := by
  obtain ⟨i0, hi0, hz0, hz1, hz2⟩ := info_parts L.itemInfo
  have hsm := h.small
  have hmk : ∀ W : World, (Instr.makeSlice 22 (.int .i64 (ks.length : Int)) (.int .i64 (ks.length : Int))).run Try.prog W = .ok (.slice (some ⟨W.heap.size, 0, none⟩) ks.length ks.length) (W.alloc (.cells (madeCells #[.int .i64 0, .int .i64 0] (ks.length * 2)) 32)) := fun W => by
    have := run_make (P := Try.prog) W 22 32 i0 _ L.underItems hi0 hz0 .i64 .i64 ks.length ks.length (by omega) (by omega) (by rw [hz2]; omega) (by omega)
    rw [hz1] at this
    simpa [Value.cells] using this
  have f0 := h.f0
  have lg := h.lg
  have lh := h.lh
  have K0 : Keeps (fun _ => False) w (w.alloc (.cells (madeCells #[.int .i64 0, .int .i64 0] (ks.length * 2)) 32)) := (Keeps.refl _ w).alloc _
  have own0 : (w.alloc (.cells (madeCells #[.int .i64 0, .int .i64 0] (ks.length * 2)) 32)).ownsRow w.heap.size 32 2 (.slice (some ⟨w.heap.size, 0, none⟩) ks.length ks.length) ks.length (flat (List.replicate ks.length (0, 0))) := by
    have := World.ownsRow_lit (base := w.heap.size) (e := 32) (size := 2) w (madeCells #[.int .i64 0, .int .i64 0] (ks.length * 2)) ks.length (Nat.le_refl _) (by unfold maxLen; omega) (by simp [size_madeCells])
    rw [madeZeros] at this; exact this
  have h0 := h.new K0
  clear h
  go_enter Try.func35, Try.ntmps35
  go_wp2_with fail
  go_loopw [4] (fun iv wr => ∃ (us ts : List It) (N : Mp), iv = .int .i64 ((us.length : Int) - 1) ∧ us.length ≤ ks.length ∧ (us ++ ts).Perm ks ∧ L.HS wr hb g cap us pm mb s N ∧ Full N us ∧ Heap feb us ∧ Sd ts ∧ (∀ u ∈ us, ∀ t ∈ ts, bef t u = false) ∧ wr.ownsRow w.heap.size 32 2 (.slice (some ⟨w.heap.size, 0, none⟩) ks.length ks.length) ks.length (flat (List.replicate us.length (0, 0) ++ ts)) ∧ Keeps (fun k => k = g ∨ k = hb) w wr) (fun iv _ => (intOf iv + 1).toNat)
  case atStart => exact ⟨ks, [], M, by simp, Nat.le_refl _, by simp, h0, hF, hH, List.Pairwise.nil, (fun _ _ t ht => by cases ht), by simpa using own0, K0.mono (fun _ _ e => e.elim)⟩
  case round =>
    obtain ⟨us, ts, N, rfl, hul, hp, hr, hFr, hHr, hsd, hlow, hown, hk⟩ := hrel
    by_cases hu : us.length = 0
    · have hneg : (us.length : Int) - 1 = -1 := by omega
      rw [hneg]
      have hnil : us = [] := List.eq_nil_of_length_eq_zero hu
      subst hnil
      have e : ts = srt ks := srt_eq hsd (by simpa using hp)
      go_wp2
      go_ret
      exact ⟨rfl, by simpa [e] using hown, hk⟩
    · obtain ⟨m, hm⟩ : ∃ m : Nat, Hid (us.length = m + 1) := ⟨us.length - 1, by show _ = _; omega⟩
      have hmI : (us.length : Int) - 1 = (m : Int) := by have := hm.out; omega
      rw [hmI]
      have hmk' : (m : Int) < (ks.length : Int) := by have := hm.out; omega
      clear hmk hmI
      go_wp2_with fail
      refine (L.cut_any hr (p := 0) (by omega) hFr hHr).mono ?_
      rintro e w2 ⟨rfl, vs, N2, h2, k2, hh2, hc2, _⟩
      have hvl : vs.length = m := by have e1 := hc2.1.length_eq; have e2 := hm.out; simp at e1; omega
      have hx : ia us 0 ∈ us := ia_mem (by omega)
      have htop : ∀ u ∈ us, bef (ia us 0) u = false := fun u hu' => by
        obtain ⟨i, hi, rfl⟩ := List.getElem_of_mem hu'
        have := hHr.top feb_lin i hi
        rw [ia_get hi] at this; exact this
      have hcm : ∀ v ∈ vs, v ∈ us := fun v hv => hc2.1.mem_iff.1 (by simp [hv])
      have hcp := hc2.1
      have hFv : Full N2 vs := fun y hy => hc2.2.2.2 _ (hFr y (hcm y hy))
      obtain ⟨x, hxx⟩ : ∃ x, ia us 0 = x := ⟨_, rfl⟩
      rw [hxx] at hx htop hcp ⊢
      clear hxx hc2
      have nL : ¬ (L.Tch g mb w.heap.size ∨ w.heap.size = hb) := fun e => e.elim (fun e => by have := e.1; omega) (fun e => by omega)
      have hown2 := k2.owns hown (fun k e => by cases e; exact nL)
      have hml : m < (List.replicate us.length ((0 : Int), (0 : Int)) ++ ts).length := by have := hm.out; simp; omega
      have hlt : (List.replicate us.length ((0 : Int), (0 : Int)) ++ ts).length = ks.length := by have := hp.length_eq; simp at *; omega
      have c0 : w2.cell? ⟨w.heap.size, m * 2, none⟩ = some (.int .i64 (ia (List.replicate us.length ((0 : Int), (0 : Int)) ++ ts) m).1) := by rw [hown2.cellAt (m * 2) (by omega), flat_get0 _ m hml]
      have c1 : w2.cell? ⟨w.heap.size, m * 2 + 1, none⟩ = some (.int .i64 (ia (List.replicate us.length ((0 : Int), (0 : Int)) ++ ts) m).2) := by rw [hown2.cellAt (m * 2 + 1) (by omega), flat_get1 _ m hml]
      have z0 := hown2.frozenAt (m * 2)
      have z1 := hown2.frozenAt (m * 2 + 1)
      have st1 := hown2.stored (m * 2) (.int .i64 x.1)
      have st2 := st1.1.stored (m * 2 + 1) (.int .i64 x.2)
      rw [← flat_set _ m x hml, show us.length = m + 1 from hm.out, set_zeros] at st2
      have K3 : Keeps (fun k => k = w.heap.size) w2 ((w2.setCell ⟨w.heap.size, m * 2, none⟩ (.int .i64 x.1)).setCell ⟨w.heap.size, m * 2 + 1, none⟩ (.int .i64 x.2)) := ((Keeps.refl _ w2).grown st1.2 (fun _ _ e => by cases e; rfl)).grown st2.2 (fun _ _ e => by cases e; rfl)
      have h3 := h2.keep K3 (by show ¬ hb = _; omega) (by show ¬ g = _; omega)
      have HK : Keeps (fun k => k = g ∨ k = hb) w _ := (hk.trans' k2 (U := fun k => k = g ∨ k = hb) (fun _ _ e => e) (fun _ _ e => e.imp (fun e => e.1) id)).trans' K3 (fun _ _ e => e) (fun i hi e => by omega)
      have HO := st2.1
      clear hown hown2 st1 st2 h2 k2 hr K3 hlt hml
      go_wp2_with fail
      go_roundw
      case rel =>
        refine ⟨vs, x :: ts, N2, by rw [hvl], by have := hm.out; omega, ?_, h3, hFv, hh2, ?_, ?_, by rw [hvl]; exact HO, HK⟩
        · exact (List.perm_middle.trans (hcp.append_right ts)).trans hp
        · exact List.pairwise_cons.2 ⟨fun t ht => hlow x hx t ht, hsd⟩
        · intro u hu' t ht
          rcases List.mem_cons.1 ht with rfl | ht
          · exact htop u (hcm u hu')
          · exact hlow u (hcm u hu') t ht
      case measure => simp [intOf]

end Go.Proofs.Ytkebpelpjkgdkab
