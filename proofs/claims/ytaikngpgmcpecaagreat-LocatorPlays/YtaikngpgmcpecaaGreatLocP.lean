import Derived.Test.YtaikngpgmcpecaaGreatLocSt
namespace Go.Proofs.YtaikngpgmcpecaaGreat
open Go.RowKit

/-- One thing more is in the pool at ⟨wb, k⟩, of role r. -/
structure Added (w w' : World) (ρ ρ' : Nat → Nat) (wb k r : Nat) : Prop where
  keeps : Keeps (fun i => ρ i = r ∨ i = wb) w w'
  old : ∀ i, i < w.heap.size → ρ' i = ρ i
  new : ∀ i, w.heap.size ≤ i → ρ' i = r ∨ ρ' i = 0
  bnd : Bnd w' ρ'
  far : ∀ o v, o ≠ k → w.cell? ⟨wb, o, none⟩ = some v → w'.cell? ⟨wb, o, none⟩ = some v
  fz : ∀ o, w'.frozen? ⟨wb, o, none⟩ = w.frozen? ⟨wb, o, none⟩
/-- What an append and the list's store leave. -/
theorem added_of {w w0 w4 : World} {ρ : Nat → Nat} {wb k r e z n cap gg : Nat} {v : Value} {xs ys : List Value} (h : PJ w ρ ⟨wb, k, none⟩ r e z v n xs) (hne : ρ wb ≠ r) (K0 : Keeps (fun _ => False) w w0) (hg : w0.grownBy w4 v.ownBlock)
    (ho : w4.ownsRow 0 e z (.slice (some ⟨gg, 0, none⟩) (n + 1) cap) (n + 1) ys) (hat : v.ownBlock = some gg ∨ w0.heap.size ≤ gg) :
    ∃ ρ', PJ (w4.setCell ⟨wb, k, none⟩ (.slice (some ⟨gg, 0, none⟩) (n + 1) cap)) ρ' ⟨wb, k, none⟩ r e z (.slice (some ⟨gg, 0, none⟩) (n + 1) cap) (n + 1) ys ∧ Added w (w4.setCell ⟨wb, k, none⟩ (.slice (some ⟨gg, 0, none⟩) (n + 1) cap)) ρ ρ' wb k r := by
  have lb : wb < w.heap.size := World.block_lt_of_cell? _ _ h.at_
  have nw : ¬ v.ownBlock = some wb := fun e => hne (h.role wb e)
  have K1 : Keeps (fun i => v.ownBlock = some i) w0 w4 := (Keeps.refl _ w0).grown hg (fun _ _ e => e)
  have K2 := keeps_set w4 wb k (.slice (some ⟨gg, 0, none⟩) (n + 1) cap)
  have K01 : Keeps (fun i => v.ownBlock = some i) w w4 := K0.trans' K1 (fun _ _ e => e.elim) (fun _ _ e => e)
  have KK : Keeps (fun i => ρ i = r ∨ i = wb) w (w4.setCell ⟨wb, k, none⟩ (.slice (some ⟨gg, 0, none⟩) (n + 1) cap)) := K01.trans' K2 (fun i _ e => .inl (h.role i e)) (fun _ _ e => .inr e)
  have lg : gg < w4.heap.size := owns_lt' ho gg rfl
  have s0 := K0.size
  have gw : gg ≠ wb := by
    rcases hat with e | e
    · exact fun e' => nw (e' ▸ e)
    · omega
  refine ⟨ro ρ w (w4.setCell ⟨wb, k, none⟩ (.slice (some ⟨gg, 0, none⟩) (n + 1) cap)) (fun i => i = gg) r, ⟨World.cell?_setCell_same _ _ _ (K01.cell h.at_ nw), K2.owns ho (fun g e => by cases e; exact gw), fun g e => ?_⟩, KK, fun i hi => ro_old hi, fun i hi => ?_, ro_bnd KK.size, fun o u hk hu => ?_, fun o => ?_⟩
  · cases e
    rcases Nat.lt_or_ge gg w.heap.size with l | l
    · rw [ro_old l]
      exact h.role gg (hat.resolve_right (by omega))
    · exact ro_new l rfl (by simpa using lg)
  · by_cases e : i = gg ∧ i < (w4.setCell ⟨wb, k, none⟩ (.slice (some ⟨gg, 0, none⟩) (n + 1) cap)).heap.size
    · exact .inl (ro_new hi e.1 e.2)
    · right
      have h1 : ¬ i < w.heap.size := by omega
      unfold ro
      rw [if_neg h1, if_neg e]
  · rw [World.cell?_setCell_other _ _ _ _ (fun e => by cases e; exact hk rfl)]; exact K01.cell hu nw
  · rw [World.frozen?_setCell]; exact K01.frozen (p := ⟨wb, o, none⟩) lb nw
theorem pool_cell {w : World} {ρ : Nat → Nat} {p : Addr} {r e z n : Nat} {v : Value} {α : Type} {f : α → List Value} {m : Nat} (hf : ∀ x, (f x).length = m) {xs : List α} (h : PJ w ρ p r e z v n (fl f xs)) {g : Nat} (hg : v.ownBlock = some g) {i : Nat} {x : α} (hi : xs[i]? = some x) {j : Nat} {u : Value} (hj : (f x)[j]? = some u) : w.cell? ⟨g, i * m + j, none⟩ = some u := by
  have hl : j < m := by
    rcases Nat.lt_or_ge j m with l | l
    · exact l
    · rw [List.getElem?_eq_none (by rw [hf]; exact l)] at hj; cases hj
  exact owns_cell h.row hg (by rw [fl_get hf xs i j hl, hi]; exact hj)

theorem infoO : (Tryz.prog.info? 3).map (fun i => (i.zero, i.size, i.bytes)) = some (some (.int .i64 0), 1, 8) := by kernel_rfl
theorem underO : Tryz.prog.underlying 67 = some (.slice 3) := by kernel_rfl
set_option maxHeartbeats 800000 in
set_option maxRecDepth 1000000 in
theorem sizeO {w : World} {ρ : Nat → Nat} {wb k r : Nat} {v : Value} {n : Nat} {xs : List Value} (h : PJ w ρ ⟨wb, k, none⟩ r 3 1 v n xs) :
    Calls Tryz.prog 27 #[.pointer (some ⟨wb, k, none⟩)] w fun e w' => e = .returned (.int .i64 (n : Int)) ∧ w = w' := by
  obtain ⟨a, cap, rfl, _⟩ := h.slice
  have f0 := h.at_
  go_enter Tryz.func27, Tryz.ntmps27
  go_wp2
  go_ret
  exact ⟨rfl, rfl⟩
set_option maxHeartbeats 800000 in
set_option maxRecDepth 1000000 in
theorem atO {w : World} {ρ : Nat → Nat} {wb k r : Nat} {v : Value} {n : Nat} {xs : List Value} (h : PJ w ρ ⟨wb, k, none⟩ r 3 1 v n xs) {i g : Nat} (hi : i < n) (hg : v.ownBlock = some g) :
    Calls Tryz.prog 91 #[.pointer (some ⟨wb, k, none⟩), .int .i64 (i : Int)] w fun e w' => e = .returned (.pointer (some ⟨g, i * 1, none⟩)) ∧ w = w' := by
  obtain ⟨a, cap, rfl, hs⟩ := h.slice
  obtain ⟨g', rfl, hg', _⟩ := hs (by omega)
  obtain rfl : g' = g := by rw [hg] at hg'; cases hg'; rfl
  have f0 := h.at_
  have hiI : (i : Int) < (n : Int) := by omega
  have d1 : decide ((i : Int) < 0) = false := by simp
  have d2 : decide ((n : Int) ≤ (i : Int)) = false := by simp; omega
  have d3 : decide (n ≤ i) = false := by simp; omega
  clear h hs hg hg'
  go_enter Tryz.func91, Tryz.ntmps91
  go_wp2_with fail
  go_ret
  exact ⟨by simp, rfl⟩
set_option maxHeartbeats 800000 in
set_option maxRecDepth 1000000 in
theorem atNotO {w : World} {ρ : Nat → Nat} {wb k r : Nat} {v : Value} {n : Nat} {xs : List Value} (h : PJ w ρ ⟨wb, k, none⟩ r 3 1 v n xs) {i : Int} (hi : i < 0 ∨ (n : Int) ≤ i) :
    Calls Tryz.prog 91 #[.pointer (some ⟨wb, k, none⟩), .int .i64 i] w fun e w' => e = .returned (.pointer none) ∧ w = w' := by
  obtain ⟨a, cap, rfl, hs⟩ := h.slice
  have f0 := h.at_
  clear h hs
  rcases Int.lt_or_le i 0 with h0 | h0
  · have d1 : decide (i < 0) = true := by simp [h0]
    go_enter Tryz.func91, Tryz.ntmps91
    go_wp2_with fail
    go_ret
    exact ⟨rfl, rfl⟩
  · have d1 : decide (i < 0) = false := by simp [h0]
    have h1 : (n : Int) ≤ i := by omega
    have d2 : decide ((n : Int) ≤ i) = true := by simp [h1]
    go_enter Tryz.func91, Tryz.ntmps91
    go_wp2_with fail
    go_ret
    exact ⟨rfl, rfl⟩
set_option maxHeartbeats 1600000 in
set_option maxRecDepth 1000000 in
theorem addO {w : World} {ρ : Nat → Nat} {wb k r : Nat} {v : Value} {xs : List Nat} (h : PJ w ρ ⟨wb, k, none⟩ r 3 1 v xs.length (fl oc xs)) (hz : w.frozen? ⟨wb, k, none⟩ = false) (hne : ρ wb ≠ r) (hn : xs.length ≤ 70000) (x : Nat) :
    Calls Tryz.prog 41 #[.pointer (some ⟨wb, k, none⟩), .int .i64 (x : Int)] w fun e w' => e = .returned (.int .i64 (xs.length : Int)) ∧ ∃ v' ρ', PJ w' ρ' ⟨wb, k, none⟩ r 3 1 v' (xs ++ [x]).length (fl oc (xs ++ [x])) ∧ Added w w' ρ ρ' wb k r := by
  have efl : fl oc (xs ++ [x]) = fl oc xs ++ oc x := by simp [fl]
  have eln : (xs ++ [x]).length = xs.length + 1 := by simp
  rw [efl, eln]
  clear efl eln
  have H : Hid (PJ w ρ ⟨wb, k, none⟩ r 3 1 v xs.length (fl oc xs)) := h
  have lb : wb < w.heap.size := World.block_lt_of_cell? _ _ h.at_
  have nw : v.ownBlock ≠ some wb := fun e => hne (h.role wb e)
  have f0 := h.at_
  have HO : Hid (w.ownsRow 0 3 1 v xs.length (fl oc xs)) := h.row
  obtain ⟨a, cap, rfl, _⟩ := h.slice
  obtain ⟨i0, hi0, hz0, hz1, hz2⟩ := info_parts infoO
  have h63 : xs.length + 1 ≤ maxLen := by unfold maxLen; omega
  have hby : (xs.length + 1) * 8 ≤ 140737488355328 := by omega
  have KA : Keeps (fun _ => False) w (w.alloc (.cells #[.int .i64 (x : Int)] 3)) := (Keeps.refl _ w).alloc _
  clear h hn
  go_enter Tryz.func41, Tryz.ntmps41
  go_wp2_with ((at_builtin; refine wpList_append_lies _ rfl _ _ _ rfl 0 3 i0 _ 1 8 underO hi0 hz0 hz1 hz2 rfl (by decide) (.slice a xs.length cap) xs.length (fl oc xs) rfl (HO.out.alloc _) ⟨w.heap.size, 0, none⟩ 1 1 [.int .i64 (x : Int)] rfl rfl (World.news_of_block (cs := #[.int .i64 (x : Int)]) (t := 3) (fr := (0, 0)) (heap_alloc_new w _)) (by simp [Value.oneCell']) (by omega) h63 hby (by simp) _ rfl ?_))
  intro gg cap1 w4 hown1 hgrow hat hlt1
  obtain ⟨ρ', p1, a1⟩ := added_of H.out hne KA hgrow hown1 (hat.imp id (fun e => by rw [e]; simp))
  have c1 := p1.at_
  have r1 := hgrow.cell (KA.cell f0 (fun e => e)) (Ne.symm nw)
  have r2 := (hgrow.frozen_far ⟨wb, k, none⟩ (by simp; omega) (Ne.symm nw)).trans ((KA.frozen (p := ⟨wb, k, none⟩) lb (fun e => e)).trans hz)
  clear f0 hz HO hown1 hgrow hat hlt1
  go_wp2_with fail
  go_ret
  exact ⟨by go_num, _, ρ', p1, a1⟩

theorem infoA : (Tryz.prog.info? 99).map (fun i => (i.zero, i.size, i.bytes)) = some (some (.agg #[.int .i64 0, .int .i64 0, .int .i64 0, .int .i64 0, .int .i64 0]), 5, 40) := by kernel_rfl
theorem underA : Tryz.prog.underlying 70 = some (.slice 99) := by kernel_rfl
set_option maxHeartbeats 800000 in
set_option maxRecDepth 1000000 in
theorem sizeA {w : World} {ρ : Nat → Nat} {wb k r : Nat} {v : Value} {n : Nat} {xs : List Value} (h : PJ w ρ ⟨wb, k, none⟩ r 99 5 v n xs) :
    Calls Tryz.prog 43 #[.pointer (some ⟨wb, k, none⟩)] w fun e w' => e = .returned (.int .i64 (n : Int)) ∧ w = w' := by
  obtain ⟨a, cap, rfl, _⟩ := h.slice
  have f0 := h.at_
  go_enter Tryz.func43, Tryz.ntmps43
  go_wp2
  go_ret
  exact ⟨rfl, rfl⟩
set_option maxHeartbeats 800000 in
set_option maxRecDepth 1000000 in
theorem atA {w : World} {ρ : Nat → Nat} {wb k r : Nat} {v : Value} {n : Nat} {xs : List Value} (h : PJ w ρ ⟨wb, k, none⟩ r 99 5 v n xs) {i g : Nat} (hi : i < n) (hg : v.ownBlock = some g) :
    Calls Tryz.prog 89 #[.pointer (some ⟨wb, k, none⟩), .int .i64 (i : Int)] w fun e w' => e = .returned (.pointer (some ⟨g, i * 5, none⟩)) ∧ w = w' := by
  obtain ⟨a, cap, rfl, hs⟩ := h.slice
  obtain ⟨g', rfl, hg', _⟩ := hs (by omega)
  obtain rfl : g' = g := by rw [hg] at hg'; cases hg'; rfl
  have f0 := h.at_
  have hiI : (i : Int) < (n : Int) := by omega
  have d1 : decide ((i : Int) < 0) = false := by simp
  have d2 : decide ((n : Int) ≤ (i : Int)) = false := by simp; omega
  have d3 : decide (n ≤ i) = false := by simp; omega
  clear h hs hg hg'
  go_enter Tryz.func89, Tryz.ntmps89
  go_wp2_with fail
  go_ret
  exact ⟨by simp, rfl⟩
set_option maxHeartbeats 800000 in
set_option maxRecDepth 1000000 in
theorem atNotA {w : World} {ρ : Nat → Nat} {wb k r : Nat} {v : Value} {n : Nat} {xs : List Value} (h : PJ w ρ ⟨wb, k, none⟩ r 99 5 v n xs) {i : Int} (hi : i < 0 ∨ (n : Int) ≤ i) :
    Calls Tryz.prog 89 #[.pointer (some ⟨wb, k, none⟩), .int .i64 i] w fun e w' => e = .returned (.pointer none) ∧ w = w' := by
  obtain ⟨a, cap, rfl, hs⟩ := h.slice
  have f0 := h.at_
  clear h hs
  rcases Int.lt_or_le i 0 with h0 | h0
  · have d1 : decide (i < 0) = true := by simp [h0]
    go_enter Tryz.func89, Tryz.ntmps89
    go_wp2_with fail
    go_ret
    exact ⟨rfl, rfl⟩
  · have d1 : decide (i < 0) = false := by simp [h0]
    have h1 : (n : Int) ≤ i := by omega
    have d2 : decide ((n : Int) ≤ i) = true := by simp [h1]
    go_enter Tryz.func89, Tryz.ntmps89
    go_wp2_with fail
    go_ret
    exact ⟨rfl, rfl⟩
set_option maxHeartbeats 1600000 in
set_option maxRecDepth 1000000 in
theorem addA {w : World} {ρ : Nat → Nat} {wb k r : Nat} {v : Value} {xs : List At} (h : PJ w ρ ⟨wb, k, none⟩ r 99 5 v xs.length (fl ac xs)) (hz : w.frozen? ⟨wb, k, none⟩ = false) (hne : ρ wb ≠ r) (hn : xs.length ≤ 70000) (x : At) :
    Calls Tryz.prog 86 #[.pointer (some ⟨wb, k, none⟩), .agg #[.int .i64 x.thread, .int .i64 x.stamp, .int .i64 x.prio, .int .i64 (x.status : Int), .int .i64 (x.flag : Int)]] w fun e w' => e = .returned (.int .i64 (xs.length : Int)) ∧ ∃ v' ρ', PJ w' ρ' ⟨wb, k, none⟩ r 99 5 v' (xs ++ [x]).length (fl ac (xs ++ [x])) ∧ Added w w' ρ ρ' wb k r := by
  have efl : fl ac (xs ++ [x]) = fl ac xs ++ ac x := by simp [fl]
  have eln : (xs ++ [x]).length = xs.length + 1 := by simp
  rw [efl, eln]
  clear efl eln
  have H : Hid (PJ w ρ ⟨wb, k, none⟩ r 99 5 v xs.length (fl ac xs)) := h
  have lb : wb < w.heap.size := World.block_lt_of_cell? _ _ h.at_
  have nw : v.ownBlock ≠ some wb := fun e => hne (h.role wb e)
  obtain ⟨w0, hw0⟩ : ∃ w0, w0 = w.alloc (.cells #[.int .i64 x.thread, .int .i64 x.stamp, .int .i64 x.prio, .int .i64 (x.status : Int), .int .i64 (x.flag : Int)] 99) := ⟨_, rfl⟩
  have K0 : Keeps (fun _ => False) w w0 := by rw [hw0]; exact (Keeps.refl _ w).alloc _
  have z0 : Hid (w0.heap.size = w.heap.size + 1) := by show _ = _; rw [hw0]; simp
  have b0 : w0.cell? ⟨w.heap.size, 0, none⟩ = some (.int .i64 x.thread) := by rw [hw0]; simp
  have b1 : w0.cell? ⟨w.heap.size, 1, none⟩ = some (.int .i64 x.stamp) := by rw [hw0]; simp
  have b2 : w0.cell? ⟨w.heap.size, 2, none⟩ = some (.int .i64 x.prio) := by rw [hw0]; simp
  have b3 : w0.cell? ⟨w.heap.size, 3, none⟩ = some (.int .i64 (x.status : Int)) := by rw [hw0]; simp
  have b4 : w0.cell? ⟨w.heap.size, 4, none⟩ = some (.int .i64 (x.flag : Int)) := by rw [hw0]; simp
  have f0 := K0.cell h.at_ (fun e => e)
  have fz := (K0.frozen (p := ⟨wb, k, none⟩) lb (fun e => e)).trans hz
  have lb0 : wb < w0.heap.size := Nat.lt_of_lt_of_le lb K0.size
  have HO : Hid (w0.ownsRow 0 99 5 v xs.length (fl ac xs)) := K0.owns h.row (fun _ _ e => e)
  obtain ⟨a, cap, rfl, _⟩ := h.slice
  obtain ⟨i0, hi0, hz0, hz1, hz2⟩ := info_parts infoA
  have h63 : xs.length + 1 ≤ maxLen := by unfold maxLen; omega
  have hby : (xs.length + 1) * 40 ≤ 140737488355328 := by omega
  have q1 : ∀ ob, (w0.alloc ob).cell? ⟨wb, k, none⟩ = some (.slice a xs.length cap) := fun ob => ((Keeps.refl (fun _ => False) w0).alloc ob).cell f0 (fun e => e)
  have ka : ∀ (ob : Obj), (w0.alloc ob).drew.cell? ⟨wb, k, none⟩ = some (.slice a xs.length cap) ∧ (w0.alloc ob).drew.frozen? ⟨wb, k, none⟩ = false := fun ob =>
    ⟨(((Keeps.refl (fun _ => False) w0).alloc ob).drew).cell f0 (fun e => e), ((((Keeps.refl (fun _ => False) w0).alloc ob).drew).frozen (p := ⟨wb, k, none⟩) lb0 (fun e => e)).trans fz⟩
  clear h hz lb hn
  go_enter Tryz.func86, Tryz.ntmps86
  go_wp2_with fail
  rw [← hw0]
  clear hw0
  go_region_law ((refine step_append_lies _ (by rfl) _ _ _ (by rfl) 0 99 i0 _ 5 40 underA hi0 hz0 hz1 hz2 rfl (by omega) (.slice a xs.length cap) xs.length (fl ac xs) (by rfl) ((HO.out.alloc _).drew) ⟨w0.heap.size, 0, none⟩ 1 1 [.int .i64 x.thread, .int .i64 x.stamp, .int .i64 x.prio, .int .i64 (x.status : Int), .int .i64 (x.flag : Int)] (by rfl) (by rfl) (World.news_of_block (cs := #[.int .i64 x.thread, .int .i64 x.stamp, .int .i64 x.prio, .int .i64 (x.status : Int), .int .i64 (x.flag : Int)]) (t := 99) (fr := (0, 0)) (heap_alloc_new w0 _)) (by simp [Value.oneCell']) (by omega) h63 hby (Nat.zero_le _) (w0.heap.size + 1) (by simp) ?_; intro gg cap1 w4 hown1 hgrow hat hlt1; have r1 := (hgrow.cell_far ⟨wb, k, none⟩ (by simp; omega) (Ne.symm nw)).trans (ka _).1; have r2 := (hgrow.frozen_far ⟨wb, k, none⟩ (by simp; omega) (Ne.symm nw)).trans (ka _).2))
  all_goals
    obtain ⟨ρ', p1, a1⟩ := added_of H.out hne (K0.trans (((Keeps.refl _ w0).alloc _).drew)) hgrow hown1 (hat.imp id (fun e => by rw [e]; simp))
    have c1 := p1.at_
    clear r1 r2 f0 fz q1 ka hown1 hgrow hat hlt1 HO
    go_wp2_with fail
    go_ret
    exact ⟨by go_num, _, ρ', p1, a1⟩

theorem infoL : (Tryz.prog.info? 105).map (fun i => (i.zero, i.size, i.bytes)) = some (some (.agg #[.int .i64 0, .int .i64 0, .int .i64 0, .bool false]), 4, 32) := by kernel_rfl
theorem underL : Tryz.prog.underlying 73 = some (.slice 105) := by kernel_rfl
set_option maxHeartbeats 800000 in
set_option maxRecDepth 1000000 in
theorem sizeL {w : World} {ρ : Nat → Nat} {wb k r : Nat} {v : Value} {n : Nat} {xs : List Value} (h : PJ w ρ ⟨wb, k, none⟩ r 105 4 v n xs) :
    Calls Tryz.prog 47 #[.pointer (some ⟨wb, k, none⟩)] w fun e w' => e = .returned (.int .i64 (n : Int)) ∧ w = w' := by
  obtain ⟨a, cap, rfl, _⟩ := h.slice
  have f0 := h.at_
  go_enter Tryz.func47, Tryz.ntmps47
  go_wp2
  go_ret
  exact ⟨rfl, rfl⟩
set_option maxHeartbeats 800000 in
set_option maxRecDepth 1000000 in
theorem atL {w : World} {ρ : Nat → Nat} {wb k r : Nat} {v : Value} {n : Nat} {xs : List Value} (h : PJ w ρ ⟨wb, k, none⟩ r 105 4 v n xs) {i g : Nat} (hi : i < n) (hg : v.ownBlock = some g) :
    Calls Tryz.prog 40 #[.pointer (some ⟨wb, k, none⟩), .int .i64 (i : Int)] w fun e w' => e = .returned (.pointer (some ⟨g, i * 4, none⟩)) ∧ w = w' := by
  obtain ⟨a, cap, rfl, hs⟩ := h.slice
  obtain ⟨g', rfl, hg', _⟩ := hs (by omega)
  obtain rfl : g' = g := by rw [hg] at hg'; cases hg'; rfl
  have f0 := h.at_
  have hiI : (i : Int) < (n : Int) := by omega
  have d1 : decide ((i : Int) < 0) = false := by simp
  have d2 : decide ((n : Int) ≤ (i : Int)) = false := by simp; omega
  have d3 : decide (n ≤ i) = false := by simp; omega
  clear h hs hg hg'
  go_enter Tryz.func40, Tryz.ntmps40
  go_wp2_with fail
  go_ret
  exact ⟨by simp, rfl⟩
set_option maxHeartbeats 800000 in
set_option maxRecDepth 1000000 in
theorem atNotL {w : World} {ρ : Nat → Nat} {wb k r : Nat} {v : Value} {n : Nat} {xs : List Value} (h : PJ w ρ ⟨wb, k, none⟩ r 105 4 v n xs) {i : Int} (hi : i < 0 ∨ (n : Int) ≤ i) :
    Calls Tryz.prog 40 #[.pointer (some ⟨wb, k, none⟩), .int .i64 i] w fun e w' => e = .returned (.pointer none) ∧ w = w' := by
  obtain ⟨a, cap, rfl, hs⟩ := h.slice
  have f0 := h.at_
  clear h hs
  rcases Int.lt_or_le i 0 with h0 | h0
  · have d1 : decide (i < 0) = true := by simp [h0]
    go_enter Tryz.func40, Tryz.ntmps40
    go_wp2_with fail
    go_ret
    exact ⟨rfl, rfl⟩
  · have d1 : decide (i < 0) = false := by simp [h0]
    have h1 : (n : Int) ≤ i := by omega
    have d2 : decide ((n : Int) ≤ i) = true := by simp [h1]
    go_enter Tryz.func40, Tryz.ntmps40
    go_wp2_with fail
    go_ret
    exact ⟨rfl, rfl⟩
set_option maxHeartbeats 1600000 in
set_option maxRecDepth 1000000 in
theorem addL {w : World} {ρ : Nat → Nat} {wb k r : Nat} {v : Value} {xs : List Lo} (h : PJ w ρ ⟨wb, k, none⟩ r 105 4 v xs.length (fl lc xs)) (hz : w.frozen? ⟨wb, k, none⟩ = false) (hne : ρ wb ≠ r) (hn : xs.length ≤ 70000) (x : Lo) :
    Calls Tryz.prog 88 #[.pointer (some ⟨wb, k, none⟩), .agg #[.int .i64 (x.owner : Int), .int .i64 (x.old : Int), .int .i64 (x.new : Int), .bool x.used]] w fun e w' => e = .returned (.int .i64 (xs.length : Int)) ∧ ∃ v' ρ', PJ w' ρ' ⟨wb, k, none⟩ r 105 4 v' (xs ++ [x]).length (fl lc (xs ++ [x])) ∧ Added w w' ρ ρ' wb k r := by
  have efl : fl lc (xs ++ [x]) = fl lc xs ++ lc x := by simp [fl]
  have eln : (xs ++ [x]).length = xs.length + 1 := by simp
  rw [efl, eln]
  clear efl eln
  have H : Hid (PJ w ρ ⟨wb, k, none⟩ r 105 4 v xs.length (fl lc xs)) := h
  have lb : wb < w.heap.size := World.block_lt_of_cell? _ _ h.at_
  have nw : v.ownBlock ≠ some wb := fun e => hne (h.role wb e)
  obtain ⟨w0, hw0⟩ : ∃ w0, w0 = w.alloc (.cells #[.int .i64 (x.owner : Int), .int .i64 (x.old : Int), .int .i64 (x.new : Int), .bool x.used] 105) := ⟨_, rfl⟩
  have K0 : Keeps (fun _ => False) w w0 := by rw [hw0]; exact (Keeps.refl _ w).alloc _
  have z0 : Hid (w0.heap.size = w.heap.size + 1) := by show _ = _; rw [hw0]; simp
  have b0 : w0.cell? ⟨w.heap.size, 0, none⟩ = some (.int .i64 (x.owner : Int)) := by rw [hw0]; simp
  have b1 : w0.cell? ⟨w.heap.size, 1, none⟩ = some (.int .i64 (x.old : Int)) := by rw [hw0]; simp
  have b2 : w0.cell? ⟨w.heap.size, 2, none⟩ = some (.int .i64 (x.new : Int)) := by rw [hw0]; simp
  have b3 : w0.cell? ⟨w.heap.size, 3, none⟩ = some (.bool x.used) := by rw [hw0]; simp
  have f0 := K0.cell h.at_ (fun e => e)
  have fz := (K0.frozen (p := ⟨wb, k, none⟩) lb (fun e => e)).trans hz
  have lb0 : wb < w0.heap.size := Nat.lt_of_lt_of_le lb K0.size
  have HO : Hid (w0.ownsRow 0 105 4 v xs.length (fl lc xs)) := K0.owns h.row (fun _ _ e => e)
  obtain ⟨a, cap, rfl, _⟩ := h.slice
  obtain ⟨i0, hi0, hz0, hz1, hz2⟩ := info_parts infoL
  have h63 : xs.length + 1 ≤ maxLen := by unfold maxLen; omega
  have hby : (xs.length + 1) * 32 ≤ 140737488355328 := by omega
  have q1 : ∀ ob, (w0.alloc ob).cell? ⟨wb, k, none⟩ = some (.slice a xs.length cap) := fun ob => ((Keeps.refl (fun _ => False) w0).alloc ob).cell f0 (fun e => e)
  have ka : ∀ (ob : Obj), (w0.alloc ob).drew.cell? ⟨wb, k, none⟩ = some (.slice a xs.length cap) ∧ (w0.alloc ob).drew.frozen? ⟨wb, k, none⟩ = false := fun ob =>
    ⟨(((Keeps.refl (fun _ => False) w0).alloc ob).drew).cell f0 (fun e => e), ((((Keeps.refl (fun _ => False) w0).alloc ob).drew).frozen (p := ⟨wb, k, none⟩) lb0 (fun e => e)).trans fz⟩
  clear h hz lb hn
  go_enter Tryz.func88, Tryz.ntmps88
  go_wp2_with fail
  rw [← hw0]
  clear hw0
  go_region_law ((refine step_append_lies _ (by rfl) _ _ _ (by rfl) 0 105 i0 _ 4 32 underL hi0 hz0 hz1 hz2 rfl (by omega) (.slice a xs.length cap) xs.length (fl lc xs) (by rfl) ((HO.out.alloc _).drew) ⟨w0.heap.size, 0, none⟩ 1 1 [.int .i64 (x.owner : Int), .int .i64 (x.old : Int), .int .i64 (x.new : Int), .bool x.used] (by rfl) (by rfl) (World.news_of_block (cs := #[.int .i64 (x.owner : Int), .int .i64 (x.old : Int), .int .i64 (x.new : Int), .bool x.used]) (t := 105) (fr := (0, 0)) (heap_alloc_new w0 _)) (by simp [Value.oneCell']) (by omega) h63 hby (Nat.zero_le _) (w0.heap.size + 1) (by simp) ?_; intro gg cap1 w4 hown1 hgrow hat hlt1; have r1 := (hgrow.cell_far ⟨wb, k, none⟩ (by simp; omega) (Ne.symm nw)).trans (ka _).1; have r2 := (hgrow.frozen_far ⟨wb, k, none⟩ (by simp; omega) (Ne.symm nw)).trans (ka _).2))
  all_goals
    obtain ⟨ρ', p1, a1⟩ := added_of H.out hne (K0.trans (((Keeps.refl _ w0).alloc _).drew)) hgrow hown1 (hat.imp id (fun e => by rw [e]; simp))
    have c1 := p1.at_
    clear r1 r2 f0 fz q1 ka hown1 hgrow hat hlt1 HO
    go_wp2_with fail
    go_ret
    exact ⟨by go_num, _, ρ', p1, a1⟩

theorem infoV : (Tryz.prog.info? 37).map (fun i => (i.zero, i.size, i.bytes)) = some (some (.agg #[.int .i64 0, .int .i64 0, .bool false]), 3, 24) := by kernel_rfl
theorem underV : Tryz.prog.underlying 22 = some (.slice 37) := by kernel_rfl
set_option maxHeartbeats 800000 in
set_option maxRecDepth 1000000 in
theorem atV {w : World} {ρ : Nat → Nat} {wb k r : Nat} {v : Value} {n : Nat} {xs : List Value} (h : PJ w ρ ⟨wb, k, none⟩ r 37 3 v n xs) {i g : Nat} (hi : i < n) (hg : v.ownBlock = some g) :
    Calls Tryz.prog 49 #[.pointer (some ⟨wb, k, none⟩), .int .i64 (i : Int)] w fun e w' => e = .returned (.pointer (some ⟨g, i * 3, none⟩)) ∧ w = w' := by
  obtain ⟨a, cap, rfl, hs⟩ := h.slice
  obtain ⟨g', rfl, hg', _⟩ := hs (by omega)
  obtain rfl : g' = g := by rw [hg] at hg'; cases hg'; rfl
  have f0 := h.at_
  have hiI : (i : Int) < (n : Int) := by omega
  have d1 : decide ((i : Int) < 0) = false := by simp
  have d2 : decide ((n : Int) ≤ (i : Int)) = false := by simp; omega
  have d3 : decide (n ≤ i) = false := by simp; omega
  clear h hs hg hg'
  go_enter Tryz.func49, Tryz.ntmps49
  go_wp2_with fail
  go_ret
  exact ⟨by simp, rfl⟩
set_option maxHeartbeats 800000 in
set_option maxRecDepth 1000000 in
theorem atNotV {w : World} {ρ : Nat → Nat} {wb k r : Nat} {v : Value} {n : Nat} {xs : List Value} (h : PJ w ρ ⟨wb, k, none⟩ r 37 3 v n xs) {i : Int} (hi : i < 0 ∨ (n : Int) ≤ i) :
    Calls Tryz.prog 49 #[.pointer (some ⟨wb, k, none⟩), .int .i64 i] w fun e w' => e = .returned (.pointer none) ∧ w = w' := by
  obtain ⟨a, cap, rfl, hs⟩ := h.slice
  have f0 := h.at_
  clear h hs
  rcases Int.lt_or_le i 0 with h0 | h0
  · have d1 : decide (i < 0) = true := by simp [h0]
    go_enter Tryz.func49, Tryz.ntmps49
    go_wp2_with fail
    go_ret
    exact ⟨rfl, rfl⟩
  · have d1 : decide (i < 0) = false := by simp [h0]
    have h1 : (n : Int) ≤ i := by omega
    have d2 : decide ((n : Int) ≤ i) = true := by simp [h1]
    go_enter Tryz.func49, Tryz.ntmps49
    go_wp2_with fail
    go_ret
    exact ⟨rfl, rfl⟩
set_option maxHeartbeats 1600000 in
set_option maxRecDepth 1000000 in
theorem addV {w : World} {ρ : Nat → Nat} {wb k r : Nat} {v : Value} {xs : List Vl} (h : PJ w ρ ⟨wb, k, none⟩ r 37 3 v xs.length (fl vc3 xs)) (hz : w.frozen? ⟨wb, k, none⟩ = false) (hne : ρ wb ≠ r) (hn : xs.length ≤ 70000) (x : Vl) :
    Calls Tryz.prog 87 #[.pointer (some ⟨wb, k, none⟩), .agg #[.int .i64 x.num, .int .i64 x.next, .bool x.dead]] w fun e w' => e = .returned (.int .i64 (xs.length : Int)) ∧ ∃ v' ρ', PJ w' ρ' ⟨wb, k, none⟩ r 37 3 v' (xs ++ [x]).length (fl vc3 (xs ++ [x])) ∧ Added w w' ρ ρ' wb k r := by
  have efl : fl vc3 (xs ++ [x]) = fl vc3 xs ++ vc3 x := by simp [fl]
  have eln : (xs ++ [x]).length = xs.length + 1 := by simp
  rw [efl, eln]
  clear efl eln
  have H : Hid (PJ w ρ ⟨wb, k, none⟩ r 37 3 v xs.length (fl vc3 xs)) := h
  have lb : wb < w.heap.size := World.block_lt_of_cell? _ _ h.at_
  have nw : v.ownBlock ≠ some wb := fun e => hne (h.role wb e)
  obtain ⟨w0, hw0⟩ : ∃ w0, w0 = w.alloc (.cells #[.int .i64 x.num, .int .i64 x.next, .bool x.dead] 37) := ⟨_, rfl⟩
  have K0 : Keeps (fun _ => False) w w0 := by rw [hw0]; exact (Keeps.refl _ w).alloc _
  have z0 : Hid (w0.heap.size = w.heap.size + 1) := by show _ = _; rw [hw0]; simp
  have b0 : w0.cell? ⟨w.heap.size, 0, none⟩ = some (.int .i64 x.num) := by rw [hw0]; simp
  have b1 : w0.cell? ⟨w.heap.size, 1, none⟩ = some (.int .i64 x.next) := by rw [hw0]; simp
  have b2 : w0.cell? ⟨w.heap.size, 2, none⟩ = some (.bool x.dead) := by rw [hw0]; simp
  have f0 := K0.cell h.at_ (fun e => e)
  have fz := (K0.frozen (p := ⟨wb, k, none⟩) lb (fun e => e)).trans hz
  have lb0 : wb < w0.heap.size := Nat.lt_of_lt_of_le lb K0.size
  have HO : Hid (w0.ownsRow 0 37 3 v xs.length (fl vc3 xs)) := K0.owns h.row (fun _ _ e => e)
  obtain ⟨a, cap, rfl, _⟩ := h.slice
  obtain ⟨i0, hi0, hz0, hz1, hz2⟩ := info_parts infoV
  have h63 : xs.length + 1 ≤ maxLen := by unfold maxLen; omega
  have hby : (xs.length + 1) * 24 ≤ 140737488355328 := by omega
  have q1 : ∀ ob, (w0.alloc ob).cell? ⟨wb, k, none⟩ = some (.slice a xs.length cap) := fun ob => ((Keeps.refl (fun _ => False) w0).alloc ob).cell f0 (fun e => e)
  have ka : ∀ (ob : Obj), (w0.alloc ob).drew.cell? ⟨wb, k, none⟩ = some (.slice a xs.length cap) ∧ (w0.alloc ob).drew.frozen? ⟨wb, k, none⟩ = false := fun ob =>
    ⟨(((Keeps.refl (fun _ => False) w0).alloc ob).drew).cell f0 (fun e => e), ((((Keeps.refl (fun _ => False) w0).alloc ob).drew).frozen (p := ⟨wb, k, none⟩) lb0 (fun e => e)).trans fz⟩
  clear h hz lb hn
  go_enter Tryz.func87, Tryz.ntmps87
  go_wp2_with fail
  rw [← hw0]
  clear hw0
  go_region_law ((refine step_append_lies _ (by rfl) _ _ _ (by rfl) 0 37 i0 _ 3 24 underV hi0 hz0 hz1 hz2 rfl (by omega) (.slice a xs.length cap) xs.length (fl vc3 xs) (by rfl) ((HO.out.alloc _).drew) ⟨w0.heap.size, 0, none⟩ 1 1 [.int .i64 x.num, .int .i64 x.next, .bool x.dead] (by rfl) (by rfl) (World.news_of_block (cs := #[.int .i64 x.num, .int .i64 x.next, .bool x.dead]) (t := 37) (fr := (0, 0)) (heap_alloc_new w0 _)) (by simp [Value.oneCell']) (by omega) h63 hby (Nat.zero_le _) (w0.heap.size + 1) (by simp) ?_; intro gg cap1 w4 hown1 hgrow hat hlt1; have r1 := (hgrow.cell_far ⟨wb, k, none⟩ (by simp; omega) (Ne.symm nw)).trans (ka _).1; have r2 := (hgrow.frozen_far ⟨wb, k, none⟩ (by simp; omega) (Ne.symm nw)).trans (ka _).2))
  all_goals
    obtain ⟨ρ', p1, a1⟩ := added_of H.out hne (K0.trans (((Keeps.refl _ w0).alloc _).drew)) hgrow hown1 (hat.imp id (fun e => by rw [e]; simp))
    have c1 := p1.at_
    clear r1 r2 f0 fz q1 ka hown1 hgrow hat hlt1 HO
    go_wp2_with fail
    go_ret
    exact ⟨by go_num, _, ρ', p1, a1⟩
end Go.Proofs.YtaikngpgmcpecaaGreat
