import Derived.Test.YtgjndhbfjofkeaaGreatDoorG03
import Derived.IntWalk
import Derived.Test.YtgjndhbfjofkeaaGreatDoorG01
import Derived.Maps.OwnSet
namespace Go.Proofs.YtgjndhbfjofkeaaGreatDoor
open Go.RowKit
structure Added (w w' : World) (ρ ρ' : Nat → Nat) (wb k r : Nat) : Prop where
  keeps : Keeps (fun i => ρ i = r ∨ i = wb) w w'
  old : ∀ i, i < w.heap.size → ρ' i = ρ i
  new : ∀ i, w.heap.size ≤ i → ρ' i = r ∨ ρ' i = 0
  bnd : Bnd w' ρ'
  far : ∀ o v, o ≠ k → w.cell? ⟨wb, o, none⟩ = some v → w'.cell? ⟨wb, o, none⟩ = some v
  fz : ∀ o, w'.frozen? ⟨wb, o, none⟩ = w.frozen? ⟨wb, o, none⟩
theorem added_of {w w0 w4 : World} {ρ : Nat → Nat} {wb k r e z n cap gg : Nat} {v : Value} {xs ys : List Value} (h : PJ w ρ ⟨wb, k, none⟩ r e z v n xs) (hne : ρ wb ≠ r) (K0 : Keeps (fun _ => False) w w0) (hg : w0.grownBy w4 v.ownBlock)
    (ho : w4.ownsRow 0 e z (.slice (some ⟨gg, 0, none⟩) (n + 1) cap) (n + 1) ys) (hat : v.ownBlock = some gg ∨ w0.heap.size ≤ gg) :
    ∃ ρ', PJ (w4.setCell ⟨wb, k, none⟩ (.slice (some ⟨gg, 0, none⟩) (n + 1) cap)) ρ' ⟨wb, k, none⟩ r e z (.slice (some ⟨gg, 0, none⟩) (n + 1) cap) (n + 1) ys ∧ Added w (w4.setCell ⟨wb, k, none⟩ (.slice (some ⟨gg, 0, none⟩) (n + 1) cap)) ρ ρ' wb k r := by
  have lb : wb < w.heap.size := World.block_lt_of_cell? _ _ h.at_
  have nw : ¬ v.ownBlock = some wb := fun e => hne (h.role wb e)
  have K1 : Keeps (fun i => v.ownBlock = some i) w0 w4 := (Keeps.refl _ w0).grown hg (fun _ _ e => e)
  have K2 := keeps_set w4 wb k (.slice (some ⟨gg, 0, none⟩) (n + 1) cap)
  have K01 : Keeps (fun i => v.ownBlock = some i) w w4 := K0.trans' K1 (fun _ _ e => e.elim) (fun _ _ e => e)
  have KK : Keeps (fun i => ρ i = r ∨ i = wb) w (w4.setCell ⟨wb, k, none⟩ (.slice (some ⟨gg, 0, none⟩) (n + 1) cap)) := K01.trans' K2 (fun i _ e => .inl (h.role i e)) (fun _ _ e => .inr e)
  have lg : gg < w4.heap.size := owns_lt' ho gg rfl
  have s0 := K0.size
  have gw : gg ≠ wb := by
    rcases hat with e | e
    · exact fun e' => nw (e' ▸ e)
    · omega
  refine ⟨ro ρ w (w4.setCell ⟨wb, k, none⟩ (.slice (some ⟨gg, 0, none⟩) (n + 1) cap)) (fun i => i = gg) r, ⟨World.cell?_setCell_same _ _ _ (K01.cell h.at_ nw), K2.owns ho (fun g e => by cases e; exact gw), fun g e => ?_⟩, KK, fun i hi => ro_old hi, fun i hi => ?_, ro_bnd KK.size, fun o u hk hu => ?_, fun o => ?_⟩
  · cases e
    rcases Nat.lt_or_ge gg w.heap.size with l | l
    · rw [ro_old l]
      exact h.role gg (hat.resolve_right (by omega))
    · exact ro_new l rfl (by simpa using lg)
  · by_cases e : i = gg ∧ i < (w4.setCell ⟨wb, k, none⟩ (.slice (some ⟨gg, 0, none⟩) (n + 1) cap)).heap.size
    · exact .inl (ro_new hi e.1 e.2)
    · right
      have h1 : ¬ i < w.heap.size := by omega
      unfold ro
      rw [if_neg h1, if_neg e]
  · rw [World.cell?_setCell_other _ _ _ _ (fun e => by cases e; exact hk rfl)]; exact K01.cell hu nw
  · rw [World.frozen?_setCell]; exact K01.frozen (p := ⟨wb, o, none⟩) lb nw
theorem pool_cell {w : World} {ρ : Nat → Nat} {p : Addr} {r e z n : Nat} {v : Value} {α : Type} {f : α → List Value} {m : Nat} (hf : ∀ x, (f x).length = m) {xs : List α} (h : PJ w ρ p r e z v n (fl f xs)) {g : Nat} (hg : v.ownBlock = some g) {i : Nat} {x : α} (hi : xs[i]? = some x) {j : Nat} {u : Value} (hj : (f x)[j]? = some u) : w.cell? ⟨g, i * m + j, none⟩ = some u := by
  have hl : j < m := by
    rcases Nat.lt_or_ge j m with l | l
    · exact l
    · rw [List.getElem?_eq_none (by rw [hf]; exact l)] at hj; cases hj
  exact owns_cell h.row hg (by rw [fl_get hf xs i j hl, hi]; exact hj)
theorem infoO : (Tryz.prog.info? 3).map (fun i => (i.zero, i.size, i.bytes)) = some (some (.int .i64 0), 1, 8) := by kernel_rfl
theorem underO : Tryz.prog.underlying 121 = some (.slice 3) := by kernel_rfl
set_option maxHeartbeats 800000 in
set_option maxRecDepth 1000000 in
theorem sizeO {w : World} {ρ : Nat → Nat} {wb k r : Nat} {v : Value} {n : Nat} {xs : List Value} (h : PJ w ρ ⟨wb, k, none⟩ r 3 1 v n xs) :
    Calls Tryz.prog 123 #[.pointer (some ⟨wb, k, none⟩)] w fun e w' => e = .returned (.int .i64 (n : Int)) ∧ w = w' := by
  obtain ⟨a, cap, rfl, _⟩ := h.slice
  have f0 := h.at_
  go_enter Tryz.func123, Tryz.ntmps123
  go_wp2
  go_ret
  exact ⟨rfl, rfl⟩
set_option maxHeartbeats 800000 in
set_option maxRecDepth 1000000 in
theorem atO {w : World} {ρ : Nat → Nat} {wb k r : Nat} {v : Value} {n : Nat} {xs : List Value} (h : PJ w ρ ⟨wb, k, none⟩ r 3 1 v n xs) {i g : Nat} (hi : i < n) (hg : v.ownBlock = some g) :
    Calls Tryz.prog 157 #[.pointer (some ⟨wb, k, none⟩), .int .i64 (i : Int)] w fun e w' => e = .returned (.pointer (some ⟨g, i * 1, none⟩)) ∧ w = w' := by
  obtain ⟨a, cap, rfl, hs⟩ := h.slice
  obtain ⟨g', rfl, hg', _⟩ := hs (by omega)
  obtain rfl : g' = g := by rw [hg] at hg'; cases hg'; rfl
  have f0 := h.at_
  have hiI : (i : Int) < (n : Int) := by omega
  have d1 : decide ((i : Int) < 0) = false := by simp
  have d2 : decide ((n : Int) ≤ (i : Int)) = false := by simp; omega
  have d3 : decide (n ≤ i) = false := by simp; omega
  clear h hs hg hg'
  go_enter Tryz.func157, Tryz.ntmps157
  go_wp2_with fail
  go_ret
  exact ⟨by simp, rfl⟩
set_option maxHeartbeats 1600000 in
set_option maxRecDepth 1000000 in
theorem addO {w : World} {ρ : Nat → Nat} {wb k r : Nat} {v : Value} {xs : List Nat} (h : PJ w ρ ⟨wb, k, none⟩ r 3 1 v xs.length (fl oc xs)) (hz : w.frozen? ⟨wb, k, none⟩ = false) (hne : ρ wb ≠ r) (hn : xs.length ≤ 70000) (x : Nat) :
    Calls Tryz.prog 74 #[.pointer (some ⟨wb, k, none⟩), .int .i64 (x : Int)] w fun e w' => e = .returned (.int .i64 (xs.length : Int)) ∧ ∃ v' ρ', PJ w' ρ' ⟨wb, k, none⟩ r 3 1 v' (xs ++ [x]).length (fl oc (xs ++ [x])) ∧ Added w w' ρ ρ' wb k r := by
  have efl : fl oc (xs ++ [x]) = fl oc xs ++ oc x := by simp [fl]
  have eln : (xs ++ [x]).length = xs.length + 1 := by simp
  rw [efl, eln]
  clear efl eln
  have H : Hid (PJ w ρ ⟨wb, k, none⟩ r 3 1 v xs.length (fl oc xs)) := h
  have lb : wb < w.heap.size := World.block_lt_of_cell? _ _ h.at_
  have nw : v.ownBlock ≠ some wb := fun e => hne (h.role wb e)
  have f0 := h.at_
  have HO : Hid (w.ownsRow 0 3 1 v xs.length (fl oc xs)) := h.row
  obtain ⟨a, cap, rfl, _⟩ := h.slice
  obtain ⟨i0, hi0, hz0, hz1, hz2⟩ := info_parts infoO
  have h63 : xs.length + 1 ≤ maxLen := by unfold maxLen; omega
  have hby : (xs.length + 1) * 8 ≤ 140737488355328 := by omega
  have KA : Keeps (fun _ => False) w (w.alloc (.cells #[.int .i64 (x : Int)] 3)) := (Keeps.refl _ w).alloc _
  clear h hn
  go_enter Tryz.func74, Tryz.ntmps74
  go_wp2_with ((at_builtin; refine wpList_append_lies _ rfl _ _ _ rfl 0 3 i0 _ 1 8 underO hi0 hz0 hz1 hz2 rfl (by decide) (.slice a xs.length cap) xs.length (fl oc xs) rfl (HO.out.alloc _) ⟨w.heap.size, 0, none⟩ 1 1 [.int .i64 (x : Int)] rfl rfl (World.news_of_block (cs := #[.int .i64 (x : Int)]) (t := 3) (fr := (0, 0)) (heap_alloc_new w _)) (by simp [Value.oneCell']) (by omega) h63 hby (by simp) _ rfl ?_))
  intro gg cap1 w4 hown1 hgrow hat hlt1
  obtain ⟨ρ', p1, a1⟩ := added_of H.out hne KA hgrow hown1 (hat.imp id (fun e => by rw [e]; simp))
  have c1 := p1.at_
  have r1 := hgrow.cell (KA.cell f0 (fun e => e)) (Ne.symm nw)
  have r2 := (hgrow.frozen_far ⟨wb, k, none⟩ (by simp; omega) (Ne.symm nw)).trans ((KA.frozen (p := ⟨wb, k, none⟩) lb (fun e => e)).trans hz)
  clear f0 hz HO hown1 hgrow hat hlt1
  go_wp2_with fail
  go_ret
  exact ⟨by go_num, _, ρ', p1, a1⟩
theorem infoA : (Tryz.prog.info? 85).map (fun i => (i.zero, i.size, i.bytes)) = some (some (.agg #[.int .i64 0, .int .i64 0, .int .i64 0, .int .i64 0, .int .i64 0]), 5, 40) := by kernel_rfl
theorem underA : Tryz.prog.underlying 124 = some (.slice 85) := by kernel_rfl
set_option maxHeartbeats 800000 in
set_option maxRecDepth 1000000 in
theorem sizeA {w : World} {ρ : Nat → Nat} {wb k r : Nat} {v : Value} {n : Nat} {xs : List Value} (h : PJ w ρ ⟨wb, k, none⟩ r 85 5 v n xs) :
    Calls Tryz.prog 122 #[.pointer (some ⟨wb, k, none⟩)] w fun e w' => e = .returned (.int .i64 (n : Int)) ∧ w = w' := by
  obtain ⟨a, cap, rfl, _⟩ := h.slice
  have f0 := h.at_
  go_enter Tryz.func122, Tryz.ntmps122
  go_wp2
  go_ret
  exact ⟨rfl, rfl⟩
set_option maxHeartbeats 800000 in
set_option maxRecDepth 1000000 in
theorem atA {w : World} {ρ : Nat → Nat} {wb k r : Nat} {v : Value} {n : Nat} {xs : List Value} (h : PJ w ρ ⟨wb, k, none⟩ r 85 5 v n xs) {i g : Nat} (hi : i < n) (hg : v.ownBlock = some g) :
    Calls Tryz.prog 64 #[.pointer (some ⟨wb, k, none⟩), .int .i64 (i : Int)] w fun e w' => e = .returned (.pointer (some ⟨g, i * 5, none⟩)) ∧ w = w' := by
  obtain ⟨a, cap, rfl, hs⟩ := h.slice
  obtain ⟨g', rfl, hg', _⟩ := hs (by omega)
  obtain rfl : g' = g := by rw [hg] at hg'; cases hg'; rfl
  have f0 := h.at_
  have hiI : (i : Int) < (n : Int) := by omega
  have d1 : decide ((i : Int) < 0) = false := by simp
  have d2 : decide ((n : Int) ≤ (i : Int)) = false := by simp; omega
  have d3 : decide (n ≤ i) = false := by simp; omega
  clear h hs hg hg'
  go_enter Tryz.func64, Tryz.ntmps64
  go_wp2_with fail
  go_ret
  exact ⟨by simp, rfl⟩
set_option maxHeartbeats 1600000 in
set_option maxRecDepth 1000000 in
theorem addA {w : World} {ρ : Nat → Nat} {wb k r : Nat} {v : Value} {xs : List At} (h : PJ w ρ ⟨wb, k, none⟩ r 85 5 v xs.length (fl ac xs)) (hz : w.frozen? ⟨wb, k, none⟩ = false) (hne : ρ wb ≠ r) (hn : xs.length ≤ 70000) (x : At) :
    Calls Tryz.prog 94 #[.pointer (some ⟨wb, k, none⟩), .agg #[.int .i64 x.thread, .int .i64 x.stamp, .int .i64 x.prio, .int .i64 (x.status : Int), .int .i64 (x.flag : Int)]] w fun e w' => e = .returned (.int .i64 (xs.length : Int)) ∧ ∃ v' ρ', PJ w' ρ' ⟨wb, k, none⟩ r 85 5 v' (xs ++ [x]).length (fl ac (xs ++ [x])) ∧ Added w w' ρ ρ' wb k r := by
  have efl : fl ac (xs ++ [x]) = fl ac xs ++ ac x := by simp [fl]
  have eln : (xs ++ [x]).length = xs.length + 1 := by simp
  rw [efl, eln]
  clear efl eln
  have H : Hid (PJ w ρ ⟨wb, k, none⟩ r 85 5 v xs.length (fl ac xs)) := h
  have lb : wb < w.heap.size := World.block_lt_of_cell? _ _ h.at_
  have nw : v.ownBlock ≠ some wb := fun e => hne (h.role wb e)
  obtain ⟨w0, hw0⟩ : ∃ w0, w0 = w.alloc (.cells #[.int .i64 x.thread, .int .i64 x.stamp, .int .i64 x.prio, .int .i64 (x.status : Int), .int .i64 (x.flag : Int)] 85) := ⟨_, rfl⟩
  have K0 : Keeps (fun _ => False) w w0 := by rw [hw0]; exact (Keeps.refl _ w).alloc _
  have z0 : Hid (w0.heap.size = w.heap.size + 1) := by show _ = _; rw [hw0]; simp
  have b0 : w0.cell? ⟨w.heap.size, 0, none⟩ = some (.int .i64 x.thread) := by rw [hw0]; simp
  have b1 : w0.cell? ⟨w.heap.size, 1, none⟩ = some (.int .i64 x.stamp) := by rw [hw0]; simp
  have b2 : w0.cell? ⟨w.heap.size, 2, none⟩ = some (.int .i64 x.prio) := by rw [hw0]; simp
  have b3 : w0.cell? ⟨w.heap.size, 3, none⟩ = some (.int .i64 (x.status : Int)) := by rw [hw0]; simp
  have b4 : w0.cell? ⟨w.heap.size, 4, none⟩ = some (.int .i64 (x.flag : Int)) := by rw [hw0]; simp
  have f0 := K0.cell h.at_ (fun e => e)
  have fz := (K0.frozen (p := ⟨wb, k, none⟩) lb (fun e => e)).trans hz
  have lb0 : wb < w0.heap.size := Nat.lt_of_lt_of_le lb K0.size
  have HO : Hid (w0.ownsRow 0 85 5 v xs.length (fl ac xs)) := K0.owns h.row (fun _ _ e => e)
  obtain ⟨a, cap, rfl, _⟩ := h.slice
  obtain ⟨i0, hi0, hz0, hz1, hz2⟩ := info_parts infoA
  have h63 : xs.length + 1 ≤ maxLen := by unfold maxLen; omega
  have hby : (xs.length + 1) * 40 ≤ 140737488355328 := by omega
  have q1 : ∀ ob, (w0.alloc ob).cell? ⟨wb, k, none⟩ = some (.slice a xs.length cap) := fun ob => ((Keeps.refl (fun _ => False) w0).alloc ob).cell f0 (fun e => e)
  have ka : ∀ (ob : Obj), (w0.alloc ob).drew.cell? ⟨wb, k, none⟩ = some (.slice a xs.length cap) ∧ (w0.alloc ob).drew.frozen? ⟨wb, k, none⟩ = false := fun ob =>
    ⟨(((Keeps.refl (fun _ => False) w0).alloc ob).drew).cell f0 (fun e => e), ((((Keeps.refl (fun _ => False) w0).alloc ob).drew).frozen (p := ⟨wb, k, none⟩) lb0 (fun e => e)).trans fz⟩
  clear h hz lb hn
  go_enter Tryz.func94, Tryz.ntmps94
  go_wp2_with fail
  rw [← hw0]
  clear hw0
  go_region_law ((refine step_append_lies _ (by rfl) _ _ _ (by rfl) 0 85 i0 _ 5 40 underA hi0 hz0 hz1 hz2 rfl (by omega) (.slice a xs.length cap) xs.length (fl ac xs) (by rfl) ((HO.out.alloc _).drew) ⟨w0.heap.size, 0, none⟩ 1 1 [.int .i64 x.thread, .int .i64 x.stamp, .int .i64 x.prio, .int .i64 (x.status : Int), .int .i64 (x.flag : Int)] (by rfl) (by rfl) (World.news_of_block (cs := #[.int .i64 x.thread, .int .i64 x.stamp, .int .i64 x.prio, .int .i64 (x.status : Int), .int .i64 (x.flag : Int)]) (t := 85) (fr := (0, 0)) (heap_alloc_new w0 _)) (by simp [Value.oneCell']) (by omega) h63 hby (Nat.zero_le _) (w0.heap.size + 1) (by simp) ?_; intro gg cap1 w4 hown1 hgrow hat hlt1; have r1 := (hgrow.cell_far ⟨wb, k, none⟩ (by simp; omega) (Ne.symm nw)).trans (ka _).1; have r2 := (hgrow.frozen_far ⟨wb, k, none⟩ (by simp; omega) (Ne.symm nw)).trans (ka _).2))
  all_goals
    obtain ⟨ρ', p1, a1⟩ := added_of H.out hne (K0.trans (((Keeps.refl _ w0).alloc _).drew)) hgrow hown1 (hat.imp id (fun e => by rw [e]; simp))
    have c1 := p1.at_
    clear r1 r2 f0 fz q1 ka hown1 hgrow hat hlt1 HO
    go_wp2_with fail
    go_ret
    exact ⟨by go_num, _, ρ', p1, a1⟩
theorem infoL : (Tryz.prog.info? 159).map (fun i => (i.zero, i.size, i.bytes)) = some (some (.agg #[.int .i64 0, .int .i64 0, .int .i64 0, .bool false]), 4, 32) := by kernel_rfl
theorem underL : Tryz.prog.underlying 127 = some (.slice 159) := by kernel_rfl
set_option maxHeartbeats 800000 in
set_option maxRecDepth 1000000 in
theorem sizeL {w : World} {ρ : Nat → Nat} {wb k r : Nat} {v : Value} {n : Nat} {xs : List Value} (h : PJ w ρ ⟨wb, k, none⟩ r 159 4 v n xs) :
    Calls Tryz.prog 168 #[.pointer (some ⟨wb, k, none⟩)] w fun e w' => e = .returned (.int .i64 (n : Int)) ∧ w = w' := by
  obtain ⟨a, cap, rfl, _⟩ := h.slice
  have f0 := h.at_
  go_enter Tryz.func168, Tryz.ntmps168
  go_wp2
  go_ret
  exact ⟨rfl, rfl⟩
set_option maxHeartbeats 800000 in
set_option maxRecDepth 1000000 in
theorem atL {w : World} {ρ : Nat → Nat} {wb k r : Nat} {v : Value} {n : Nat} {xs : List Value} (h : PJ w ρ ⟨wb, k, none⟩ r 159 4 v n xs) {i g : Nat} (hi : i < n) (hg : v.ownBlock = some g) :
    Calls Tryz.prog 73 #[.pointer (some ⟨wb, k, none⟩), .int .i64 (i : Int)] w fun e w' => e = .returned (.pointer (some ⟨g, i * 4, none⟩)) ∧ w = w' := by
  obtain ⟨a, cap, rfl, hs⟩ := h.slice
  obtain ⟨g', rfl, hg', _⟩ := hs (by omega)
  obtain rfl : g' = g := by rw [hg] at hg'; cases hg'; rfl
  have f0 := h.at_
  have hiI : (i : Int) < (n : Int) := by omega
  have d1 : decide ((i : Int) < 0) = false := by simp
  have d2 : decide ((n : Int) ≤ (i : Int)) = false := by simp; omega
  have d3 : decide (n ≤ i) = false := by simp; omega
  clear h hs hg hg'
  go_enter Tryz.func73, Tryz.ntmps73
  go_wp2_with fail
  go_ret
  exact ⟨by simp, rfl⟩
set_option maxHeartbeats 1600000 in
set_option maxRecDepth 1000000 in
theorem addL {w : World} {ρ : Nat → Nat} {wb k r : Nat} {v : Value} {xs : List Lo} (h : PJ w ρ ⟨wb, k, none⟩ r 159 4 v xs.length (fl lc xs)) (hz : w.frozen? ⟨wb, k, none⟩ = false) (hne : ρ wb ≠ r) (hn : xs.length ≤ 70000) (x : Lo) :
    Calls Tryz.prog 96 #[.pointer (some ⟨wb, k, none⟩), .agg #[.int .i64 (x.owner : Int), .int .i64 (x.old : Int), .int .i64 (x.new : Int), .bool x.used]] w fun e w' => e = .returned (.int .i64 (xs.length : Int)) ∧ ∃ v' ρ', PJ w' ρ' ⟨wb, k, none⟩ r 159 4 v' (xs ++ [x]).length (fl lc (xs ++ [x])) ∧ Added w w' ρ ρ' wb k r := by
  have efl : fl lc (xs ++ [x]) = fl lc xs ++ lc x := by simp [fl]
  have eln : (xs ++ [x]).length = xs.length + 1 := by simp
  rw [efl, eln]
  clear efl eln
  have H : Hid (PJ w ρ ⟨wb, k, none⟩ r 159 4 v xs.length (fl lc xs)) := h
  have lb : wb < w.heap.size := World.block_lt_of_cell? _ _ h.at_
  have nw : v.ownBlock ≠ some wb := fun e => hne (h.role wb e)
  obtain ⟨w0, hw0⟩ : ∃ w0, w0 = w.alloc (.cells #[.int .i64 (x.owner : Int), .int .i64 (x.old : Int), .int .i64 (x.new : Int), .bool x.used] 159) := ⟨_, rfl⟩
  have K0 : Keeps (fun _ => False) w w0 := by rw [hw0]; exact (Keeps.refl _ w).alloc _
  have z0 : Hid (w0.heap.size = w.heap.size + 1) := by show _ = _; rw [hw0]; simp
  have b0 : w0.cell? ⟨w.heap.size, 0, none⟩ = some (.int .i64 (x.owner : Int)) := by rw [hw0]; simp
  have b1 : w0.cell? ⟨w.heap.size, 1, none⟩ = some (.int .i64 (x.old : Int)) := by rw [hw0]; simp
  have b2 : w0.cell? ⟨w.heap.size, 2, none⟩ = some (.int .i64 (x.new : Int)) := by rw [hw0]; simp
  have b3 : w0.cell? ⟨w.heap.size, 3, none⟩ = some (.bool x.used) := by rw [hw0]; simp
  have f0 := K0.cell h.at_ (fun e => e)
  have fz := (K0.frozen (p := ⟨wb, k, none⟩) lb (fun e => e)).trans hz
  have lb0 : wb < w0.heap.size := Nat.lt_of_lt_of_le lb K0.size
  have HO : Hid (w0.ownsRow 0 159 4 v xs.length (fl lc xs)) := K0.owns h.row (fun _ _ e => e)
  obtain ⟨a, cap, rfl, _⟩ := h.slice
  obtain ⟨i0, hi0, hz0, hz1, hz2⟩ := info_parts infoL
  have h63 : xs.length + 1 ≤ maxLen := by unfold maxLen; omega
  have hby : (xs.length + 1) * 32 ≤ 140737488355328 := by omega
  have q1 : ∀ ob, (w0.alloc ob).cell? ⟨wb, k, none⟩ = some (.slice a xs.length cap) := fun ob => ((Keeps.refl (fun _ => False) w0).alloc ob).cell f0 (fun e => e)
  have ka : ∀ (ob : Obj), (w0.alloc ob).drew.cell? ⟨wb, k, none⟩ = some (.slice a xs.length cap) ∧ (w0.alloc ob).drew.frozen? ⟨wb, k, none⟩ = false := fun ob =>
    ⟨(((Keeps.refl (fun _ => False) w0).alloc ob).drew).cell f0 (fun e => e), ((((Keeps.refl (fun _ => False) w0).alloc ob).drew).frozen (p := ⟨wb, k, none⟩) lb0 (fun e => e)).trans fz⟩
  clear h hz lb hn
  go_enter Tryz.func96, Tryz.ntmps96
  go_wp2_with fail
  rw [← hw0]
  clear hw0
  go_region_law ((refine step_append_lies _ (by rfl) _ _ _ (by rfl) 0 159 i0 _ 4 32 underL hi0 hz0 hz1 hz2 rfl (by omega) (.slice a xs.length cap) xs.length (fl lc xs) (by rfl) ((HO.out.alloc _).drew) ⟨w0.heap.size, 0, none⟩ 1 1 [.int .i64 (x.owner : Int), .int .i64 (x.old : Int), .int .i64 (x.new : Int), .bool x.used] (by rfl) (by rfl) (World.news_of_block (cs := #[.int .i64 (x.owner : Int), .int .i64 (x.old : Int), .int .i64 (x.new : Int), .bool x.used]) (t := 159) (fr := (0, 0)) (heap_alloc_new w0 _)) (by simp [Value.oneCell']) (by omega) h63 hby (Nat.zero_le _) (w0.heap.size + 1) (by simp) ?_; intro gg cap1 w4 hown1 hgrow hat hlt1; have r1 := (hgrow.cell_far ⟨wb, k, none⟩ (by simp; omega) (Ne.symm nw)).trans (ka _).1; have r2 := (hgrow.frozen_far ⟨wb, k, none⟩ (by simp; omega) (Ne.symm nw)).trans (ka _).2))
  all_goals
    obtain ⟨ρ', p1, a1⟩ := added_of H.out hne (K0.trans (((Keeps.refl _ w0).alloc _).drew)) hgrow hown1 (hat.imp id (fun e => by rw [e]; simp))
    have c1 := p1.at_
    clear r1 r2 f0 fz q1 ka hown1 hgrow hat hlt1 HO
    go_wp2_with fail
    go_ret
    exact ⟨by go_num, _, ρ', p1, a1⟩
theorem infoV : (Tryz.prog.info? 34).map (fun i => (i.zero, i.size, i.bytes)) = some (some (.agg #[.int .i64 0, .int .i64 0, .bool false]), 3, 24) := by kernel_rfl
theorem underV : Tryz.prog.underlying 112 = some (.slice 34) := by kernel_rfl
set_option maxHeartbeats 800000 in
set_option maxRecDepth 1000000 in
theorem atV {w : World} {ρ : Nat → Nat} {wb k r : Nat} {v : Value} {n : Nat} {xs : List Value} (h : PJ w ρ ⟨wb, k, none⟩ r 34 3 v n xs) {i g : Nat} (hi : i < n) (hg : v.ownBlock = some g) :
    Calls Tryz.prog 138 #[.pointer (some ⟨wb, k, none⟩), .int .i64 (i : Int)] w fun e w' => e = .returned (.pointer (some ⟨g, i * 3, none⟩)) ∧ w = w' := by
  obtain ⟨a, cap, rfl, hs⟩ := h.slice
  obtain ⟨g', rfl, hg', _⟩ := hs (by omega)
  obtain rfl : g' = g := by rw [hg] at hg'; cases hg'; rfl
  have f0 := h.at_
  have hiI : (i : Int) < (n : Int) := by omega
  have d1 : decide ((i : Int) < 0) = false := by simp
  have d2 : decide ((n : Int) ≤ (i : Int)) = false := by simp; omega
  have d3 : decide (n ≤ i) = false := by simp; omega
  clear h hs hg hg'
  go_enter Tryz.func138, Tryz.ntmps138
  go_wp2_with fail
  go_ret
  exact ⟨by simp, rfl⟩
set_option maxHeartbeats 1600000 in
set_option maxRecDepth 1000000 in
theorem addV {w : World} {ρ : Nat → Nat} {wb k r : Nat} {v : Value} {xs : List Vl} (h : PJ w ρ ⟨wb, k, none⟩ r 34 3 v xs.length (fl vc3 xs)) (hz : w.frozen? ⟨wb, k, none⟩ = false) (hne : ρ wb ≠ r) (hn : xs.length ≤ 70000) (x : Vl) :
    Calls Tryz.prog 95 #[.pointer (some ⟨wb, k, none⟩), .agg #[.int .i64 x.num, .int .i64 x.next, .bool x.dead]] w fun e w' => e = .returned (.int .i64 (xs.length : Int)) ∧ ∃ v' ρ', PJ w' ρ' ⟨wb, k, none⟩ r 34 3 v' (xs ++ [x]).length (fl vc3 (xs ++ [x])) ∧ Added w w' ρ ρ' wb k r := by
  have efl : fl vc3 (xs ++ [x]) = fl vc3 xs ++ vc3 x := by simp [fl]
  have eln : (xs ++ [x]).length = xs.length + 1 := by simp
  rw [efl, eln]
  clear efl eln
  have H : Hid (PJ w ρ ⟨wb, k, none⟩ r 34 3 v xs.length (fl vc3 xs)) := h
  have lb : wb < w.heap.size := World.block_lt_of_cell? _ _ h.at_
  have nw : v.ownBlock ≠ some wb := fun e => hne (h.role wb e)
  obtain ⟨w0, hw0⟩ : ∃ w0, w0 = w.alloc (.cells #[.int .i64 x.num, .int .i64 x.next, .bool x.dead] 34) := ⟨_, rfl⟩
  have K0 : Keeps (fun _ => False) w w0 := by rw [hw0]; exact (Keeps.refl _ w).alloc _
  have z0 : Hid (w0.heap.size = w.heap.size + 1) := by show _ = _; rw [hw0]; simp
  have b0 : w0.cell? ⟨w.heap.size, 0, none⟩ = some (.int .i64 x.num) := by rw [hw0]; simp
  have b1 : w0.cell? ⟨w.heap.size, 1, none⟩ = some (.int .i64 x.next) := by rw [hw0]; simp
  have b2 : w0.cell? ⟨w.heap.size, 2, none⟩ = some (.bool x.dead) := by rw [hw0]; simp
  have f0 := K0.cell h.at_ (fun e => e)
  have fz := (K0.frozen (p := ⟨wb, k, none⟩) lb (fun e => e)).trans hz
  have lb0 : wb < w0.heap.size := Nat.lt_of_lt_of_le lb K0.size
  have HO : Hid (w0.ownsRow 0 34 3 v xs.length (fl vc3 xs)) := K0.owns h.row (fun _ _ e => e)
  obtain ⟨a, cap, rfl, _⟩ := h.slice
  obtain ⟨i0, hi0, hz0, hz1, hz2⟩ := info_parts infoV
  have h63 : xs.length + 1 ≤ maxLen := by unfold maxLen; omega
  have hby : (xs.length + 1) * 24 ≤ 140737488355328 := by omega
  have q1 : ∀ ob, (w0.alloc ob).cell? ⟨wb, k, none⟩ = some (.slice a xs.length cap) := fun ob => ((Keeps.refl (fun _ => False) w0).alloc ob).cell f0 (fun e => e)
  have ka : ∀ (ob : Obj), (w0.alloc ob).drew.cell? ⟨wb, k, none⟩ = some (.slice a xs.length cap) ∧ (w0.alloc ob).drew.frozen? ⟨wb, k, none⟩ = false := fun ob =>
    ⟨(((Keeps.refl (fun _ => False) w0).alloc ob).drew).cell f0 (fun e => e), ((((Keeps.refl (fun _ => False) w0).alloc ob).drew).frozen (p := ⟨wb, k, none⟩) lb0 (fun e => e)).trans fz⟩
  clear h hz lb hn
  go_enter Tryz.func95, Tryz.ntmps95
  go_wp2_with fail
  rw [← hw0]
  clear hw0
  go_region_law ((refine step_append_lies _ (by rfl) _ _ _ (by rfl) 0 34 i0 _ 3 24 underV hi0 hz0 hz1 hz2 rfl (by omega) (.slice a xs.length cap) xs.length (fl vc3 xs) (by rfl) ((HO.out.alloc _).drew) ⟨w0.heap.size, 0, none⟩ 1 1 [.int .i64 x.num, .int .i64 x.next, .bool x.dead] (by rfl) (by rfl) (World.news_of_block (cs := #[.int .i64 x.num, .int .i64 x.next, .bool x.dead]) (t := 34) (fr := (0, 0)) (heap_alloc_new w0 _)) (by simp [Value.oneCell']) (by omega) h63 hby (Nat.zero_le _) (w0.heap.size + 1) (by simp) ?_; intro gg cap1 w4 hown1 hgrow hat hlt1; have r1 := (hgrow.cell_far ⟨wb, k, none⟩ (by simp; omega) (Ne.symm nw)).trans (ka _).1; have r2 := (hgrow.frozen_far ⟨wb, k, none⟩ (by simp; omega) (Ne.symm nw)).trans (ka _).2))
  all_goals
    obtain ⟨ρ', p1, a1⟩ := added_of H.out hne (K0.trans (((Keeps.refl _ w0).alloc _).drew)) hgrow hown1 (hat.imp id (fun e => by rw [e]; simp))
    have c1 := p1.at_
    clear r1 r2 f0 fz q1 ka hown1 hgrow hat hlt1 HO
    go_wp2_with fail
    go_ret
    exact ⟨by go_num, _, ρ', p1, a1⟩
end Go.Proofs.YtgjndhbfjofkeaaGreatDoor

namespace Go.Proofs.YtgjndhbfjofkeaaGreatDoor
open Go.RowKit
section
variable {w w' : World} {ρ ρ' : Nat → Nat} {j wb mb : Nat} {s : Ws} {vo va vl vn : Value}
def Sr (u j : Nat) (r : Nat) : Prop := r = u ∨ (j ≤ r ∧ r < j + 5)
theorem Added.ext {k r u : Nat} (h : Added w w' ρ ρ' wb k r) (hj : ρ wb = j) (hr : j ≤ r ∧ r < j + 5) : Ext (Sr u j) w w' ρ ρ' :=
  ⟨h.keeps.mono (fun i _ e => e.elim (fun e => .inr (by omega)) (fun e => .inr (by subst e; omega))), h.old, fun i hi => (h.new i hi).imp (fun e => .inr (by omega)) id⟩
theorem PJ.added {k r k2 r2 e z n : Nat} {v : Value} {xs : List Value} (a : Added w w' ρ ρ' wb k r) (h : PJ w ρ ⟨wb, k2, none⟩ r2 e z v n xs) (hk : k2 ≠ k) (hr : r2 ≠ r) (hb : ρ wb ≠ r2) : PJ w' ρ' ⟨wb, k2, none⟩ r2 e z v n xs :=
  ⟨a.far _ _ hk h.at_, a.keeps.owns h.row (fun g hg e => e.elim (fun e => hr (by rw [← h.role g hg]; exact e)) (fun e => hb (by rw [← h.role g hg, e]))), fun g hg => (a.old g (owns_lt' h.row g hg)).trans (h.role g hg)⟩
theorem WV.addO {vo' : Value} {x : Nat} (h : WV w ρ j wb mb s vo va vl vn) (a : Added w w' ρ ρ' wb 1 (j + 1)) (p : PJ w' ρ' ⟨wb, 1, none⟩ (j + 1) 3 1 vo' (s.objs ++ [x]).length (fl oc (s.objs ++ [x]))) : WV w' ρ' j wb mb { s with objs := s.objs ++ [x] } vo' va vl vn :=
  have hr := h.role
  ⟨(a.old wb h.lt).trans hr, a.far _ _ (by omega) h.mem, fun o ho => (a.fz o).trans (h.z o ho), p, h.pa.added a (by omega) (by omega) (by omega), h.pl.added a (by omega) (by omega) (by omega), h.pv.added a (by omega) (by omega) (by omega)⟩
theorem WV.addA {va' : Value} {x : At} (h : WV w ρ j wb mb s vo va vl vn) (a : Added w w' ρ ρ' wb 2 (j + 2)) (p : PJ w' ρ' ⟨wb, 2, none⟩ (j + 2) 85 5 va' (s.atts ++ [x]).length (fl ac (s.atts ++ [x]))) : WV w' ρ' j wb mb { s with atts := s.atts ++ [x] } vo va' vl vn :=
  have hr := h.role
  ⟨(a.old wb h.lt).trans hr, a.far _ _ (by omega) h.mem, fun o ho => (a.fz o).trans (h.z o ho), h.po.added a (by omega) (by omega) (by omega), p, h.pl.added a (by omega) (by omega) (by omega), h.pv.added a (by omega) (by omega) (by omega)⟩
theorem WV.addL {vl' : Value} {x : Lo} (h : WV w ρ j wb mb s vo va vl vn) (a : Added w w' ρ ρ' wb 3 (j + 3)) (p : PJ w' ρ' ⟨wb, 3, none⟩ (j + 3) 159 4 vl' (s.locs ++ [x]).length (fl lc (s.locs ++ [x]))) : WV w' ρ' j wb mb { s with locs := s.locs ++ [x] } vo va vl' vn :=
  have hr := h.role
  ⟨(a.old wb h.lt).trans hr, a.far _ _ (by omega) h.mem, fun o ho => (a.fz o).trans (h.z o ho), h.po.added a (by omega) (by omega) (by omega), h.pa.added a (by omega) (by omega) (by omega), p, h.pv.added a (by omega) (by omega) (by omega)⟩
theorem WV.addV {vn' : Value} {x : Vl} (h : WV w ρ j wb mb s vo va vl vn) (a : Added w w' ρ ρ' wb 4 (j + 4)) (p : PJ w' ρ' ⟨wb, 4, none⟩ (j + 4) 34 3 vn' (s.vals ++ [x]).length (fl vc3 (s.vals ++ [x]))) : WV w' ρ' j wb mb { s with vals := s.vals ++ [x] } vo va vl vn' :=
  have hr := h.role
  ⟨(a.old wb h.lt).trans hr, a.far _ _ (by omega) h.mem, fun o ho => (a.fz o).trans (h.z o ho), h.po.added a (by omega) (by omega) (by omega), h.pa.added a (by omega) (by omega) (by omega), h.pl.added a (by omega) (by omega) (by omega), p⟩
end
structure St (w : World) (ρ : Nat → Nat) (u j wb mb : Nat) (s : Ws) (m : Mm) : Prop where
  bnd : Bnd w ρ
  mj : MJ w ρ u mb m
  wj : WJ w ρ j wb mb s
  u0 : u ≠ 0
  j0 : j ≠ 0
  ap : ¬ (j ≤ u ∧ u < j + 5)
section
variable {w w' : World} {ρ ρ' : Nat → Nat} {u j wb mb : Nat} {s s' : Ws} {m m' : Mm}
theorem Sr.not0 (h : St w ρ u j wb mb s m) : ¬ Sr u j 0 := fun e => e.elim (fun e => h.u0 e.symm) (fun e => h.j0 (by omega))
theorem St.new (h : St w ρ u j wb mb s m) (k : Keeps (fun _ => False) w w') : St w' ρ u j wb mb s m ∧ Ext (Sr u j) w w' ρ ρ :=
  have x := Ext.alloc (S := fun _ => False) h.bnd k
  ⟨⟨x.2, h.mj.ext x.1 (fun e => e), h.wj.ext x.1 (fun _ _ _ e => e), h.u0, h.j0, h.ap⟩, x.1.mono (fun _ e => e.elim)⟩
theorem St.wr (h : St w ρ u j wb mb s m) {B : Nat} (k : Keeps (fun i => i = B) w w') (hB : ρ B = 0) : St w' ρ u j wb mb s m :=
  have x : Ext (fun r => r = 0) w w' ρ ρ := ⟨k.mono (fun i _ e => by subst e; exact hB), fun _ _ => rfl, fun i hi => .inr (h.bnd i hi)⟩
  ⟨fun i hi => h.bnd i (Nat.le_trans k.size hi), h.mj.ext x (fun e => h.u0 e), h.wj.ext x (fun r h1 h2 e => h.j0 (by omega)), h.u0, h.j0, h.ap⟩
theorem St.mem (h : St w ρ u j wb mb s m) (k : MJ w' ρ' u mb m' ∧ Ext (fun r => r = u) w w' ρ ρ' ∧ Bnd w' ρ') : St w' ρ' u j wb mb s m' ∧ Ext (Sr u j) w w' ρ ρ' :=
  ⟨⟨k.2.2, k.1, h.wj.ext k.2.1 (fun r h1 h2 e => h.ap (by omega)), h.u0, h.j0, h.ap⟩, k.2.1.mono (fun _ e => .inl e)⟩
theorem St.own (h : St w ρ u j wb mb s m) (hw : WJ w' ρ' j wb mb s') (x : Ext (fun r => j ≤ r ∧ r < j + 5) w w' ρ ρ') (hb : Bnd w' ρ') : St w' ρ' u j wb mb s' m ∧ Ext (Sr u j) w w' ρ ρ' :=
  ⟨⟨hb, h.mj.ext x (fun e => h.ap e), hw, h.u0, h.j0, h.ap⟩, x.mono (fun _ e => .inr e)⟩
theorem Added.ext' {k r : Nat} (h : Added w w' ρ ρ' wb k r) (hj : ρ wb = j) (hr : j ≤ r ∧ r < j + 5) : Ext (fun r => j ≤ r ∧ r < j + 5) w w' ρ ρ' :=
  ⟨h.keeps.mono (fun i _ e => e.elim (fun e => by omega) (fun e => by subst e; omega)), h.old, fun i hi => (h.new i hi).imp (fun e => by omega) id⟩
theorem sbegin (h : St w ρ u j wb mb s m) (st th : Int) (hm : m.may st th = true) :
    Calls Tryz.prog 48 #[.pointer (some ⟨mb, 0, none⟩), .int .i64 st, .int .i64 th] w fun e w' => e = .returned (.int .i64 0) ∧ ∃ ρ', St w' ρ' u j wb mb s (m.begin st th) ∧ Ext (Sr u j) w w' ρ ρ' := by
  obtain ⟨F, hm1, hF⟩ := h.mj
  refine (begin_ok hm1 st th hm).mono ?_
  rintro e w' ⟨rfl, h', l⟩
  obtain ⟨ρ', k⟩ := MJ.next hF h' l
  exact ⟨rfl, ρ', h.mem k⟩
theorem smake (h : St w ρ u j wb mb s m) (x : Int) (hl : m.cells.length < 65536) :
    Calls Tryz.prog 50 #[.pointer (some ⟨mb, 0, none⟩), .int .i64 x] w fun e w' => e = .returned (.tuple #[.int .i64 m.cells.length, .int .i64 0]) ∧ ∃ ρ', St w' ρ' u j wb mb s (m.make x) ∧ Ext (Sr u j) w w' ρ ρ' := by
  obtain ⟨F, hm1, hF⟩ := h.mj
  refine (make_any hm1 x hl).mono ?_
  rintro e w' ⟨rfl, F', h', l⟩
  obtain ⟨ρ', k⟩ := MJ.next hF h' l
  exact ⟨rfl, ρ', h.mem k⟩
theorem sload (h : St w ρ u j wb mb s m) {c : Nat} (hc : c < m.cells.length) (hfr : m.free = true) (hlog : (m.log.length + 1) * 56 ≤ 140737488355328) :
    Calls Tryz.prog 143 #[.pointer (some ⟨mb, 0, none⟩), .int .i64 (c : Int)] w fun e w' =>
      e = .returned (.tuple #[.int .i64 (ca m.cells c).2, .int .i64 0]) ∧ ∃ ρ', St w' ρ' u j wb mb s (m.take 1 c (ca m.cells c).2 true) ∧ Ext (Sr u j) w w' ρ ρ' := by
  obtain ⟨F, hm1, hF⟩ := h.mj
  refine (load_ok hm1 hc hfr hlog).mono ?_
  rintro e w' ⟨rfl, F', h', l⟩
  obtain ⟨ρ', k⟩ := MJ.next hF h' l
  exact ⟨rfl, ρ', h.mem k⟩
theorem speek (h : St w ρ u j wb mb s m) {c : Nat} (hc : c < m.cells.length) :
    Calls Tryz.prog 17 #[.pointer (some ⟨mb, 0, none⟩), .int .i64 (c : Int)] w fun e w' => e = .returned (.tuple #[.int .i64 (ca m.cells c).2, .int .i64 0]) ∧ w = w' := by
  obtain ⟨F, hm1, _⟩ := h.mj
  exact (peek_any hm1 hc).mono (fun _ _ e => ⟨e.1, e.2.symm⟩)
theorem ssize (h : St w ρ u j wb mb s m) :
    Calls Tryz.prog 65 #[.pointer (some ⟨mb, 0, none⟩)] w fun e w' => e = .returned (.int .i64 m.cells.length) ∧ w = w' := by
  obtain ⟨F, hm1, _⟩ := h.mj
  exact (size_any hm1).mono (fun _ _ e => ⟨e.1, e.2.symm⟩)
set_option maxHeartbeats 800000 in
set_option maxRecDepth 1000000 in
theorem room_any (h : St w ρ u j wb mb s m) {c : Int} (hc : 0 ≤ c ∧ c ≤ 65536) :
    Calls Tryz.prog 70 #[.pointer (some ⟨wb, 0, none⟩), .int .i64 c] w fun e w' => e = .returned (.bool (decide ((m.cells.length : Int) ≤ 65536 - c))) ∧ w = w' := by
  have hs := ssize h
  obtain ⟨vo, va, vl, vn, hw⟩ := h.wj
  have hp := peq mb
  have f0 := hw.mem
  clear h hw
  go_enter Tryz.func70, Tryz.ntmps70
  go_wp2_with (go_at_call 65; refine hs.mono ?_; rintro e w' ⟨rfl, rfl⟩)
  go_ret
  exact ⟨by simp, rfl⟩
set_option maxHeartbeats 800000 in
set_option maxRecDepth 1000000 in
theorem cell_any (h : St w ρ u j wb mb s m) (x : Int) (hl : m.cells.length < 65536) :
    Calls Tryz.prog 75 #[.pointer (some ⟨wb, 0, none⟩), .int .i64 x] w fun e w' => e = .returned (.int .i64 (m.cells.length : Int)) ∧ ∃ ρ', St w' ρ' u j wb mb s (m.make x) ∧ Ext (Sr u j) w w' ρ ρ' := by
  have hs := smake h x hl
  obtain ⟨vo, va, vl, vn, hw⟩ := h.wj
  have f0 := hw.mem
  clear h hw
  go_enter Tryz.func75, Tryz.ntmps75
  go_wp2_with (go_at_call 50; refine hs.mono ?_; rintro e w' ⟨rfl, hS⟩)
  go_ret
  exact ⟨rfl, hS⟩
end
end Go.Proofs.YtgjndhbfjofkeaaGreatDoor

namespace Go.Proofs.YtgjndhbfjofkeaaGreatDoor
open Go.RowKit Go.Maps Go.ChangeMaps Go.MapKept Go.WideShapes
theorem underI : Tryz.prog.underlying 3 = some (.int .i64) := by kernel_rfl
theorem underM : Tryz.prog.underlying 135 = some (.map 3 3) := by kernel_rfl
theorem keyed : Keyed Tryz.prog 3 := int_keyed underI
theorem zeroI (w : World) : (zeroValue 3).run Tryz.prog w = .ok (.int .i64 0) w := by kernel_rfl
theorem tight {H : Type} {P : Program} {k : TypeId} {R : Value → Option (DataW H × List MemPlace)} {w : World} {b n : Nat} {D : DataW H} (h : w.ownsMap P k R b n D) : w.ownsMap P k R b (Maps.size D) D := by
  obtain ⟨es, clock, hb, F, hs, rfl⟩ := h
  exact ⟨es, clock, hb, F, by simp [Maps.size, length_sorted], rfl⟩
def OM (w : World) (mb n : Nat) (f : Int → Option Nat) : Prop :=
  ∃ D : DataW Unit, w.ownsMap Tryz.prog 3 (plainElem Tryz.prog 3) mb n D ∧ Maps.size D = n ∧
    ∀ k, I64 k → Maps.has D (.int .i64 k) = (f k).isSome ∧ D.atKey (.int .i64 k) (.lit (.int .i64 0)) = .lit (.int .i64 (((f k).getD 0 : Nat) : Int))
theorem OM.lt {w : World} {mb n : Nat} {f : Int → Option Nat} (h : OM w mb n f) : mb < w.heap.size := by
  obtain ⟨D, h, _⟩ := h
  exact h.lt
theorem OM.isMap {w : World} {mb n : Nat} {f : Int → Option Nat} (h : OM w mb n f) : ∃ es c, w.heap[mb]? = some (.map es c) := by
  obtain ⟨D, ⟨es, c, hb, _⟩, _⟩ := h
  exact ⟨es, c, hb⟩
theorem OM.same {w w' : World} {mb n : Nat} {f : Int → Option Nat} (h : OM w mb n f) (hb : w'.heap[mb]? = w.heap[mb]?) : OM w' mb n f := by
  obtain ⟨D, ⟨es, c, hb', r⟩, r'⟩ := h
  exact ⟨D, ⟨es, c, hb.trans hb', r⟩, r'⟩
theorem OM.keep {w w' : World} {mb n : Nat} {f : Int → Option Nat} {S : Nat → Prop} (h : OM w mb n f) (k : Keeps S w w') (hS : ¬ S mb) : OM w' mb n f := h.same (k.block mb h.lt hS)
theorem key_int {k : Int} (h : I64 k) : keyOf Tryz.prog 3 (.int .i64 k) = some (.int .i64 k) := keyOf_int_mk underI (wf_of_i64 h)
theorem wf0 : (Lit.int .i64 0).wf = true := by decide
theorem wfN {n : Nat} (h : n ≤ 9223372036854775807) : (Lit.int .i64 (n : Int)).wf = true := wf_of_i64 ⟨by omega, by omega⟩
theorem OM.look {w : World} {mb n : Nat} {f : Int → Option Nat} (h : OM w mb n f) {k : Int} (hk : I64 k) :
    (Instr.lookup 135 (.map (some mb)) (.int .i64 k) true).run Tryz.prog w = .ok (.tuple #[.int .i64 (((f k).getD 0 : Nat) : Int), .bool (f k).isSome]) w := by
  obtain ⟨D, h1, h2, h3⟩ := h
  obtain ⟨v, ps, hrun, hv⟩ := h1.look_ok keyed underM (zeroI w) (plainElem_int underI wf0) (key_int hk)
  obtain ⟨a, rfl, e, _⟩ := plainElem_int_inv underI hv
  have e' := congrArg Prod.fst e
  simp only [(h3 k hk).2] at e'
  cases e'
  rw [hrun, (h3 k hk).1]
theorem look_nil {w : World} {k : Int} (hk : I64 k) :
    (Instr.lookup 135 (.map none) (.int .i64 k) true).run Tryz.prog w = .ok (.tuple #[.int .i64 0, .bool false]) w := by
  have := Maps.look_nil (P := Tryz.prog) (w := w) true keyed underM (zeroI w) (key_int hk)
  simpa using this
theorem keeps_turned {w w' : World} {b : Nat} (h : w.mapTurned w' b) : Keeps (fun k => k = b) w w' := (Keeps.refl _ w).grown h.grown (fun _ _ e => by cases e; rfl)
theorem ne_key {a b : Int} (h : a ≠ b) : (Lit.int .i64 a) ≠ (Lit.int .i64 b) := fun e => h (by cases e; rfl)
theorem OM.put {w : World} {mb n : Nat} {f : Int → Option Nat} (h : OM w mb n f) {k : Int} (hk : I64 k) {v : Nat} (hv : v ≤ 9223372036854775807) (hn : n < 9223372036854775807) :
    ∃ w', (Instr.mapUpdate 135 (.map (some mb)) (.int .i64 k) (.int .i64 (v : Int))).run Tryz.prog w = .ok () w' ∧ OM w' mb (if (f k).isSome then n else n + 1) (upd f k (some v)) ∧ Keeps (fun i => i = mb) w w' := by
  obtain ⟨D, h1, h2, h3⟩ := h
  obtain ⟨w', hrun, hown, ht⟩ := h1.store keyed underM (by unfold maxLen; omega) (key_int hk) (plainElem_int underI (wfN hv))
  have hT := h1.tidy keyed
  refine ⟨w', hrun, ⟨D.put (.int .i64 k) (.lit (.int .i64 (v : Int))), ?_, ?_, fun x hx => ?_⟩, keeps_turned ht⟩
  · have e := size_put (k := .int .i64 k) hT (.lit (.int .i64 (v : Int)))
    rw [(h3 k hk).1, h2] at e
    rw [← e]
    exact tight hown
  · have e := size_put (k := .int .i64 k) hT (.lit (.int .i64 (v : Int)))
    rw [(h3 k hk).1, h2] at e
    exact e
  · by_cases c : x = k
    · subst c
      have hkl : WideAt.IsKeyLit (.int .i64 x) := trivial
      rw [has_put_same h1.isMap hkl, atKey_put_same h1.isMap hkl]
      simp [upd]
    · rw [has_put_other (ne_key c), atKey_put_other (ne_key c)]
      simp only [upd]
      rw [if_neg c]
      exact h3 x hx
theorem OM.del {w : World} {mb n : Nat} {f : Int → Option Nat} (h : OM w mb n f) {k : Int} (hk : I64 k) (hh : (f k).isSome = true) (ty : TypeId) :
    ∃ w', (Builtin.delete_ #[135, 3] ty #[.map (some mb), .int .i64 k]).run Tryz.prog w = .ok (.tuple #[]) w' ∧ OM w' mb (n - 1) (upd f k none) ∧ Keeps (fun i => i = mb) w w' := by
  obtain ⟨D, h1, h2, h3⟩ := h
  obtain ⟨w', hrun, hown, ht⟩ := h1.drop keyed underM (key_int hk) ty
  have hT := h1.tidy keyed
  have e := size_del (k := .int .i64 k) hT
  rw [(h3 k hk).1, hh, h2] at e
  simp at e
  refine ⟨w', hrun, ⟨D.del (.int .i64 k), ?_, ?_, fun x hx => ?_⟩, keeps_turned ht⟩
  · rw [show n - 1 = Maps.size (D.del (.int .i64 k)) by omega]
    exact tight hown
  · omega
  · by_cases c : x = k
    · subst c
      rw [has_del_same, atKey_del_same]
      simp [upd]
    · rw [has_del_other (ne_key c), atKey_del_other (ne_key c)]
      simp only [upd]
      rw [if_neg c]
      exact h3 x hx
theorem OM.made (w : World) : OM (w.alloc (.map #[] 0)) w.heap.size 0 (fun _ => none) :=
  ⟨.map [], World.ownsMap_made w _ _ _, rfl, fun _ _ => ⟨rfl, rfl⟩⟩
end Go.Proofs.YtgjndhbfjofkeaaGreatDoor

