import Derived.Test.YtkebpelpjkgdkabRefQ
import Derived.Test.YtkebpelpjkgdkabQueF
namespace Go.Proofs.Ytkebpelpjkgdkab
open Go.RowKit Go.Maps

section
variable {w : World} {b : Nat} {most : Int} {L : List It} {F : List Nat}

set_option maxHeartbeats 3200000 in
set_option maxRecDepth 1000000 in
theorem rkey_any (h : RI w b most L F) (id : Int) :
    Calls Try.prog 55 #[.pointer (some ⟨b, 0, none⟩), .int .i64 id] w fun e w' => Keeps (fun _ => False) w w' ∧ ((id ∉ ids L ∧ e = .returned (.tuple #[.int .i64 0, .int .i64 23])) ∨ ∃ x ∈ L, x.2 = id ∧ e = .returned (.tuple #[.int .i64 x.1, .int .i64 0])) := by
  go_enter Try.func55, Try.ntmps55
  go_wp2_with fail
  refine (rplace_any h id).mono ?_
  rintro e w1 ⟨k1, (⟨hni, rfl⟩ | ⟨i, hi, hid, rfl⟩)⟩
  · have HN : Hid (id ∉ ids L) := hni
    clear hni
    go_wp2
    go_ret2
    exact ⟨k1, .inl ⟨HN.out, rfl⟩⟩
  · obtain ⟨a, cap, c0, _, hil, _⟩ := (h.keep k1 (fun _ _ e => e)).il
    obtain ⟨b1, o1, rfl, _, hc⟩ := hil.some (by omega)
    have hiI : (i : Int) < (L.length : Int) := by omega
    have hi0 : ¬ (i : Int) < 0 := by omega
    have d0 := (hc i hi).1
    have HX : Hid (ia L i ∈ L ∧ (ia L i).2 = id) := ⟨ia_mem hi, hid⟩
    obtain ⟨x, hx⟩ : ∃ x, Hid (ia L i = x) := ⟨_, rfl⟩
    rw [hx.out] at d0 HX
    clear hc hil hid
    go_wp2
    go_ret2
    exact ⟨k1, .inr ⟨x, HX.out.1, HX.out.2, rfl⟩⟩

set_option maxHeartbeats 3200000 in
set_option maxRecDepth 1000000 in
theorem rdrop_any (h : RI w b most L F) (id : Int) :
    Calls Try.prog 40 #[.pointer (some ⟨b, 0, none⟩), .int .i64 id] w fun e w' => ∃ F', Left w w' F F' ∧ ((id ∉ ids L ∧ e = .returned (.int .i64 23) ∧ RI w' b most L F') ∨ ∃ i, i < L.length ∧ (ia L i).2 = id ∧ e = .returned (.int .i64 0) ∧ RI w' b most (L.eraseIdx i) F') := by
  go_enter Try.func40, Try.ntmps40
  go_wp2_with fail
  refine (rplace_any h id).mono ?_
  rintro e w1 ⟨k1, (⟨hni, rfl⟩ | ⟨i, hi, hid, rfl⟩)⟩
  · have HN : Hid (id ∉ ids L) := hni
    clear hni
    go_wp2
    go_ret
    exact ⟨F, Left.new k1, .inl ⟨HN.out, rfl, h.keep k1 (fun _ _ e => e)⟩⟩
  · have hi0 : ¬ (i : Int) < 0 := by omega
    have HX : Hid ((ia L i).2 = id) := hid
    clear hid
    go_wp2_with fail
    refine (rout_any (h.keep k1 (fun _ _ e => e)) hi).mono ?_
    rintro e w2 ⟨rfl, F', r2, l2⟩
    go_wp2
    go_ret
    exact ⟨F', (Left.new k1).trans l2, .inr ⟨i, hi, HX.out, rfl, r2⟩⟩

set_option maxHeartbeats 3200000 in
set_option maxRecDepth 1000000 in
theorem rchange_any (h : RI w b most L F) (id key : Int) :
    Calls Try.prog 39 #[.pointer (some ⟨b, 0, none⟩), .int .i64 id, .int .i64 key] w fun e w' => Left w w' F F ∧ ((id ∉ ids L ∧ e = .returned (.int .i64 23) ∧ RI w' b most L F) ∨ ∃ i, i < L.length ∧ (ia L i).2 = id ∧ e = .returned (.int .i64 0) ∧ RI w' b most (L.set i (key, id)) F) := by
  go_enter Try.func39, Try.ntmps39
  go_wp2_with fail
  refine (rplace_any h id).mono ?_
  rintro e w1 ⟨k1, (⟨hni, rfl⟩ | ⟨i, hi, hid, rfl⟩)⟩
  · have HN : Hid (id ∉ ids L) := hni
    clear hni
    go_wp2
    go_ret
    exact ⟨Left.new k1, .inl ⟨HN.out, rfl, h.keep k1 (fun _ _ e => e)⟩⟩
  · have hi0 : ¬ (i : Int) < 0 := by omega
    have HX : Hid ((ia L i).2 = id) := hid
    obtain ⟨v, c0, c1, z0, ho, hb, rfl, hl⟩ := h.keep k1 (fun _ _ e => e)
    obtain ⟨g, cg, rfl, _, _⟩ := ho.form (by omega)
    have hiI : (i : Int) < (L.length : Int) := by omega
    have d0 : w1.cell? ⟨g, i * 2, none⟩ = some (.int .i64 (ia L i).1) := by rw [ho.cellAt (i * 2) (by omega), flat_get0 _ i hi]
    have z1 := ho.frozenAt (i * 2)
    have st := ho.stored (i * 2) (.int .i64 key)
    have hgb : g ≠ b := fun e => hb (by rw [e]; rfl)
    have K : Keeps (fun k => k = g) w1 (w1.setCell ⟨g, i * 2, none⟩ (.int .i64 key)) := Keeps.setCell (S := fun k => k = g) (p := ⟨g, i * 2, none⟩) (Keeps.refl _ w1) (fun _ => rfl) _
    have hbl : b < w1.heap.size := World.block_lt_of_cell? _ _ c0
    have C0 := K.cell c0 (fun e => hgb e.symm)
    have C1 := K.cell c1 (fun e => hgb e.symm)
    have Z0 := (K.frozen (p := ⟨b, 0, none⟩) hbl (fun e => hgb e.symm)).trans z0
    have hfl : flat (L.set i (key, id)) = (flat L).set (i * 2) (.int .i64 key) := by
      have := flat_set L i (key, id) hi
      rw [this]
      have g1 := flat_get1 L i hi
      rw [HX.out] at g1
      have : ((flat L).set (i * 2) (.int .i64 key)).set (i * 2 + 1) (.int .i64 id) = (flat L).set (i * 2) (.int .i64 key) := by
        apply List.ext_getElem?
        intro j
        by_cases e : j = i * 2 + 1
        · subst e
          rw [List.getElem?_set_self (by rw [List.length_set, length_flat]; omega), List.getElem?_set_ne (by omega), g1]
        · rw [List.getElem?_set_ne (by omega)]
      exact this
    have R : RI (w1.setCell ⟨g, i * 2, none⟩ (.int .i64 key)) b most (L.set i (key, id)) (b :: (Value.slice (some ⟨g, 0, none⟩) L.length cg).ownBlock.toList) := ⟨_, C0, C1, Z0, by rw [List.length_set, hfl]; exact st.1, hb, rfl, by simpa using hl⟩
    have LF : Left w (w1.setCell ⟨g, i * 2, none⟩ (.int .i64 key)) (b :: (Value.slice (some ⟨g, 0, none⟩) L.length cg).ownBlock.toList) (b :: (Value.slice (some ⟨g, 0, none⟩) L.length cg).ownBlock.toList) := (Left.new k1).trans ⟨K.mono (fun i _ e => by rw [e]; simp [Value.ownBlock]), fun _ h => .inl h⟩
    clear C0 C1 Z0 hfl st K hid h ho
    go_wp2
    go_ret
    exact ⟨LF, .inr ⟨i, hi, HX.out, rfl, R⟩⟩

set_option maxHeartbeats 3200000 in
set_option maxRecDepth 1000000 in
theorem ritems_any (h : RI w b most L F) :
    Calls Try.prog 56 #[.pointer (some ⟨b, 0, none⟩)] w fun e w' => ∃ v, e = .returned v ∧ w'.ownsRow w.heap.size 32 2 v (srt L).length (flat (srt L)) ∧ Keeps (fun _ => False) w w' := by
  have hle := h.le
  obtain ⟨a, cap, c0, _, hil, hc⟩ := h.il
  have hst := rsort_any L.length cap rfl hil hc (by omega)
  go_enter Try.func56, Try.ntmps56
  go_wp2_with fail
  refine hst.mono ?_
  rintro e w1 ⟨v, rfl, ho, k⟩
  go_wp2
  go_ret
  exact ⟨_, rfl, ho, k⟩

theorem RI.grow {v : Value} (c0 : w.cell? ⟨b, 0, none⟩ = some v) (c1 : w.cell? ⟨b, 1, none⟩ = some (.int .i64 most)) (z0 : w.frozen? ⟨b, 0, none⟩ = false) (hb : v.ownBlock ≠ some b) (hl : L.length < 4096) {x : It} {g cap : Nat} {w1 : World} (hg : w.grownBy w1 v.ownBlock)
    (ho : w1.ownsRow 0 32 2 (.slice (some ⟨g, 0, none⟩) (L.length + 1) cap) (L.length + 1) (flat L ++ [.int .i64 x.1, .int .i64 x.2])) (hat : v.ownBlock = some g ∨ g = w.heap.size) :
    RI (w1.setCell ⟨b, 0, none⟩ (.slice (some ⟨g, 0, none⟩) (L.length + 1) cap)) b most (L ++ [x]) [b, g] ∧ Left w (w1.setCell ⟨b, 0, none⟩ (.slice (some ⟨g, 0, none⟩) (L.length + 1) cap)) (b :: v.ownBlock.toList) [b, g] := by
  have hbl : b < w.heap.size := World.block_lt_of_cell? _ _ c0
  have K1 : Keeps (fun k => v.ownBlock = some k) w w1 := (Keeps.refl _ w).grown hg (fun _ _ e => e)
  have K2 : Keeps (fun k => k = b) w1 (w1.setCell ⟨b, 0, none⟩ (.slice (some ⟨g, 0, none⟩) (L.length + 1) cap)) := Keeps.setCell (S := fun k => k = b) (p := ⟨b, 0, none⟩) (Keeps.refl _ w1) (fun _ => rfl) _
  have gh : g ≠ b := by
    rcases hat with e | e
    · exact fun e' => hb (by rw [e, e'])
    · omega
  have hll : (L ++ [x]).length = L.length + 1 := by simp
  refine ⟨⟨_, World.cell?_setCell_same _ _ _ (K1.cell c0 hb), ?_, ?_, ?_, fun e => by cases e; exact gh rfl, rfl, by rw [hll]; omega⟩, ⟨?_, ?_⟩⟩
  · rw [World.cell?_setCell_other _ _ _ _ (by simp)]; exact K1.cell c1 hb
  · rw [World.frozen?_setCell]; exact (K1.frozen hbl hb).trans z0
  · rw [hll, flat_append]
    exact K2.owns ho (fun k e => by cases e; exact gh)
  · exact (K1.mono (T := fun k => k ∈ b :: v.ownBlock.toList) (fun i _ e => by simp [e])).trans' K2 (fun _ _ e => e) (fun i _ e => by rw [e]; simp)
  · intro k hk
    simp at hk
    rcases hk with rfl | rfl
    · exact .inl (by simp)
    · exact hat.elim (fun e => .inl (by simp [e])) (fun e => .inr (by omega))

set_option maxHeartbeats 3200000 in
set_option maxRecDepth 1000000 in
theorem radd_any (h : RI w b most L F) (hm : most ≤ 4096) (x : It) :
    Calls Try.prog 37 #[.pointer (some ⟨b, 0, none⟩), .agg #[.int .i64 x.1, .int .i64 x.2]] w fun e w' => ∃ F', Left w w' F F' ∧ ((x.2 ∈ ids L ∧ e = .returned (.int .i64 21) ∧ RI w' b most L F') ∨ (x.2 ∉ ids L ∧ most ≤ L.length ∧ e = .returned (.int .i64 22) ∧ RI w' b most L F') ∨ (x.2 ∉ ids L ∧ (L.length : Int) < most ∧ e = .returned (.int .i64 0) ∧ RI w' b most (L ++ [x]) F')) := by
  obtain ⟨i0, hi0, hz0, hz1, hz2⟩ := info_parts itemInfo2
  have K0 : Keeps (fun _ => False) w (w.alloc (.cells #[.int .i64 x.1, .int .i64 x.2] 32)) := (Keeps.refl _ w).alloc _
  have x0 : (w.alloc (.cells #[.int .i64 x.1, .int .i64 x.2] 32)).cell? ⟨w.heap.size, 0, none⟩ = some (.int .i64 x.1) := by simp
  have x1 : (w.alloc (.cells #[.int .i64 x.1, .int .i64 x.2] 32)).cell? ⟨w.heap.size, 1, none⟩ = some (.int .i64 x.2) := by simp
  go_enter Try.func37, Try.ntmps37
  go_wp2_with fail
  refine (rplace_any (h.keep K0 (fun _ _ e => e)) x.2).mono ?_
  rintro e w1 ⟨k1, (⟨hni, rfl⟩ | ⟨i, hi, hid, rfl⟩)⟩
  · have kk := K0.trans k1
    have y0 := k1.cell x0 (fun e => e)
    have y1 := k1.cell x1 (fun e => e)
    have r1 := h.keep kk (fun _ _ e => e)
    have HN : Hid (x.2 ∉ ids L) := hni
    have hNE : Nonempty (KS w1) := ⟨⟨w1, Keeps.refl _ w1⟩⟩
    obtain ⟨a9, cap9, c90, c91, _, _⟩ := r1.il
    have C90 := ks_cell c90
    have C91 := ks_cell c91
    clear c90 c91 hni x0 x1 K0 k1 h
    go_wp2_with fail
    refine wp_region_ks (by kernel_rfl) (by kernel_rfl) ?_
    repeat (go_big_quiet_step (fail))
    refine wpQuiet_nil ?_
    rintro _ ⟨u, rfl⟩
    have kd := u.property
    clear C90 C91
    generalize u.val = w2 at kd ⊢
    have kk := kk.trans kd
    have r1 := r1.keep kd (fun _ _ e => e)
    have y0 := kd.cell y0 (fun e => e)
    have y1 := kd.cell y1 (fun e => e)
    have r2 := r1
    obtain ⟨v, c0, c1, z0, ho, hb, rfl, hl⟩ := r2
    obtain ⟨a, cap, rfl, _, _⟩ := owns_il ho rfl
    clear kd hNE
    by_cases hf : most ≤ (L.length : Int)
    · go_wp2
      go_ret
      exact ⟨_, Left.new kk, .inr (.inl ⟨HN.out, hf, rfl, r1⟩)⟩
    · have HO : Hid (w2.ownsRow 0 32 2 (.slice a L.length cap) L.length (flat L)) := ho
      have HB : Hid ((Value.slice a L.length cap).ownBlock ≠ some b) := hb
      have h63 : L.length + 1 ≤ maxLen := by unfold maxLen; omega
      have hb16 : (L.length + 1) * 16 ≤ 140737488355328 := by omega
      have hbl : b < w2.heap.size := World.block_lt_of_cell? _ _ c0
      have nh : ¬ (Value.slice a L.length cap).ownBlock = some b := hb
      clear ho hb r1
      have n1 := World.new_ne w2 _ c0
      have n2 := World.new_ne w2 _ y0
      have n3 := World.new_ne w2 _ y1
      have ka : ∀ (ob : Obj), (w2.alloc ob).drew.cell? ⟨b, 0, none⟩ = some (.slice a L.length cap) ∧ (w2.alloc ob).drew.frozen? ⟨b, 0, none⟩ = false := fun ob =>
        ⟨(((Keeps.refl (fun _ => False) w2).alloc ob).drew).cell c0 (fun e => e), ((((Keeps.refl (fun _ => False) w2).alloc ob).drew).frozen (p := ⟨b, 0, none⟩) (by show b < _; omega) (fun e => e)).trans z0⟩
      go_wp2_with fail
      go_region_law ((refine step_append_lies _ (by rfl) _ _ _ (by rfl) 0 32 i0 _ 2 16 underItems2 hi0 hz0 hz1 hz2 rfl (by omega) (.slice a L.length cap) L.length (flat L) (by rfl) ((HO.out.alloc _).drew) ⟨w2.heap.size, 0, none⟩ 1 1 [.int .i64 x.1, .int .i64 x.2] (by rfl) (by rfl) (World.news_of_block (cs := #[.int .i64 x.1, .int .i64 x.2]) (t := 32) (fr := (0, 0)) (heap_alloc_new w2 _)) (by simp [Value.oneCell']) (by omega) h63 hb16 (Nat.zero_le _) (w2.heap.size + 1) (by simp) ?_; intro gg cap1 w3 hown1 hgrow hat hlt1; have r1 := (hgrow.cell_far ⟨b, 0, none⟩ (by simp; omega) (Ne.symm nh)).trans (ka _).1; have r2 := (hgrow.frozen_far ⟨b, 0, none⟩ (by simp; omega) (Ne.symm nh)).trans (ka _).2))
      all_goals
        go_simp
        have KA : Keeps (fun _ => False) w2 (World.drew (w2.alloc (.cells #[.int .i64 x.1, .int .i64 x.2] 32))) := ((Keeps.refl _ w2).alloc _).drew
        have hbl2 : b < (World.drew (w2.alloc (.cells #[.int .i64 x.1, .int .i64 x.2] 32))).heap.size := by have := KA.size; omega
        obtain ⟨R, LF⟩ := RI.grow (L := L) (x := x) (KA.cell c0 (fun e => e)) (KA.cell c1 (fun e => e)) ((KA.frozen (p := ⟨b, 0, none⟩) hbl (fun e => e)).trans z0) nh (by omega) hgrow hown1 (hat.imp id (fun e => by rw [e]; simp))
        have LL := (Left.new (kk.trans KA)).trans LF
        clear LF KA ka n1 n2 n3 r1 r2 hgrow hown1 hat hlt1 HO c0 c1 z0 y0 y1
        go_wp2_with fail
        go_ret
        exact ⟨_, LL, .inr (.inr ⟨HN.out, by omega, rfl, R⟩)⟩
  · have hi0' : (0 : Int) ≤ (i : Int) := by omega
    have hi1 : ¬ (i : Int) < 0 := by omega
    have HX : Hid (x.2 ∈ ids L) := by show _ ∈ _; rw [← hid]; exact List.mem_map.2 ⟨_, ia_mem hi, rfl⟩
    have kk := K0.trans k1
    clear hid
    go_wp2
    go_ret
    exact ⟨F, Left.new kk, .inl ⟨HX.out, rfl, h.keep kk (fun _ _ e => e)⟩⟩

set_option maxHeartbeats 3200000 in
set_option maxRecDepth 1000000 in
theorem rleastq_any (h : RI w b most L F) :
    Calls Try.prog 54 #[.pointer (some ⟨b, 0, none⟩)] w fun e w' => Keeps (fun _ => False) w w' ∧
      ((L = [] ∧ e = .returned (.tuple #[.agg #[.int .i64 0, .int .i64 0], .int .i64 20])) ∨
       (∃ x ∈ L, (∀ y ∈ L, bef y x = false) ∧ e = .returned (.tuple #[.agg #[.int .i64 x.1, .int .i64 x.2], .int .i64 0]))) := by
  have K0 : Keeps (fun _ => False) w (w.alloc (.cells #[.int .i64 0, .int .i64 0] 32)) := (Keeps.refl _ w).alloc _
  have r0 : (w.alloc (.cells #[.int .i64 0, .int .i64 0] 32)).cell? ⟨w.heap.size, 0, none⟩ = some (.int .i64 0) := by simp
  have r1 : (w.alloc (.cells #[.int .i64 0, .int .i64 0] 32)).cell? ⟨w.heap.size, 1, none⟩ = some (.int .i64 0) := by simp
  have y0 : (w.alloc (.cells #[.int .i64 0, .int .i64 0] 32)).frozen? ⟨w.heap.size, 0, none⟩ = false := by simp
  have y1 : (w.alloc (.cells #[.int .i64 0, .int .i64 0] 32)).frozen? ⟨w.heap.size, 1, none⟩ = false := by simp
  have sz0 : (w.alloc (.cells #[.int .i64 0, .int .i64 0] 32)).heap.size = w.heap.size + 1 := by simp
  have h0 := h.keep K0 (fun _ _ e => e)
  go_enter Try.func54, Try.ntmps54
  go_wp2_with fail
  refine (rleast_any h0).mono ?_
  rintro e w1 ⟨k1, (⟨hnil, rfl⟩ | ⟨i, hi, hmin, rfl⟩)⟩
  · have R0 := k1.cell r0 (fun e => e)
    have R1 := k1.cell r1 (fun e => e)
    have Y0 := (k1.frozen (p := ⟨w.heap.size, 0, none⟩) (by show w.heap.size < _; omega) (fun e => e)).trans y0
    have Y1 := (k1.frozen (p := ⟨w.heap.size, 1, none⟩) (by show w.heap.size < _; omega) (fun e => e)).trans y1
    have HN : Hid (L = []) := hnil
    clear r0 r1 y0 y1 hnil
    have kf : Keeps (fun k => k = w.heap.size) w1 ((w1.setCell ⟨w.heap.size, 0, none⟩ (.int .i64 0)).setCell ⟨w.heap.size, 1, none⟩ (.int .i64 0)) :=
      Keeps.setCell (S := fun k => k = w.heap.size) (p := ⟨w.heap.size, 1, none⟩) (Keeps.setCell (S := fun k => k = w.heap.size) (p := ⟨w.heap.size, 0, none⟩) (Keeps.refl _ w1) (fun _ => rfl) _) (fun _ => rfl) _
    have KF : Keeps (fun _ => False) w ((w1.setCell ⟨w.heap.size, 0, none⟩ (.int .i64 0)).setCell ⟨w.heap.size, 1, none⟩ (.int .i64 0)) := (K0.trans k1).trans' kf (fun _ _ e => e) (fun i hi e => by omega)
    go_wp2_with fail
    (try simp only [Exit.inBlock, Exit.then])
    refine bodyPost_ret (v := .tuple #[.agg #[.int .i64 0, .int .i64 0], .int .i64 20]) ?_ rfl ⟨?_, .inl ⟨HN.out, rfl⟩⟩
    · rw [results_cell_tmp rfl]
      go_simp
    · exact KF
  · have R0 := k1.cell r0 (fun e => e)
    have R1 := k1.cell r1 (fun e => e)
    have Y0 := (k1.frozen (p := ⟨w.heap.size, 0, none⟩) (by show w.heap.size < _; omega) (fun e => e)).trans y0
    have Y1 := (k1.frozen (p := ⟨w.heap.size, 1, none⟩) (by show w.heap.size < _; omega) (fun e => e)).trans y1
    obtain ⟨a, cap, c0, _, hil, _⟩ := (h0.keep k1 (fun _ _ e => e)).il
    obtain ⟨b1, o1, rfl, _, hc⟩ := hil.some (by omega)
    have hiI : (i : Int) < (L.length : Int) := by omega
    have hi0 : ¬ (i : Int) < 0 := by omega
    have d0 := (hc i hi).1
    have d1 := (hc i hi).2
    obtain ⟨x, hx⟩ : ∃ x, Hid (ia L i = x) := ⟨_, rfl⟩
    rw [hx.out] at d0 d1
    have HL : Hid (x ∈ L ∧ ∀ y ∈ L, bef y x = false) := by rw [← hx.out]; exact ⟨ia_mem hi, hmin⟩
    clear r0 r1 y0 y1 hmin hc hil
    go_wp2_with fail
    (try simp only [Exit.inBlock, Exit.then])
    have kf : Keeps (fun k => k = w.heap.size) w1 ((w1.setCell ⟨w.heap.size, 0, none⟩ (.int .i64 x.1)).setCell ⟨w.heap.size, 1, none⟩ (.int .i64 x.2)) :=
      Keeps.setCell (S := fun k => k = w.heap.size) (p := ⟨w.heap.size, 1, none⟩) (Keeps.setCell (S := fun k => k = w.heap.size) (p := ⟨w.heap.size, 0, none⟩) (Keeps.refl _ w1) (fun _ => rfl) _) (fun _ => rfl) _
    refine bodyPost_ret (v := .tuple #[.agg #[.int .i64 x.1, .int .i64 x.2], .int .i64 0]) ?_ rfl ⟨?_, .inr ⟨x, HL.out.1, HL.out.2, rfl⟩⟩
    · rw [results_cell_tmp rfl]
      go_simp
    · first | exact (K0.trans k1).trans' kf (fun _ _ e => e) (fun i hi e => by omega) | trace_state

set_option maxHeartbeats 3200000 in
set_option maxRecDepth 1000000 in
theorem rtake_any (h : RI w b most L F) :
    Calls Try.prog 38 #[.pointer (some ⟨b, 0, none⟩)] w fun e w' => ∃ F', Left w w' F F' ∧
      ((L = [] ∧ e = .returned (.tuple #[.agg #[.int .i64 0, .int .i64 0], .int .i64 20]) ∧ RI w' b most L F') ∨
       (∃ i, i < L.length ∧ (∀ y ∈ L, bef y (ia L i) = false) ∧ e = .returned (.tuple #[.agg #[.int .i64 (ia L i).1, .int .i64 (ia L i).2], .int .i64 0]) ∧ RI w' b most (L.eraseIdx i) F')) := by
  have K0 : Keeps (fun _ => False) w (w.alloc (.cells #[.int .i64 0, .int .i64 0] 32)) := (Keeps.refl _ w).alloc _
  have r0 : (w.alloc (.cells #[.int .i64 0, .int .i64 0] 32)).cell? ⟨w.heap.size, 0, none⟩ = some (.int .i64 0) := by simp
  have r1 : (w.alloc (.cells #[.int .i64 0, .int .i64 0] 32)).cell? ⟨w.heap.size, 1, none⟩ = some (.int .i64 0) := by simp
  have y0 : (w.alloc (.cells #[.int .i64 0, .int .i64 0] 32)).frozen? ⟨w.heap.size, 0, none⟩ = false := by simp
  have y1 : (w.alloc (.cells #[.int .i64 0, .int .i64 0] 32)).frozen? ⟨w.heap.size, 1, none⟩ = false := by simp
  have sz0 : (w.alloc (.cells #[.int .i64 0, .int .i64 0] 32)).heap.size = w.heap.size + 1 := by simp
  have h0 := h.keep K0 (fun _ _ e => e)
  go_enter Try.func38, Try.ntmps38
  go_wp2_with fail
  refine (rleast_any h0).mono ?_
  rintro e w1 ⟨k1, (⟨hnil, rfl⟩ | ⟨i, hi, hmin, rfl⟩)⟩
  · have R0 := k1.cell r0 (fun e => e)
    have R1 := k1.cell r1 (fun e => e)
    have Y0 := (k1.frozen (p := ⟨w.heap.size, 0, none⟩) (by show w.heap.size < _; omega) (fun e => e)).trans y0
    have Y1 := (k1.frozen (p := ⟨w.heap.size, 1, none⟩) (by show w.heap.size < _; omega) (fun e => e)).trans y1
    have HN : Hid (L = []) := hnil
    clear r0 r1 y0 y1 hnil
    have kf : Keeps (fun k => k = w.heap.size) w1 ((w1.setCell ⟨w.heap.size, 0, none⟩ (.int .i64 0)).setCell ⟨w.heap.size, 1, none⟩ (.int .i64 0)) :=
      Keeps.setCell (S := fun k => k = w.heap.size) (p := ⟨w.heap.size, 1, none⟩) (Keeps.setCell (S := fun k => k = w.heap.size) (p := ⟨w.heap.size, 0, none⟩) (Keeps.refl _ w1) (fun _ => rfl) _) (fun _ => rfl) _
    have KF : Keeps (fun _ => False) w ((w1.setCell ⟨w.heap.size, 0, none⟩ (.int .i64 0)).setCell ⟨w.heap.size, 1, none⟩ (.int .i64 0)) := (K0.trans k1).trans' kf (fun _ _ e => e) (fun i hi e => by omega)
    go_wp2_with fail
    (try simp only [Exit.inBlock, Exit.then])
    refine bodyPost_ret (v := .tuple #[.agg #[.int .i64 0, .int .i64 0], .int .i64 20]) ?_ rfl ⟨F, ?_, .inl ⟨HN.out, rfl, ?_⟩⟩
    · rw [results_cell_tmp rfl]
      go_simp
    · exact Left.new KF
    · exact h.keep KF (fun _ _ e => e)
  · obtain ⟨a, cap, c0, _, hil, _⟩ := (h0.keep k1 (fun _ _ e => e)).il
    obtain ⟨b1, o1, rfl, _, hc⟩ := hil.some (by omega)
    have hiI : (i : Int) < (L.length : Int) := by omega
    have hi0 : ¬ (i : Int) < 0 := by omega
    have d0 := (hc i hi).1
    have d1 := (hc i hi).2
    obtain ⟨x, hx⟩ : ∃ x, Hid (ia L i = x) := ⟨_, rfl⟩
    rw [hx.out] at d0 d1
    have HL : Hid (∀ y ∈ L, bef y (ia L i) = false) := hmin
    clear hmin hc hil
    have KX : Keeps (fun _ => False) w1 (w1.alloc (.cells #[.int .i64 x.1, .int .i64 x.2] 32)) := (Keeps.refl _ w1).alloc _
    have x0 : (w1.alloc (.cells #[.int .i64 x.1, .int .i64 x.2] 32)).cell? ⟨w1.heap.size, 0, none⟩ = some (.int .i64 x.1) := by simp
    have x1 : (w1.alloc (.cells #[.int .i64 x.1, .int .i64 x.2] 32)).cell? ⟨w1.heap.size, 1, none⟩ = some (.int .i64 x.2) := by simp
    have hF := h.lt
    have hs1 : w.heap.size < w1.heap.size := by have := k1.size; omega
    have kx := k1.trans KX
    have ra := (h0.keep kx (fun _ _ e => e))
    go_wp2_with fail
    refine (rout_any ra hi).mono ?_
    rintro e w2 ⟨rfl, F', r2, l2⟩
    have nR : w.heap.size ∉ F := fun e => by have := hF _ e; omega
    have nX : w1.heap.size ∉ F := fun e => by have := hF _ e; omega
    have X0 := l2.keeps.cell x0 nX
    have X1 := l2.keeps.cell x1 nX
    have R0 := l2.keeps.cell (kx.cell r0 (fun e => e)) nR
    have R1 := l2.keeps.cell (kx.cell r1 (fun e => e)) nR
    have Y0 := (l2.keeps.frozen (p := ⟨w.heap.size, 0, none⟩) (by show w.heap.size < _; simp; omega) nR).trans ((kx.frozen (p := ⟨w.heap.size, 0, none⟩) (by show w.heap.size < _; omega) (fun e => e)).trans y0)
    have Y1 := (l2.keeps.frozen (p := ⟨w.heap.size, 1, none⟩) (by show w.heap.size < _; simp; omega) nR).trans ((kx.frozen (p := ⟨w.heap.size, 1, none⟩) (by show w.heap.size < _; omega) (fun e => e)).trans y1)
    have kf : Keeps (fun k => k = w.heap.size) w2 ((w2.setCell ⟨w.heap.size, 0, none⟩ (.int .i64 x.1)).setCell ⟨w.heap.size, 1, none⟩ (.int .i64 x.2)) :=
      Keeps.setCell (S := fun k => k = w.heap.size) (p := ⟨w.heap.size, 1, none⟩) (Keeps.setCell (S := fun k => k = w.heap.size) (p := ⟨w.heap.size, 0, none⟩) (Keeps.refl _ w2) (fun _ => rfl) _) (fun _ => rfl) _
    have ls : Left w w2 F F' := ⟨((K0.trans kx).mono (fun _ _ e => e.elim)).trans' l2.keeps (fun _ _ e => e) (fun i _ e => e), fun k hk => (l2.old k hk).elim .inl (fun e => .inr (by simp at e; omega))⟩
    have r3 := r2.keep kf (fun k hk e => by
      rcases l2.old k hk with h' | h'
      · have := hF k h'; omega
      · simp at h'; omega)
    have lf : Left w ((w2.setCell ⟨w.heap.size, 0, none⟩ (.int .i64 x.1)).setCell ⟨w.heap.size, 1, none⟩ (.int .i64 x.2)) F F' := ⟨ls.keeps.trans' kf (fun _ _ e => e) (fun i hi e => by omega), ls.old⟩
    clear r0 r1 y0 y1 x0 x1 l2 ls kf r2
    go_wp2_with fail
    (try simp only [Exit.inBlock, Exit.then])
    refine bodyPost_ret (v := .tuple #[.agg #[.int .i64 x.1, .int .i64 x.2], .int .i64 0]) ?_ rfl ⟨F', lf, .inr ⟨i, hi, HL.out, by rw [hx.out], r3⟩⟩
    rw [results_cell_tmp rfl]
    go_simp
end

end Go.Proofs.Ytkebpelpjkgdkab
