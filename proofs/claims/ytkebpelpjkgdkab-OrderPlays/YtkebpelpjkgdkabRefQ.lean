import Derived.Test.YtkebpelpjkgdkabRefSort2
import Derived.Test.YtkebpelpjkgdkabThree
import Derived.Test.YtkebpelpjkgdkabLits
namespace Go.Proofs.Ytkebpelpjkgdkab
open Go.RowKit Go.Maps

/-- The document's queue: what it holds, as it came in. -/
def RI (w : World) (b : Nat) (most : Int) (L : List It) (F : List Nat) : Prop :=
  ∃ v, w.cell? ⟨b, 0, none⟩ = some v ∧ w.cell? ⟨b, 1, none⟩ = some (.int .i64 most) ∧ w.frozen? ⟨b, 0, none⟩ = false ∧ w.ownsRow 0 32 2 v L.length (flat L) ∧ v.ownBlock ≠ some b ∧ F = b :: v.ownBlock.toList ∧ L.length ≤ 4096

theorem RI.keep {w w' : World} {b : Nat} {most : Int} {L : List It} {F : List Nat} (h : RI w b most L F) {S : Nat → Prop} (hk : Keeps S w w') (hF : ∀ k ∈ F, ¬ S k) : RI w' b most L F := by
  obtain ⟨v, c0, c1, z0, ho, hb, rfl, hl⟩ := h
  have hlt : b < w.heap.size := World.block_lt_of_cell? _ _ c0
  have hbS : ¬ S b := hF b (by simp)
  exact ⟨v, hk.cell c0 hbS, hk.cell c1 hbS, (hk.frozen hlt hbS).trans z0, hk.owns ho (fun g hg => hF g (by simp [hg])), hb, rfl, hl⟩
theorem RI.lt {w : World} {b : Nat} {most : Int} {L : List It} {F : List Nat} (h : RI w b most L F) : ∀ k ∈ F, k < w.heap.size := by
  obtain ⟨v, c0, c1, z0, ho, hb, rfl, hl⟩ := h
  intro k hk
  simp at hk
  rcases hk with rfl | hk
  · exact World.block_lt_of_cell? _ _ c0
  · exact owns_lt' ho k hk
theorem RI.le {w : World} {b : Nat} {most : Int} {L : List It} {F : List Nat} (h : RI w b most L F) : L.length ≤ 4096 := by
  obtain ⟨v, c0, c1, z0, ho, hb, rfl, hl⟩ := h; exact hl
theorem RI.il {w : World} {b : Nat} {most : Int} {L : List It} {F : List Nat} (h : RI w b most L F) : ∃ a cap, w.cell? ⟨b, 0, none⟩ = some (.slice a L.length cap) ∧ w.cell? ⟨b, 1, none⟩ = some (.int .i64 most) ∧ IL w a L ∧ L.length ≤ cap := by
  obtain ⟨v, c0, c1, z0, ho, hb, rfl, hl⟩ := h
  obtain ⟨a, cap, rfl, hi, _⟩ := owns_il ho rfl
  exact ⟨a, cap, c0, c1, hi, owns_cap' ho⟩

set_option maxHeartbeats 1600000 in
set_option maxRecDepth 1000000 in
theorem rnew_any (w : World) : Calls Try.prog 26 #[] w fun e w' => e = .returned (.pointer (some ⟨w.heap.size, 0, none⟩)) ∧ RI w' w.heap.size 4096 [] [w.heap.size] ∧ Keeps (fun _ => False) w w' := by
  go_enter Try.func26, Try.ntmps26
  go_wp2
  go_ret
  refine ⟨rfl, ⟨.slice none 0 0, ?_, ?_, ?_, World.ownsRow_nil _ _ _ _, by simp [Value.ownBlock], rfl, by simp⟩, ?_⟩
  · simp
  · simp
  · simp
  · exact (Keeps.refl _ w).alloc _

set_option maxHeartbeats 1600000 in
set_option maxRecDepth 1000000 in
theorem rnone_any (w : World) : Calls Try.prog 27 #[] w fun e w' => e = .returned (.pointer (some ⟨w.heap.size, 0, none⟩)) ∧ RI w' w.heap.size 0 [] [w.heap.size] ∧ Keeps (fun _ => False) w w' := by
  go_enter Try.func27, Try.ntmps27
  go_wp2
  go_ret
  refine ⟨rfl, ⟨.slice none 0 0, ?_, ?_, ?_, World.ownsRow_nil _ _ _ _, by simp [Value.ownBlock], rfl, by simp⟩, ?_⟩
  · simp
  · simp
  · simp
  · exact (Keeps.refl _ w).alloc _

set_option maxHeartbeats 1600000 in
set_option maxRecDepth 1000000 in
theorem rplace_any {w : World} {b : Nat} {most : Int} {L : List It} {F : List Nat} (h : RI w b most L F) (id : Int) :
    Calls Try.prog 50 #[.pointer (some ⟨b, 0, none⟩), .int .i64 id] w fun e w' => Keeps (fun _ => False) w w' ∧ ((id ∉ ids L ∧ e = .returned (.int .i64 (-1))) ∨ ∃ i : Nat, i < L.length ∧ (ia L i).2 = id ∧ e = .returned (.int .i64 i)) := by
  have hle := h.le
  obtain ⟨a, cap, c0, _, hil, _⟩ := h.il
  have HI : Hid (IL w a L) := hil
  clear hil
  go_enter Try.func50, Try.ntmps50
  go_wp2_with fail
  go_loopw [5] (fun iv wr => ∃ i : Nat, i ≤ L.length ∧ iv = .int .i64 i ∧ (∀ j, j < i → (ia L j).2 ≠ id) ∧ Keeps (fun _ => False) w wr) (fun iv _ => L.length - (intOf iv).toNat)
  case atStart => exact ⟨0, Nat.zero_le _, rfl, fun j hj => by omega, Keeps.refl _ _⟩
  case round =>
    obtain ⟨i, hi, rfl, hno, k⟩ := hrel
    have c0' := k.cell c0 (fun e => e)
    by_cases hlt : i < L.length
    · obtain ⟨b1, o1, rfl, _, hc⟩ := HI.out.some (by omega)
      have hiI : (i : Int) < (L.length : Int) := by omega
      have d1 := k.cell (hc i hlt).2 (fun e => e)
      obtain ⟨x, hx⟩ : ∃ x, Hid ((ia L i).2 = x) := ⟨_, rfl⟩
      rw [hx.out] at d1
      clear hc c0
      by_cases he : x = id
      · have hb : (x == id) = true := by simp [he]
        go_wp2_with fail
        go_ret
        exact ⟨k, .inr ⟨i, hlt, hx.out.trans he, rfl⟩⟩
      · have hb : (x == id) = false := by simp [he]
        go_wp2_with fail
        go_roundw
        case rel => exact ⟨i + 1, by omega, by go_num, fun j hj => by
          by_cases e : j = i
          · rw [e, hx.out]; exact he
          · exact hno j (by omega), k⟩
        case measure => simp [intOf]; omega
    · have hiI : ¬ (i : Int) < (L.length : Int) := by omega
      clear c0
      go_wp2
      go_ret
      refine ⟨k, .inl ⟨fun hm => ?_, rfl⟩⟩
      obtain ⟨x, hx, rfl⟩ := List.mem_map.1 hm
      obtain ⟨j, hj, rfl⟩ := List.getElem_of_mem hx
      exact hno j (by omega) (by rw [ia_get hj])

set_option maxHeartbeats 1600000 in
set_option maxRecDepth 1000000 in
theorem rleast_any {w : World} {b : Nat} {most : Int} {L : List It} {F : List Nat} (h : RI w b most L F) :
    Calls Try.prog 51 #[.pointer (some ⟨b, 0, none⟩)] w fun e w' => Keeps (fun _ => False) w w' ∧ ((L = [] ∧ e = .returned (.int .i64 (-1))) ∨ ∃ i : Nat, i < L.length ∧ (∀ y ∈ L, bef y (ia L i) = false) ∧ e = .returned (.int .i64 i)) := by
  have hle := h.le
  obtain ⟨a, cap, c0, _, hil, _⟩ := h.il
  have HI : Hid (IL w a L) := hil
  clear hil
  go_enter Try.func51, Try.ntmps51
  go_wp2_with fail
  go_loopw [3, 4] (fun av iv wr => ∃ i : Nat, i ≤ L.length ∧ iv = .int .i64 i ∧ ((i = 0 ∧ av = .int .i64 (-1)) ∨ ∃ m : Nat, m < i ∧ av = .int .i64 m ∧ ∀ j, j < i → bef (ia L j) (ia L m) = false) ∧ Keeps (fun _ => False) w wr) (fun _ iv _ => L.length - (intOf iv).toNat)
  case atStart => exact ⟨0, Nat.zero_le _, rfl, .inl ⟨rfl, rfl⟩, Keeps.refl _ _⟩
  case round =>
    obtain ⟨i, hi, rfl, hat, k⟩ := hrel
    have c0' := k.cell c0 (fun e => e)
    by_cases hlt : i < L.length
    · obtain ⟨b1, o1, rfl, _, hc⟩ := HI.out.some (by omega)
      have hiI : (i : Int) < (L.length : Int) := by omega
      rcases hat with ⟨rfl, rfl⟩ | ⟨m, hm, rfl, hmin⟩
      · clear c0 hc
        go_wp2_with fail
        go_roundw
        case rel => exact ⟨1, by omega, by go_num, .inr ⟨0, by omega, rfl, fun j hj => by rw [show j = 0 by omega]; exact bef_lin.irr _⟩, k⟩
        case measure => simp [intOf]; omega
      · have hm0 : ¬ (m : Int) < 0 := by omega
        have hmI : (m : Int) < (L.length : Int) := by omega
        have d0 := k.cell (hc i hlt).1 (fun e => e)
        have d1 := k.cell (hc i hlt).2 (fun e => e)
        have e0 := k.cell (hc m (by omega)).1 (fun e => e)
        have e1 := k.cell (hc m (by omega)).2 (fun e => e)
        obtain ⟨x, hx⟩ : ∃ x, Hid (ia L i = x) := ⟨_, rfl⟩
        obtain ⟨y, hy⟩ : ∃ y, Hid (ia L m = y) := ⟨_, rfl⟩
        rw [hx.out] at d0 d1
        rw [hy.out] at e0 e1
        have HM : Hid (∀ j, j < i → bef (ia L j) y = false) := by rw [hy.out] at hmin; exact hmin
        have hNE : Nonempty (KS wr) := ⟨⟨wr, Keeps.refl _ wr⟩⟩
        have C0 := ks_cell c0'
        have D0 := ks_cell d0
        have D1 := ks_cell d1
        have E0 := ks_cell e0
        have E1 := ks_cell e1
        clear c0 hc hmin d0 d1 e0 e1
        go_wp2_with fail
        refine wp_region_ks (by kernel_rfl) (by kernel_rfl) ?_
        repeat (go_big_quiet_step ((go_at_call 59; refine (rbefore_any _ x y).mono ?_; rintro e w2 ⟨rfl, k2⟩; exact ⟨rfl, ⟨_, Keeps.trans (KS.property _) k2⟩, rfl⟩)))
        refine wpQuiet_nil ?_
        rintro _ ⟨u, rfl⟩
        have kk := k.trans u.property
        clear C0 D0 D1 E0 E1
        generalize u.val = w2 at kk ⊢
        by_cases hb : bef x y = true
        · rw [hb]
          go_wp2_with fail
          go_roundw
          case rel => exact ⟨i + 1, by omega, by go_num, .inr ⟨i, by omega, rfl, fun j hj => by
            rw [hx.out]
            by_cases e : j = i
            · rw [e, hx.out]; exact bef_lin.irr _
            · exact bef_lin.trans (HM.out j (by omega)) (bef_lin.asym hb)⟩, kk⟩
          case measure => simp [intOf]; omega
        · have hb' : bef x y = false := by simpa using hb
          rw [hb']
          go_wp2_with fail
          go_roundw
          case rel => exact ⟨i + 1, by omega, by go_num, .inr ⟨m, by omega, rfl, fun j hj => by
            rw [hy.out]
            by_cases e : j = i
            · rw [e, hx.out]; exact hb'
            · exact HM.out j (by omega)⟩, kk⟩
          case measure => simp [intOf]; omega
    · have hiI : ¬ (i : Int) < (L.length : Int) := by omega
      have hil : i = L.length := by omega
      clear c0
      go_wp2
      go_ret
      refine ⟨k, ?_⟩
      rcases hat with ⟨rfl, rfl⟩ | ⟨m, hm, rfl, hmin⟩
      · exact .inl ⟨List.eq_nil_of_length_eq_zero (by omega), rfl⟩
      · refine .inr ⟨m, by omega, fun y1 y2 hy => ?_, rfl⟩
        obtain ⟨j, hj, e⟩ := List.getElem_of_mem hy
        rw [← e, ← ia_get hj]
        exact hmin j (by omega)

set_option maxHeartbeats 1600000 in
set_option maxRecDepth 1000000 in
theorem rout_any {w : World} {b : Nat} {most : Int} {L : List It} {F : List Nat} (h : RI w b most L F) {p : Nat} (hp : p < L.length) :
    Calls Try.prog 52 #[.pointer (some ⟨b, 0, none⟩), .int .i64 p] w fun e w' => e = .returned (.tuple #[]) ∧ ∃ F', RI w' b most (L.eraseIdx p) F' ∧ Left w w' F F' := by
  have hle := h.le
  obtain ⟨a, cap, c0, _, hil, _⟩ := h.il
  have HI : Hid (IL w a L) := hil
  clear hil
  go_enter Try.func52, Try.ntmps52
  obtain ⟨i0, hi0, hz0, hz1, hz2⟩ := info_parts itemInfo2
  go_wp2_with fail
  go_loopw [4, 5] (fun lv iv wr => ∃ (i : Nat) (o : List It), i ≤ L.length ∧ iv = .int .i64 i ∧ o = (L.take i).eraseIdx p ∧ wr.ownsRow w.heap.size 32 2 lv o.length (flat o) ∧ Keeps (fun _ => False) w wr) (fun _ iv _ => L.length - (intOf iv).toNat)
  case atStart => exact ⟨0, [], Nat.zero_le _, rfl, by simp, World.ownsRow_nil _ _ _ _, Keeps.refl _ _⟩
  case round =>
    obtain ⟨i, o, hi, rfl, ho', ho, k⟩ := hrel
    have HE : Hid (o = (L.take i).eraseIdx p) := ho'
    have hol : o.length ≤ i := by rw [HE.out]; have := List.length_eraseIdx_le (L.take i) p; rw [List.length_take] at this; omega
    clear ho'
    have c0' := k.cell c0 (fun e => e)
    by_cases hlt : i < L.length
    · obtain ⟨b1, o1, rfl, _, hc⟩ := HI.out.some (by omega)
      have hiI : (i : Int) < (L.length : Int) := by omega
      have d0 := k.cell (hc i hlt).1 (fun e => e)
      have d1 := k.cell (hc i hlt).2 (fun e => e)
      obtain ⟨x, hx⟩ : ∃ x, Hid (ia L i = x) := ⟨_, rfl⟩
      rw [hx.out] at d0 d1
      have HT : Hid (L.take (i + 1) = L.take i ++ [x]) := by
        show _ = _
        rw [← List.take_append_getElem hlt, ← ia_get hlt, hx.out]
      clear hc c0
      by_cases he : i = p
      · have hb : ((i : Int) != (p : Int)) = false := by simp [he]
        go_wp2_with fail
        go_roundw
        case rel => exact ⟨i + 1, o, by omega, by go_num, by
          rw [HE.out, HT.out, ← he]
          have hl2 : (L.take i).length = i := by rw [List.length_take]; omega
          rw [List.eraseIdx_of_length_le (by omega), List.eraseIdx_append_of_length_le (by omega), hl2]
          simp, ho, k⟩
        case measure => simp [intOf]; omega
      · have hb : ((i : Int) != (p : Int)) = true := by simp; omega
        have HO : Hid (wr.ownsRow w.heap.size 32 2 u4 o.length (flat o)) := ho
        have hob : ∀ g, u4.ownBlock = some g → w.heap.size ≤ g := fun g hg => owns_base2 ho g hg
        have hdj : ∀ g, u4.ownBlock = some g → g < w.heap.size → False := fun g hg hlt => by have := hob g hg; omega
        have h63 : o.length + 1 ≤ maxLen := by unfold maxLen; omega
        have hb16 : (o.length + 1) * 16 ≤ 140737488355328 := by omega
        have hszr := k.size
        clear ho
        go_wp2_with ((at_builtin; refine wpList_append_lies _ rfl _ _ _ rfl w.heap.size 32 i0 _ 2 16 underItems2 hi0 hz0 hz1 hz2 rfl (by decide) u4 o.length (flat o) rfl (HO.out.alloc _) ⟨wr.heap.size, 0, none⟩ 1 1 [.int .i64 x.1, .int .i64 x.2] rfl rfl (World.news_of_block (cs := #[.int .i64 x.1, .int .i64 x.2]) (t := 32) (fr := (0, 0)) (heap_alloc_new wr _)) (by simp [Value.oneCell']) (by omega) h63 hb16 (by simp; omega) _ rfl ?_))
        intro g cg w4 hown4 hgrow hat hlt4
        have K4 : Keeps (fun _ => False) w w4 := (k.alloc _).grown hgrow (fun i hi e => hdj i e hi)
        go_wp2_with fail
        go_roundw
        case rel => exact ⟨i + 1, o ++ [x], by omega, by go_num, by
          have hl2 : (L.take i).length = i := by rw [List.length_take]; omega
          rw [HE.out, HT.out]
          by_cases hpi : p < i
          · rw [List.eraseIdx_append_of_lt_length (by omega)]
          · rw [List.eraseIdx_of_length_le (by omega), List.eraseIdx_of_length_le (by simp; omega)], by rw [List.length_append, flat_append]; exact hown4, K4⟩
        case measure => simp [intOf]; omega
    · have hiI : ¬ (i : Int) < (L.length : Int) := by omega
      have hil : i = L.length := by omega
      have HO2 : Hid (o = L.eraseIdx p) := by show _ = _; rw [HE.out, hil, List.take_length]
      obtain ⟨v, e0, e1, z0, _, hb, rfl, _⟩ := h
      have hbl : b < w.heap.size := World.block_lt_of_cell? _ _ e0
      have zr := (k.frozen hbl (fun e => e)).trans z0
      have c1 := k.cell e1 (fun e => e)
      obtain ⟨ao, co, rfl, _, _⟩ := owns_il ho rfl
      have hdj : ∀ g, (Value.slice ao o.length co).ownBlock = some g → w.heap.size ≤ g := fun g hg => owns_base2 ho g hg
      clear c0 e0 e1
      go_wp2_with fail
      go_end0
      have K : Keeps (fun k => k = b) wr (wr.setCell ⟨b, 0, none⟩ (.slice ao o.length co)) := Keeps.setCell (S := fun k => k = b) (p := ⟨b, 0, none⟩) (Keeps.refl _ wr) (fun _ => rfl) _
      refine ⟨rfl, _, ⟨.slice ao o.length co, ?_, ?_, ?_, ?_, fun e => by have := hdj b e; omega, rfl, by rw [← HO2.out]; omega⟩, ⟨(k.mono (fun _ _ e => e.elim)).trans' (K.mono (fun _ _ e => e)) (fun _ _ e => e) (fun i _ e => by simp at e ⊢; exact .inl e), fun k hk => ?_⟩⟩
      · go_simp
      · go_simp
      · go_simp
      · rw [← HO2.out]; exact K.owns (owns_mono2 ho (Nat.zero_le _)) (fun g hg e => by have := hdj g hg; omega)
      · simp at hk
        rcases hk with rfl | hk
        · exact .inl (by simp)
        · exact .inr (hdj k hk)

end Go.Proofs.Ytkebpelpjkgdkab
