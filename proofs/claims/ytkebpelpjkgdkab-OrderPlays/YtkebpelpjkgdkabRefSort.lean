import Derived.Test.YtkebpelpjkgdkabSortA
import Derived.Test.YtkebpelpjkgdkabLists2
namespace Go.Proofs.Ytkebpelpjkgdkab
open Go.RowKit Go.Maps

theorem owns_base2 {w : World} {base : Nat} {e : TypeId} {size : Nat} {v : Value} {n : Nat} {xs : List Value} (h : w.ownsRow base e size v n xs) (k : Nat) (hk : v.ownBlock = some k) : base ≤ k := by
  rcases h.2 with ⟨rfl, _⟩ | ⟨g, cap, cur, rfl, hb, hg, rest⟩
  · cases hk
  · cases hk; exact hb

set_option maxHeartbeats 1600000 in
set_option maxRecDepth 1000000 in
theorem rbefore_any (w : World) (a b : It) :
    Calls Try.prog 59 #[.agg #[.int .i64 a.1, .int .i64 a.2], .agg #[.int .i64 b.1, .int .i64 b.2]] w fun e w' => e = .returned (.bool (bef a b)) ∧ Keeps (fun _ => False) w w' := by
  obtain ⟨a1, a2⟩ := a
  obtain ⟨b1, b2⟩ := b
  have K : ∀ o o', Keeps (fun _ => False) w ((w.alloc o).alloc o') := fun o o' => ((Keeps.refl _ w).alloc o).alloc o'
  by_cases h : a1 = b1
  · have h0 : (a1 == b1) = true := by simp [h]
    go_enter Try.func59, Try.ntmps59
    go_wp2
    all_goals go_ret
    all_goals exact ⟨by simp [bef, h], K _ _⟩
  · have h0 : (a1 == b1) = false := by simp [h]
    go_enter Try.func59, Try.ntmps59
    go_wp2
    all_goals go_ret
    all_goals exact ⟨by simp [bef, h], K _ _⟩

/-- Two lists on their way into one. -/
structure MI (xs ys o : List It) (i k : Nat) : Prop where
  ix : i ≤ xs.length
  ky : k ≤ ys.length
  len : o.length = i + k
  perm : (o ++ (xs.drop i ++ ys.drop k)).Perm (xs ++ ys)
  sd : Sd o
  low : ∀ x ∈ o, ∀ y ∈ xs.drop i ++ ys.drop k, bef y x = false

theorem drop_ia {xs : List It} {i : Nat} (h : i < xs.length) : xs.drop i = ia xs i :: xs.drop (i + 1) := by rw [ia_get h]; exact (List.getElem_cons_drop h).symm
theorem sd_drop {xs : List It} {i : Nat} (hs : Sd xs) (h : i < xs.length) : ∀ y ∈ xs.drop i, bef y (ia xs i) = false := fun y hy => by
  rw [drop_ia h] at hy
  rcases List.mem_cons.1 hy with rfl | hy
  · exact bef_lin.irr _
  · have : Sd (xs.drop i) := hs.sublist (List.drop_sublist _ _)
    rw [drop_ia h] at this
    exact (List.pairwise_cons.1 this).1 y hy
theorem sd_snoc {o : List It} {x : It} (h : Sd o) (hx : ∀ y ∈ o, bef x y = false) : Sd (o ++ [x]) :=
  List.pairwise_append.2 ⟨h, List.pairwise_singleton _ _, fun a ha b hb => by simp at hb; rw [hb]; exact hx a ha⟩
theorem MI.left {xs ys o : List It} {i k : Nat} (h : MI xs ys o i k) (hs : Sd xs) (hi : i < xs.length) (hy : ∀ y ∈ ys.drop k, bef y (ia xs i) = false) : MI xs ys (o ++ [ia xs i]) (i + 1) k := by
  have hd := drop_ia hi
  refine ⟨by omega, h.ky, by simp; have := h.len; omega, ?_, sd_snoc h.sd (fun y hy' => h.low y hy' _ (by rw [hd]; simp)), fun x hx y hy' => ?_⟩
  · have := h.perm
    rw [hd] at this
    simpa [List.append_assoc] using this
  · rcases List.mem_append.1 hx with hx | hx
    · refine h.low x hx y ?_
      rw [hd]
      rcases List.mem_append.1 hy' with h1 | h1
      · simp [h1]
      · simp [h1]
    · simp at hx
      rw [hx]
      rcases List.mem_append.1 hy' with h1 | h1
      · exact sd_drop hs hi y (by rw [hd]; simp [h1])
      · exact hy y h1
theorem MI.right {xs ys o : List It} {i k : Nat} (h : MI xs ys o i k) (hs : Sd ys) (hk : k < ys.length) (hx : ∀ y ∈ xs.drop i, bef y (ia ys k) = false) : MI xs ys (o ++ [ia ys k]) i (k + 1) := by
  have hd := drop_ia hk
  refine ⟨h.ix, by omega, by simp; have := h.len; omega, ?_, sd_snoc h.sd (fun y hy' => h.low y hy' _ (by rw [hd]; simp)), fun x hx' y hy' => ?_⟩
  · have := h.perm
    rw [hd] at this
    refine List.Perm.trans ?_ this
    rw [List.append_assoc]
    refine List.Perm.append_left o ?_
    simp only [List.singleton_append]
    exact List.perm_middle.symm
  · rcases List.mem_append.1 hx' with hx' | hx'
    · refine h.low x hx' y ?_
      rw [hd]
      rcases List.mem_append.1 hy' with h1 | h1
      · simp [h1]
      · simp [h1]
    · simp at hx'
      rw [hx']
      rcases List.mem_append.1 hy' with h1 | h1
      · exact hx y h1
      · exact sd_drop hs hk y (by rw [hd]; simp [h1])

set_option maxHeartbeats 6400000 in
set_option maxRecDepth 1000000 in
theorem merge_any {w : World} {a b : Option Addr} {xs ys : List It} (hx : IL w a xs) (hy : IL w b ys) (sx : Sd xs) (sy : Sd ys) (hl : (xs.length + ys.length) * 16 ≤ 140737488355328) (c d : Nat) :
    Calls Try.prog 62 #[.slice a xs.length c, .slice b ys.length d] w fun e w' => ∃ v, e = .returned v ∧ w'.ownsRow w.heap.size 32 2 v (srt (xs ++ ys)).length (flat (srt (xs ++ ys))) ∧ Keeps (fun _ => False) w w' := by
  have HX : Hid (IL w a xs) := hx
  have HY : Hid (IL w b ys) := hy
  clear hx hy
  obtain ⟨i0, hi0, hz0, hz1, hz2⟩ := info_parts itemInfo2
  go_enter Try.func62, Try.ntmps62
  go_wp2_with fail
  go_loopw [5, 6, 7] (fun lv iv kv wr => ∃ (o : List It) (i k : Nat), iv = .int .i64 i ∧ kv = .int .i64 k ∧ MI xs ys o i k ∧ wr.ownsRow w.heap.size 32 2 lv o.length (flat o) ∧ Keeps (fun _ => False) w wr) (fun _ iv kv _ => xs.length + ys.length - (intOf iv).toNat - (intOf kv).toNat)
  case atStart => exact ⟨[], 0, 0, rfl, rfl, ⟨Nat.zero_le _, Nat.zero_le _, rfl, by simp, List.Pairwise.nil, (fun _ h => by cases h)⟩, World.ownsRow_nil _ _ _ _, Keeps.refl _ _⟩
  case round =>
    obtain ⟨o, i, k, rfl, rfl, mi, ho, hk⟩ := hrel
    have hil := mi.ix
    have hkl := mi.ky
    have hol := mi.len
    have HOL : Hid (o.length = i + k) := hol
    clear hol
    have HO : Hid (wr.ownsRow w.heap.size 32 2 u5 o.length (flat o)) := ho
    have hob : ∀ g, u5.ownBlock = some g → w.heap.size ≤ g := fun g hg => owns_base2 ho g hg
    clear ho
    by_cases hi : i < xs.length
    · obtain ⟨b1, o1, rfl, _, hc⟩ := HX.out.some (by omega)
      have hiI : (i : Int) < (xs.length : Int) := by omega
      have c0 := hk.cell (hc i hi).1 (fun e => e)
      have c1 := hk.cell (hc i hi).2 (fun e => e)
      obtain ⟨x, hx⟩ : ∃ x, Hid (ia xs i = x) := ⟨_, rfl⟩
      rw [hx.out] at c0 c1
      have h63 : o.length + 1 ≤ maxLen := by have := HOL.out; unfold maxLen; omega
      have hb16 : (o.length + 1) * 16 ≤ 140737488355328 := by have := HOL.out; omega
      have hszr := hk.size
      clear hc
      by_cases hk' : k < ys.length
      · obtain ⟨b2, o2, rfl, _, hd⟩ := HY.out.some (by omega)
        have hkI : (k : Int) < (ys.length : Int) := by omega
        have d0 := hk.cell (hd k hk').1 (fun e => e)
        have d1 := hk.cell (hd k hk').2 (fun e => e)
        obtain ⟨y, hy⟩ : ∃ y, Hid (ia ys k = y) := ⟨_, rfl⟩
        rw [hy.out] at d0 d1
        clear hd
        have hkd : decide ((ys.length : Int) ≤ (k : Int)) = false := by simp; omega
        have hkn : decide (ys.length ≤ k) = false := by simp; omega
        have hNE : Nonempty (KS wr) := ⟨⟨wr, Keeps.refl _ wr⟩⟩
        have C0 := ks_cell c0
        have C1 := ks_cell c1
        have D0 := ks_cell d0
        have D1 := ks_cell d1
        go_wp2_with fail
        refine wp_region_ks (by kernel_rfl) (by kernel_rfl) ?_
        repeat (go_big_quiet_step ((go_at_call 59; refine (rbefore_any _ y x).mono ?_; rintro e w2 ⟨rfl, k2⟩; exact ⟨rfl, ⟨_, Keeps.trans (KS.property _) k2⟩, rfl⟩)))
        refine wpQuiet_nil ?_
        rintro _ ⟨u, rfl⟩
        have kd := u.property
        have q0 := C0 u
        have q1 := C1 u
        have q2 := D0 u
        have q3 := D1 u
        clear C0 C1 D0 D1 c0 c1 d0 d1
        generalize u.val = w2 at kd q0 q1 q2 q3 ⊢
        have HO : Hid (w2.ownsRow w.heap.size 32 2 u5 o.length (flat o)) := kd.owns HO.out (fun _ _ e => e)
        have hkc := hk.trans kd
        have hsz2 := hkc.size
        cases hb' : bef y x with
        | false =>
          go_wp2_with ((at_builtin; refine wpList_append_lies _ rfl _ _ _ rfl w.heap.size 32 i0 _ 2 16 underItems2 hi0 hz0 hz1 hz2 rfl (by decide) u5 o.length (flat o) rfl (HO.out.alloc _) ⟨w2.heap.size, 0, none⟩ 1 1 [.int .i64 x.1, .int .i64 x.2] rfl rfl (World.news_of_block (cs := #[.int .i64 x.1, .int .i64 x.2]) (t := 32) (fr := (0, 0)) (heap_alloc_new w2 _)) (by simp [Value.oneCell']) (by omega) h63 hb16 (by simp; omega) _ rfl ?_))
          intro g cg w4 hown4 hgrow hat hlt4
          have K4 : Keeps (fun _ => False) w w4 := (hkc.alloc _).grown hgrow (fun i hi e => by have := hob i e; omega)
          go_wp2_with fail
          go_roundw
          case rel =>
            have hmi := mi.left sx hi (fun z hz => by rw [hx.out]; exact bef_lin.trans (sd_drop sy hk' z hz) (by rw [hy.out]; exact hb'))
            rw [hx.out] at hmi
            exact ⟨o ++ [x], i + 1, k, by go_num, rfl, hmi, by rw [List.length_append, flat_append]; exact hown4, K4⟩
          case measure => simp [intOf]; omega
        | true =>
          go_wp2_with ((at_builtin; refine wpList_append_lies _ rfl _ _ _ rfl w.heap.size 32 i0 _ 2 16 underItems2 hi0 hz0 hz1 hz2 rfl (by decide) u5 o.length (flat o) rfl (HO.out.alloc _) ⟨w2.heap.size, 0, none⟩ 1 1 [.int .i64 y.1, .int .i64 y.2] rfl rfl (World.news_of_block (cs := #[.int .i64 y.1, .int .i64 y.2]) (t := 32) (fr := (0, 0)) (heap_alloc_new w2 _)) (by simp [Value.oneCell']) (by omega) h63 hb16 (by simp; omega) _ rfl ?_))
          intro g cg w4 hown4 hgrow hat hlt4
          have K4 : Keeps (fun _ => False) w w4 := (hkc.alloc _).grown hgrow (fun i hi e => by have := hob i e; omega)
          go_wp2_with fail
          go_roundw
          case rel =>
            have hmi := mi.right sy hk' (fun z hz => by rw [hy.out]; exact bef_lin.trans (sd_drop sx hi z hz) (by rw [hx.out]; exact bef_lin.asym hb'))
            rw [hy.out] at hmi
            exact ⟨o ++ [y], i, k + 1, rfl, by go_num, hmi, by rw [List.length_append, flat_append]; exact hown4, K4⟩
          case measure => simp [intOf]; omega
      · have hkI : ¬ (k : Int) < (ys.length : Int) := by omega
        have hkI2 : (ys.length : Int) ≤ (k : Int) := by omega
        have hkd : decide ((ys.length : Int) ≤ (k : Int)) = true := by simp; omega
        have hkn : decide (ys.length ≤ k) = true := by simp; omega
        have hkc := hk
        have HD : Hid (ys.drop k = []) := List.drop_eq_nil_of_le (by omega)
        go_wp2_with ((at_builtin; refine wpList_append_lies _ rfl _ _ _ rfl w.heap.size 32 i0 _ 2 16 underItems2 hi0 hz0 hz1 hz2 rfl (by decide) u5 o.length (flat o) rfl (HO.out.alloc _) ⟨wr.heap.size, 0, none⟩ 1 1 [.int .i64 x.1, .int .i64 x.2] rfl rfl (World.news_of_block (cs := #[.int .i64 x.1, .int .i64 x.2]) (t := 32) (fr := (0, 0)) (heap_alloc_new wr _)) (by simp [Value.oneCell']) (by omega) h63 hb16 (by simp; omega) _ rfl ?_))
        intro g cg w4 hown4 hgrow hat hlt4
        have K4 : Keeps (fun _ => False) w w4 := (hkc.alloc _).grown hgrow (fun i hi e => by have := hob i e; omega)
        go_wp2_with fail
        go_roundw
        case rel =>
          have hmi := mi.left sx hi (fun z hz => by rw [HD.out] at hz; cases hz)
          rw [hx.out] at hmi
          exact ⟨o ++ [x], i + 1, k, by go_num, rfl, hmi, by rw [List.length_append, flat_append]; exact hown4, K4⟩
        case measure => simp [intOf]; omega
    · have hiI : ¬ (i : Int) < (xs.length : Int) := by omega
      have HDX : Hid (xs.drop i = []) := List.drop_eq_nil_of_le (by omega)
      by_cases hk' : k < ys.length
      · obtain ⟨b2, o2, rfl, _, hd⟩ := HY.out.some (by omega)
        have hkI : (k : Int) < (ys.length : Int) := by omega
        have d0 := hk.cell (hd k hk').1 (fun e => e)
        have d1 := hk.cell (hd k hk').2 (fun e => e)
        obtain ⟨y, hy⟩ : ∃ y, Hid (ia ys k = y) := ⟨_, rfl⟩
        rw [hy.out] at d0 d1
        clear hd
        have hkd : decide ((ys.length : Int) ≤ (k : Int)) = false := by simp; omega
        have hkn : decide (ys.length ≤ k) = false := by simp; omega
        have hin : decide (i < xs.length) = false := by simp; omega
        have h63 : o.length + 1 ≤ maxLen := by have := HOL.out; unfold maxLen; omega
        have hb16 : (o.length + 1) * 16 ≤ 140737488355328 := by have := HOL.out; omega
        have hszr := hk.size
        have hkc := hk
        go_wp2_with ((at_builtin; refine wpList_append_lies _ rfl _ _ _ rfl w.heap.size 32 i0 _ 2 16 underItems2 hi0 hz0 hz1 hz2 rfl (by decide) u5 o.length (flat o) rfl (HO.out.alloc _) ⟨wr.heap.size, 0, none⟩ 1 1 [.int .i64 y.1, .int .i64 y.2] rfl rfl (World.news_of_block (cs := #[.int .i64 y.1, .int .i64 y.2]) (t := 32) (fr := (0, 0)) (heap_alloc_new wr _)) (by simp [Value.oneCell']) (by omega) h63 hb16 (by simp; omega) _ rfl ?_))
        intro g cg w4 hown4 hgrow hat hlt4
        have K4 : Keeps (fun _ => False) w w4 := (hkc.alloc _).grown hgrow (fun i hi e => by have := hob i e; omega)
        go_wp2_with fail
        go_roundw
        case rel =>
          have hmi := mi.right sy hk' (fun z hz => by rw [HDX.out] at hz; cases hz)
          rw [hy.out] at hmi
          exact ⟨o ++ [y], i, k + 1, rfl, by go_num, hmi, by rw [List.length_append, flat_append]; exact hown4, K4⟩
        case measure => simp [intOf]; omega
      · have hkI : ¬ (k : Int) < (ys.length : Int) := by omega
        have HD : Hid (ys.drop k = []) := List.drop_eq_nil_of_le (by omega)
        have e : o = srt (xs ++ ys) := srt_eq mi.sd (by have := mi.perm; rw [HD.out, HDX.out] at this; simpa using this)
        go_wp2
        go_ret
        exact ⟨_, rfl, by rw [← e]; exact HO.out, hk⟩

end Go.Proofs.Ytkebpelpjkgdkab
