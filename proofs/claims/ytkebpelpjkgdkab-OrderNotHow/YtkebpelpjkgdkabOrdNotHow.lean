import Derived.Test.YtkebpelpjkgdkabThree2
import Derived.Test.YtkebpelpjkgdkabOpsOpen
namespace Go.Proofs.Ytkebpelpjkgdkab
open Go.RowKit Go.Maps

theorem least_eq {xs ys : List It} {x y : It} (hp : xs.Perm ys) (hx : x ∈ xs) (hy : y ∈ ys) (lx : ∀ z ∈ xs, bef z x = false) (ly : ∀ z ∈ ys, bef z y = false) : x = y :=
  bef_lin.eq (ly x (hp.mem_iff.1 hx)) (lx y (hp.mem_iff.2 hy))
theorem nodup_ids : ∀ {xs : List It}, (ids xs).Nodup → xs.Nodup
  | [], _ => List.nodup_nil
  | x :: xs, h => by
    rw [ids_cons, List.nodup_cons] at h
    exact List.nodup_cons.2 ⟨fun hm => h.1 (List.mem_map.2 ⟨x, hm, rfl⟩), nodup_ids h.2⟩
theorem sd_strict {xs : List It} (h : Sd xs) (hn : (ids xs).Nodup) : Rise true xs := by
  intro i h0 h1
  have h2 : i - 1 < xs.length := by omega
  refine ⟨?_, fun _ e => ?_⟩
  · rw [ia_get h1, ia_get h2]
    exact (List.pairwise_iff_getElem.1 h) (i - 1) i h2 h1 (by omega)
  · have := ids_ne hn h1 h2 (by omega)
    exact this (by rw [e])
theorem sd_first {xs : List It} (h : Sd xs) {i : Nat} (hi : i < xs.length) : ∀ y ∈ xs.drop i, bef y (ia xs i) = false := fun y hy => by
  have hd : xs.drop i = ia xs i :: xs.drop (i + 1) := by rw [ia_get hi]; exact (List.getElem_cons_drop hi).symm
  rw [hd] at hy
  rcases List.mem_cons.1 hy with rfl | hy
  · exact bef_lin.irr _
  · have : Sd (xs.drop i) := h.sublist (List.drop_sublist _ _)
    rw [hd] at this
    exact (List.pairwise_cons.1 this).1 y hy

set_option maxHeartbeats 12800000 in
set_option maxRecDepth 1000000 in
theorem ordNotHow_walk (a : Option Addr) (len cap : Nat) (w : World) (hs : IsOps w a len) :
    Calls Try.prog 4 #[.slice a len cap] w fun e w' => e = .returned (.bool true) ∧ Below w.heap.size w w' := by
  have hne := itemNe
  have HS' : Hid (IsOps w a len) := hs
  clear hs
  have m64 : I64 1099511627776 ∧ I64 2199023255552 := by constructor <;> (unfold I64; omega)
  go_enter Try.func4, Try.ntmps4
  go_wp2_with fail
  refine (tq_new (TQ.start (w0 := w) (Keeps.refl _ w))).mono ?_
  rintro e w1 ⟨rfl, t1⟩
  go_wp2_with fail
  refine (tq_add t1 (1099511627776, 2199023255552) m64).mono ?_
  rintro e w2 (⟨hin, _⟩ | ⟨_, hf, _⟩ | ⟨_, _, rfl, xs0, t2, p2⟩)
  · cases hin
  · simp at hf
  have hm0 : (2199023255552 : Int) ∈ ids xs0 := (ids_perm p2).mem_iff.2 (by simp [ids])
  go_wp2_with fail
  refine (num_any _ _).mono ?_
  rintro e w3 ⟨rfl, rfl⟩
  clear t1 p2
  go_wp2_with fail
  go_loopw [5] (fun iv wr => ∃ (i : Nat) (xs : List It), i ≤ len ∧ iv = .int .i64 i ∧ TQ w wr (some (w.heap.size, xs)) none none (.slice none 0 0) [] ∧ (2199023255552 : Int) ∈ ids xs) (fun iv _ => len - (intOf iv).toNat)
  case atStart => exact ⟨0, xs0, Nat.zero_le _, rfl, t2, hm0⟩
  case round =>
    obtain ⟨i, xs, hil, rfl, tr, hm⟩ := hrel
    have HM : Hid ((2199023255552 : Int) ∈ ids xs) := hm
    clear hm t2 hm0
    by_cases hlt : i < len
    · obtain ⟨b, off, rfl, _, hlb, hc⟩ := HS'.out.resolve_left (by omega)
      obtain ⟨kd, qq, key, id, i1, i2, d0, d1, d2, d3⟩ := hc i hlt
      have hiI : (i : Int) < (len : Int) := by omega
      have c0 := tr.keeps.cell d0 (fun e => e)
      have c1 := tr.keeps.cell d1 (fun e => e)
      have c2 := tr.keeps.cell d2 (fun e => e)
      have c3 := tr.keeps.cell d3 (fun e => e)
      have ta := tr.new ((Keeps.refl _ wr).alloc (.cells #[.int .i64 kd, .int .i64 qq, .int .i64 key, .int .i64 id] 42))
      have HB : Hid (len ≤ 9223372036854775807) := hlb
      clear hc d0 d1 d2 d3 tr
      by_cases h1 : kd = 1
      · have e1 : (kd == 1) = true := by simp [h1]
        have H1 : Hid (kd = 1) := h1
        clear h1
        go_wp2_with fail
        refine (tq_add ta (key, id) ⟨i1, i2⟩).mono ?_
        rintro e w4 (⟨_, rfl, t4⟩ | ⟨_, _, rfl, t4⟩ | ⟨_, _, rfl, ys, t4, p4⟩)
        · go_wp2_with fail
          go_roundw
          case rel => exact ⟨i + 1, xs, by omega, by go_num, t4, HM.out⟩
          case measure => simp [intOf]; omega
        · go_wp2_with fail
          go_roundw
          case rel => exact ⟨i + 1, xs, by omega, by go_num, t4, HM.out⟩
          case measure => simp [intOf]; omega
        · go_wp2_with fail
          go_roundw
          case rel => exact ⟨i + 1, ys, by omega, by go_num, t4, (ids_perm p4).mem_iff.2 (by simp [ids]; exact .inl (by simpa [ids] using HM.out))⟩
          case measure => simp [intOf]; omega
      · have e1 : (kd == 1) = false := by simp [h1]
        by_cases h5 : kd = 5
        · have e5 : (kd == 5) = true := by simp [h5]
          have H5 : Hid (kd = 5) := h5
          clear h5 h1
          go_wp2_with fail
          refine (tq_change ta i2 i1).mono ?_
          rintro e w4 (⟨_, rfl, t4⟩ | ⟨p, hp, hpk, rfl, ys, t4, p4⟩)
          · go_wp2_with fail
            go_roundw
            case rel => exact ⟨i + 1, xs, by omega, by go_num, t4, HM.out⟩
            case measure => simp [intOf]; omega
          · go_wp2_with fail
            go_roundw
            case rel => exact ⟨i + 1, ys, by omega, by go_num, t4, (ids_perm p4).mem_iff.2 (by rw [ids_set hp (key, id) hpk]; exact HM.out)⟩
            case measure => simp [intOf]; omega
        · have e5 : (kd == 5) = false := by simp [h5]
          by_cases h6 : kd = 6
          · have e6 : (kd == 6) = true := by simp [h6]
            have H6 : Hid (kd = 6) := h6
            clear h6 h5 h1
            by_cases hid : id = 2199023255552
            · have e7 : (id != 2199023255552) = false := by simp [hid]
              have HID : Hid (id = 2199023255552) := hid
              clear hid
              go_wp2_with fail
              go_roundw
              case rel => exact ⟨i + 1, xs, by omega, by go_num, ta, HM.out⟩
              case measure => simp [intOf]; omega
            · have e7 : (id != 2199023255552) = true := by simp [hid]
              have HID : Hid (¬ id = 2199023255552) := hid
              clear hid
              go_wp2_with fail
              refine (tq_drop ta i2).mono ?_
              rintro e w4 (⟨_, rfl, t4⟩ | ⟨x, hx, hxk, rfl, ys, t4, p4⟩)
              · go_wp2_with fail
                go_roundw
                case rel => exact ⟨i + 1, xs, by omega, by go_num, t4, HM.out⟩
                case measure => simp [intOf]; omega
              · have hmy : (2199023255552 : Int) ∈ ids ys := by
                  have := (ids_perm p4).mem_iff.2 HM.out
                  rw [ids_cons, hxk] at this
                  exact (List.mem_cons.1 this).resolve_left (fun e => HID.out e.symm)
                go_wp2_with fail
                go_roundw
                case rel => exact ⟨i + 1, ys, by omega, by go_num, t4, hmy⟩
                case measure => simp [intOf]; omega
          · have e6 : (kd == 6) = false := by simp [h6]
            by_cases h3 : kd = 3
            · have e3 : (kd == 3) = true := by simp [h3]
              have H3 : Hid (kd = 3) := h3
              clear h3 h6 h5 h1
              go_wp2_with fail
              refine (tq_len ta).mono ?_
              rintro e w4 ⟨rfl, rfl⟩
              by_cases hl : 1 < xs.length
              · have hlI : (1 : Int) < (xs.length : Int) := by omega
                go_wp2_with fail
                refine (tq_take ta (by omega)).mono ?_
                rintro e w5 ⟨x, ys, rfl, t5, p5, _⟩
                have hle : xs.length ≤ 4096 := by
                  obtain ⟨F, h⟩ := ta
                  exact h.qi.le
                have hly : ys.length + 1 = xs.length := by have := p5.length_eq; simpa using this
                go_wp2_with fail
                refine (tq_add t5 (1099511627776, 2199023255552) m64).mono ?_
                rintro e w6 (⟨hin, rfl, t6⟩ | ⟨_, hf, _⟩ | ⟨_, _, rfl, zs, t6, p6⟩)
                · go_wp2_with fail
                  go_roundw
                  case rel => exact ⟨i + 1, ys, by omega, by go_num, t6, hin⟩
                  case measure => simp [intOf]; omega
                · omega
                · go_wp2_with fail
                  go_roundw
                  case rel => exact ⟨i + 1, zs, by omega, by go_num, t6, (ids_perm p6).mem_iff.2 (by simp [ids])⟩
                  case measure => simp [intOf]; omega
              · have hlI : ¬ (1 : Int) < (xs.length : Int) := by omega
                go_wp2_with fail
                go_roundw
                case rel => exact ⟨i + 1, xs, by omega, by go_num, ta, HM.out⟩
                case measure => simp [intOf]; omega
            · have e3 : (kd == 3) = false := by simp [h3]
              clear h3 h6 h5 h1
              go_wp2_with fail
              go_roundw
              case rel => exact ⟨i + 1, xs, by omega, by go_num, ta, HM.out⟩
              case measure => simp [intOf]; omega
    · have hiI : ¬ (i : Int) < (len : Int) := by omega
      have hnd : (ids xs).Nodup := by
        obtain ⟨F, h⟩ := tr
        exact h.qi.nodup
      have hle : xs.length ≤ 4096 := by
        obtain ⟨F, h⟩ := tr
        exact h.qi.le
      have x64 : ∀ x ∈ xs, I64 x.1 ∧ I64 x.2 := by
        obtain ⟨F, h⟩ := tr
        exact h.qi.num
      go_wp2_with fail
      refine (tq_items tr).mono ?_
      rintro e w4 ⟨v, rfl, t4⟩
      have hSp : (srt xs).Perm xs := srt_perm xs
      have hSd : Sd (srt xs) := srt_sd xs
      obtain ⟨S, hS⟩ : ∃ S, Hid (srt xs = S) := ⟨_, rfl⟩
      rw [hS.out] at t4 hSp hSd
      have hSn : (ids S).Nodup := (ids_perm hSp).nodup_iff.2 hnd
      have hSl : S.length = xs.length := hSp.length_eq
      have hS0 : 0 < S.length := by
        rw [hSl]
        cases xs with
        | nil => cases HM.out
        | cons x xs => simp
      have hSb : S.length ≤ 4096 := by omega
      have HSL : Hid (xs.length = S.length) := hSl.symm
      have hs0 : ((S.length : Int) == 0) = false := by rw [beq_eq_false_iff_ne]; omega
      obtain ⟨av, cv, rfl, il4, _⟩ := owns_il t4.own rfl
      obtain ⟨b, off, rfl, _, _⟩ := il4.some hS0
      clear hSl
      go_wp2_with fail
      refine (tq_len t4).mono ?_
      rintro e w5 ⟨rfl, rfl⟩
      rw [HSL.out]
      go_wp2_with fail
      refine (rising_any il4 (by omega) cv true (sd_strict hSd hSn)).mono ?_
      rintro e w6 ⟨rfl, k6⟩
      have t6 := t4.new k6
      clear il4 t4
      go_wp2_with fail
      refine (tq_least t6).mono ?_
      rintro e w7 ⟨t7, (⟨hnil, _⟩ | ⟨x, hx, hxl, rfl⟩)⟩
      · rw [hnil] at HSL; have := HSL.out; simp at this; omega
      have exS : x = ia S 0 := least_eq hSp.symm hx (ia_mem hS0) hxl (fun z hz => by have := sd_first hSd hS0 z (by simpa using hz); exact this)
      have t8 := t7.new ((Keeps.refl _ w7).alloc (.cells #[.int .i64 x.1, .int .i64 x.2] 32))
      obtain ⟨w8, hw8⟩ : ∃ w8, w8 = w7.alloc (.cells #[.int .i64 x.1, .int .i64 x.2] 32) := ⟨_, rfl⟩
      rw [← hw8] at t8
      have b0 : w8.cell? ⟨w7.heap.size, 0, none⟩ = some (.int .i64 x.1) := by rw [hw8]; simp
      have b1 : w8.cell? ⟨w7.heap.size, 1, none⟩ = some (.int .i64 x.2) := by rw [hw8]; simp
      obtain ⟨_, _, ev, il8, _⟩ := owns_il t8.own rfl
      cases ev
      have l0 := ((il8.some hS0).elim (fun b' h => h.elim (fun o' h => by cases h.1; exact (h.2.2 0 hS0))))
      obtain ⟨l0, l1⟩ := l0
      rw [← exS] at l0 l1
      simp only [Nat.zero_mul, Nat.add_zero] at l0 l1
      have B0 := ks_cell b0
      have B1 := ks_cell b1
      have L0 := ks_cell l0
      have L1 := ks_cell l1
      have hs0I : (0 : Int) < (S.length : Int) := by omega
      have hNE : Nonempty (KS w8) := ⟨⟨w8, Keeps.refl _ w8⟩⟩
      clear t6 t7 k6 b0 b1 l0 l1 il8 exS
      go_wp2_with fail
      rw [← hw8]
      clear hw8
      refine wp_region_ks (by kernel_rfl) (by kernel_rfl) ?_
      repeat (go_big_quiet_step ((go_at_call 13; refine (num_any _ _).mono ?_; rintro e w2 ⟨rfl, rfl⟩; exact ⟨rfl, ⟨_, KS.property _⟩, rfl⟩)))
      refine wpQuiet_nil ?_
      rintro _ ⟨u, rfl⟩
      have t9 := t8.new u.property
      clear B0 B1 L0 L1
      generalize u.val = w9 at t9 ⊢
      clear t8 hNE
      go_wp2_with fail
      refine (tq_new t9.rot).mono ?_
      rintro e w10 ⟨rfl, t10⟩
      obtain ⟨p, hp⟩ : ∃ p, w9.heap.size = p := ⟨_, rfl⟩
      rw [hp] at t10 ⊢
      clear hp t9
      go_wp2_with fail
      go_loopw [13] (fun iv wr => ∃ (m : Nat) (ys : List It), m ≤ S.length ∧ iv = .int .i64 ((m : Int) - 1) ∧ TQ w wr (some (p, ys)) none (some (w.heap.size, xs)) (.slice (some ⟨b, off, none⟩) S.length cv) S ∧ ys.Perm (S.drop m)) (fun iv _ => (intOf iv + 1).toNat)
      case atStart => exact ⟨S.length, [], Nat.le_refl _, by simp, t10, by simp⟩
      case round =>
        obtain ⟨m, ys, hml, rfl, tq, pq⟩ := hrel
        obtain ⟨_, _, ev, ilr, _⟩ := owns_il tq.own rfl
        cases ev
        by_cases hm : m = 0
        · have hneg : (m : Int) - 1 = -1 := by omega
          rw [hneg]
          subst hm
          have pS : ys.Perm S := by simpa using pq
          have t20 := tq.rot.rot
          have hSp' : xs.Perm S := hSp.symm
          clear tq pq ilr t10
          go_wp2_with fail
          go_loopw [17] (fun iv wr3 => ∃ (i3 : Nat) (us vs : List It), i3 ≤ S.length ∧ iv = .int .i64 i3 ∧ TQ w wr3 (some (w.heap.size, us)) (some (p, vs)) none (.slice (some ⟨b, off, none⟩) S.length cv) S ∧ us.Perm (S.drop i3) ∧ vs.Perm (S.drop i3)) (fun iv _ => S.length - (intOf iv).toNat)
          case atStart => exact ⟨0, xs, ys, Nat.zero_le _, rfl, t20, by simpa using hSp', by simpa using pS⟩
          case round =>
            obtain ⟨j, us, vs, hjl', rfl, tq, pu, pv⟩ := hrel
            by_cases hjl : j < S.length
            · have hjL : (j : Int) < (S.length : Int) := by omega
              have hdl : (S.drop j).length = S.length - j := List.length_drop ..
              have hyd : Hid ((ia S j :: S.drop (j + 1)) = S.drop j) := by show _ = _; rw [ia_get hjl]; exact List.getElem_cons_drop hjl
              have hjm : ia S j ∈ S.drop j := by rw [← hyd.out]; simp
              have hmin := sd_first hSd hjl
              obtain ⟨y, hy⟩ : ∃ y, Hid (ia S j = y) := ⟨_, rfl⟩
              rw [hy.out] at hjm hmin
              have hul : 0 < us.length := by rw [pu.length_eq]; omega
              have hvl : 0 < vs.length := by rw [pv.length_eq]; omega
              go_wp2_with fail
              refine (tqr_take tq.tqr hul).mono ?_
              rintro e v1 ⟨x, ua, rfl, r1, px, lx, _⟩
              have exy : x = y := least_eq pu (px.mem_iff.1 (by simp)) hjm lx hmin
              subst exy
              have r1a := (r1.alloc (.cells #[.int .i64 x.1, .int .i64 x.2] 32)).rot
              have x0c : (v1.alloc (.cells #[.int .i64 x.1, .int .i64 x.2] 32)).cell? ⟨v1.heap.size, 0, none⟩ = some (.int .i64 x.1) := by simp
              have x1c : (v1.alloc (.cells #[.int .i64 x.1, .int .i64 x.2] 32)).cell? ⟨v1.heap.size, 1, none⟩ = some (.int .i64 x.2) := by simp
              go_wp2_with fail
              refine (tqr_take r1a hvl).mono ?_
              rintro e v2 ⟨z, va, rfl, r2, pz, lz, hc2⟩
              have exz : z = x := least_eq pv (pz.mem_iff.1 (by simp)) hjm lz hmin
              subst exz
              have x0d := hc2 0 _ _ (by simp) x0c
              have x1d := hc2 1 _ _ (by simp) x1c
              have t3 := (r2.alloc (.cells #[.int .i64 z.1, .int .i64 z.2] 32)).rot.rot.tq
              obtain ⟨v3, hv3⟩ : ∃ v3, v3 = v2.alloc (.cells #[.int .i64 z.1, .int .i64 z.2] 32) := ⟨_, rfl⟩
              rw [← hv3] at t3
              have KA : Keeps (fun _ => False) v2 v3 := by rw [hv3]; exact (Keeps.refl _ v2).alloc _
              have a0 := KA.cell x0d (fun e => e)
              have a1 := KA.cell x1d (fun e => e)
              have b0 : v3.cell? ⟨v2.heap.size, 0, none⟩ = some (.int .i64 z.1) := by rw [hv3]; simp
              have b1 : v3.cell? ⟨v2.heap.size, 1, none⟩ = some (.int .i64 z.2) := by rw [hv3]; simp
              obtain ⟨_, _, ev, il3, _⟩ := owns_il t3.own rfl
              cases ev
              obtain ⟨l0, l1⟩ := ((il3.some hS0).elim (fun b' h => h.elim (fun o' h => by cases h.1; exact (h.2.2 j hjl))))
              rw [hy.out] at l0 l1
              have A0 := ks_cell a0
              have A1 := ks_cell a1
              have B0 := ks_cell b0
              have B1 := ks_cell b1
              have L0 := ks_cell l0
              have L1 := ks_cell l1
              have hNE : Nonempty (KS v3) := ⟨⟨v3, Keeps.refl _ v3⟩⟩
              clear a0 a1 b0 b1 l0 l1 x0c x1c x0d x1d hc2 il3 tq r1 r1a r2 KA
              go_wp2_with fail
              rw [← hv3]
              clear hv3
              refine wp_region_ks (by kernel_rfl) (by kernel_rfl) ?_
              repeat (go_big_quiet_step ((go_at_call 13; refine (num_any _ _).mono ?_; rintro e w2 ⟨rfl, rfl⟩; exact ⟨rfl, ⟨_, KS.property _⟩, rfl⟩)))
              refine wpQuiet_nil ?_
              rintro _ ⟨u, rfl⟩
              have t4 := t3.new u.property
              go_wp2_with fail
              go_roundw
              case rel =>
                refine ⟨j + 1, ua, va, by omega, by go_num, t4, ?_, ?_⟩
                · have h1 := px.trans pu
                  rw [← hyd.out, hy.out] at h1
                  exact h1.cons_inv
                · have h1 := pz.trans pv
                  rw [← hyd.out, hy.out] at h1
                  exact h1.cons_inv
              case measure => simp [intOf]; omega
            · have hjL : ¬ (j : Int) < (S.length : Int) := by omega
              go_wp2
              go_ret
              exact ⟨rfl, tq.keeps.below (Nat.le_refl _) (fun _ _ e => e)⟩
        · obtain ⟨j, hj⟩ : ∃ j : Nat, Hid (m = j + 1) := ⟨m - 1, by show _ = _; omega⟩
          have hjI : (m : Int) - 1 = (j : Int) := by have := hj.out; omega
          rw [hjI]
          have hjl : j < S.length := by have := hj.out; omega
          have hjL : (j : Int) < (S.length : Int) := by omega
          obtain ⟨c0, c1⟩ := ((ilr.some hS0).elim (fun b' h => h.elim (fun o' h => by cases h.1; exact (h.2.2 j hjl))))
          have hym : ia S j ∈ xs := hSp.mem_iff.1 (ia_mem hjl)
          have y64 := x64 _ hym
          have hpd : Hid ((ia S j :: S.drop (j + 1)) = S.drop j) := by show _ = _; rw [ia_get hjl]; exact List.getElem_cons_drop hjl
          have hni : (ia S j).2 ∉ ids (S.drop (j + 1)) := by
            have h1 : (ids (S.drop j)).Nodup := by
              unfold ids at *; rw [List.map_drop]; exact hSn.sublist (List.drop_sublist _ _)
            rw [← hpd.out, ids_cons, List.nodup_cons] at h1
            exact h1.1
          obtain ⟨y, hy⟩ : ∃ y, Hid (ia S j = y) := ⟨_, rfl⟩
          rw [hy.out] at c0 c1 hym y64 hni
          have hpq : Hid (ys.Perm (S.drop (j + 1))) := by have := pq; rw [hj.out] at this; exact this
          clear hjI pq hm
          go_wp2_with fail
          refine (tq_key tq.rot.rot y64.2).mono ?_
          rintro e w11 ⟨rfl, (⟨hnin, _⟩ | ⟨x2, hx2, hx2i, rfl⟩)⟩
          · exact absurd (List.mem_map.2 ⟨y, hym, rfl⟩) hnin
          have ex2 : x2 = y := by
            obtain ⟨i1, hi1, rfl⟩ := List.getElem_of_mem hx2
            obtain ⟨i2, hi2, rfl⟩ := List.getElem_of_mem hym
            by_cases h : i1 = i2
            · subst h; rfl
            · have := ids_ne hnd hi1 hi2 h
              rw [ia_get hi1, ia_get hi2] at this
              exact absurd hx2i this
          subst ex2
          go_wp2_with fail
          refine (tq_add tq x2 y64).mono ?_
          rintro e w12 (⟨hin, _⟩ | ⟨_, hf, _⟩ | ⟨_, _, rfl, zs, t12, p12⟩)
          · exact absurd ((ids_perm hpq.out).mem_iff.1 hin) hni
          · have := hpq.out.length_eq; rw [List.length_drop] at this; omega
          obtain ⟨_, _, ev, il12, _⟩ := owns_il t12.own rfl
          cases ev
          obtain ⟨d0, d1⟩ := ((il12.some hS0).elim (fun b' h => h.elim (fun o' h => by cases h.1; exact (h.2.2 j hjl))))
          rw [hy.out] at d0 d1
          go_wp2_with fail
          refine (num_any _ _).mono ?_
          rintro e w13 ⟨rfl, rfl⟩
          go_wp2_with fail
          refine (num_any _ _).mono ?_
          rintro e w13 ⟨rfl, rfl⟩
          go_wp2_with fail
          go_roundw
          case rel =>
            refine ⟨j, zs, by omega, by go_num, t12, ?_⟩
            rw [← hpd.out, hy.out]
            exact (p12.trans (hpq.out.append_right _)).trans (List.perm_append_singleton _ _)
          case measure => have := hj.out; simp [intOf]

end Go.Proofs.Ytkebpelpjkgdkab
