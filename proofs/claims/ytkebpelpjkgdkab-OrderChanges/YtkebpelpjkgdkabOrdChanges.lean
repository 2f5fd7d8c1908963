import Derived.Test.YtkebpelpjkgdkabThree2
namespace Go.Proofs.Ytkebpelpjkgdkab
open Go.RowKit Go.Maps

theorem same_of_id {xs : List It} (hn : (ids xs).Nodup) {x y : It} (hx : x ∈ xs) (hy : y ∈ xs) (e : x.2 = y.2) : x = y := by
  obtain ⟨i, hi, rfl⟩ := List.getElem_of_mem hx
  obtain ⟨j, hj, rfl⟩ := List.getElem_of_mem hy
  by_cases h : i = j
  · subst h; rfl
  · have := ids_ne hn hi hj h
    rw [ia_get hi, ia_get hj] at this
    exact absurd e this
theorem least_same {xs ys : List It} {x y : It} (hp : xs.Perm ys) (hx : x ∈ xs) (hy : y ∈ ys) (lx : ∀ z ∈ xs, bef z x = false) (ly : ∀ z ∈ ys, bef z y = false) : x = y :=
  bef_lin.eq (ly x (hp.mem_iff.1 hx)) (lx y (hp.mem_iff.2 hy))
/-- One changed for another of the same ID. -/
theorem set_swap {xs L : List It} {p : Nat} {x0 x : It} (hp : p < xs.length) (hxs : xs.Perm L) (hn : (ids L).Nodup) (h0 : x0 ∈ L) (he : x0.2 = (ia xs p).2) {ys : List It} (hy : ys.Perm (xs.set p x)) : (x0 :: ys).Perm (x :: L) := by
  have e : ia xs p = x0 := same_of_id hn (hxs.mem_iff.1 (ia_mem hp)) h0 he.symm
  have := perm_set_cons xs p x hp
  rw [e] at this
  exact ((hy.cons x0).trans this).trans (hxs.cons x)

set_option maxHeartbeats 12800000 in
set_option maxRecDepth 1000000 in
theorem ordChanges_walk {w : World} {a : Option Addr} {items : List It} (hi : IL w a items) (hl : items.length * 16 ≤ 140737488351232) (hnum : ∀ x ∈ items, I64 x.1 ∧ I64 x.2) (cap : Nat) (id : Int) (hid : I64 id) (key : Int) (hkey : I64 key) :
    Calls Try.prog 3 #[.slice a items.length cap, .int .i64 id, .int .i64 key] w fun e w' => e = .returned (.bool true) ∧ Below w.heap.size w w' := by
  have hne := itemNe
  go_enter Try.func3, Try.ntmps3
  go_wp2_with fail
  refine (head_any w).mono ?_
  rintro e w1 ⟨rfl, k1⟩
  have t1 := TQ.start (w0 := w) k1
  go_wp2_with fail
  refine (tq_new t1).mono ?_
  rintro e w2 ⟨rfl, t2⟩
  go_wp2_with fail
  refine (tq_new t2.rot).mono ?_
  rintro e w3 ⟨rfl, t3⟩
  go_wp2_with fail
  refine (tq_new t3.rot).mono ?_
  rintro e w4 ⟨rfl, t4⟩
  obtain ⟨qa, hqa⟩ : ∃ qa, w1.heap.size = qa := ⟨_, rfl⟩
  obtain ⟨qb, hqb⟩ : ∃ qb, w2.heap.size = qb := ⟨_, rfl⟩
  obtain ⟨qc, hqc⟩ : ∃ qc, w3.heap.size = qc := ⟨_, rfl⟩
  rw [hqa, hqb, hqc] at t4
  rw [hqa, hqb, hqc]
  clear t1 t2 t3 k1 hqa hqb hqc
  go_wp2_with fail
  refine (tq_load t4.rot hi (by omega) hnum cap).mono ?_
  rintro e w5 ⟨v, rfl, xa, pa, _, t5⟩
  have hnd : (ids (hold items)).Nodup := by
    obtain ⟨F, h⟩ := t5
    exact (ids_perm pa).nodup_iff.1 h.qi.nodup
  have hHl : (hold items).length ≤ 4096 := hold_le _
  obtain ⟨L, hL⟩ : ∃ L, Hid (hold items = L) := ⟨_, rfl⟩
  rw [hL.out] at pa t5 hnd hHl
  obtain ⟨av, cv, rfl, _, _⟩ := owns_il t5.own rfl
  go_wp2_with fail
  refine (tq_load t5.rot hi (by omega) hnum cap).mono ?_
  rintro e w6 ⟨_, rfl, xb, pb, t6, _⟩
  go_wp2_with fail
  refine (tq_load t6.rot hi (by omega) hnum cap).mono ?_
  rintro e w7 ⟨_, rfl, xc, pc, t7, _⟩
  rw [hL.out] at pb pc
  have t8 := t7.rot
  clear t4 t5 t6 t7
  go_wp2_with fail
  refine (tq_key t8 hid).mono ?_
  rintro e w8 ⟨rfl, hkr⟩
  obtain ⟨_, _, ev, il8, _⟩ := owns_il t8.own rfl
  cases ev
  rcases hkr with ⟨hnin, rfl⟩ | ⟨x0, hx0, hx0i, rfl⟩
  · have hnL : id ∉ ids L := fun e => hnin ((ids_perm pa).mem_iff.2 e)
    go_wp2_with fail
    go_loopw [14, 15] (fun tv iv wr => ∃ i : Nat, i ≤ L.length ∧ iv = .int .i64 i ∧ tv = .bool false ∧ wr = w8) (fun _ iv _ => L.length - (intOf iv).toNat)
    case atStart => exact ⟨0, Nat.zero_le _, rfl, rfl, rfl⟩
    case round =>
      obtain ⟨i, hil, rfl, rfl, rfl⟩ := hrel
      by_cases hlt : i < L.length
      · obtain ⟨b, off, rfl, _, hc⟩ := il8.some (by omega)
        have hiI : (i : Int) < (L.length : Int) := by omega
        have c1 := (hc i hlt).2
        have hni : ((ia L i).2 == id) = false := by rw [beq_eq_false_iff_ne]; exact fun e => hnL (e ▸ mem_ids hlt)
        obtain ⟨y, hy⟩ : ∃ y, Hid ((ia L i).2 = y) := ⟨_, rfl⟩
        rw [hy.out] at c1 hni
        clear hc
        go_wp2_with fail
        go_roundw
        case rel => exact ⟨i + 1, by omega, by go_num, by simp⟩
        case measure => simp [intOf]; omega
      · have hiI : ¬ (i : Int) < (L.length : Int) := by omega
        go_wp2_with fail
        refine (tq_change t8 hid hkey).mono ?_
        rintro e w9 (⟨_, rfl, t9⟩ | ⟨p, hp, hpk, _⟩)
        · go_wp2_with fail
          refine (tq_drop t9.rot hid).mono ?_
          rintro e w10 (⟨_, rfl, t10⟩ | ⟨x, hx, hxk, _⟩)
          · go_wp2_with fail
            refine (num_any _ _).mono ?_
            rintro e w11 ⟨rfl, rfl⟩
            go_wp2_with fail
            refine (num_any _ _).mono ?_
            rintro e w11 ⟨rfl, rfl⟩
            go_wp2_with fail
            refine (num_any _ _).mono ?_
            rintro e w11 ⟨rfl, rfl⟩
            go_wp2
            go_ret
            exact ⟨rfl, t10.keeps.below (Nat.le_refl _) (fun _ _ e => e)⟩
          · exact absurd ((ids_perm pb).mem_iff.1 (List.mem_map.2 ⟨x, hx, hxk⟩)) hnL
        · exact absurd (hpk ▸ mem_ids hp) hnin
  · have hxL : x0 ∈ L := pa.mem_iff.1 hx0
    go_wp2_with fail
    go_loopw [14, 15] (fun tv iv wr => ∃ i : Nat, i ≤ L.length ∧ iv = .int .i64 i ∧ tv = .bool (decide (id ∈ ids (L.take i))) ∧ wr = w8) (fun _ iv _ => L.length - (intOf iv).toNat)
    case atStart => exact ⟨0, Nat.zero_le _, rfl, by simp [ids], rfl⟩
    case round =>
      obtain ⟨i, hil, rfl, rfl, rfl⟩ := hrel
      by_cases hlt : i < L.length
      · obtain ⟨b, off, rfl, _, hc⟩ := il8.some (by omega)
        have hiI : (i : Int) < (L.length : Int) := by omega
        have c0 := (hc i hlt).1
        have c1 := (hc i hlt).2
        have HT : Hid (ids (L.take (i + 1)) = ids (L.take i) ++ [(ia L i).2]) := by
          show _ = _
          unfold ids; rw [← List.take_append_getElem hlt, List.map_append, ia_get hlt]; rfl
        have HU : Hid ((ia L i).2 = id → (ia L i).1 = x0.1) := fun e => by rw [same_of_id hnd (ia_mem hlt) hxL (e.trans hx0i.symm)]
        obtain ⟨y, hy⟩ : ∃ y, Hid (ia L i = y) := ⟨_, rfl⟩
        rw [hy.out] at c0 c1
        clear hc
        by_cases he : y.2 = id
        · have h1 : (y.2 == id) = true := by simp [he]
          have h2 : x0.1 = y.1 := by have := HU.out; rw [hy.out] at this; exact (this he).symm
          have h3 : (x0.1 != y.1) = false := by simp [h2]
          have HE : Hid (y.2 = id) := he
          clear he h2
          go_wp2_with fail
          go_roundw
          case rel => exact ⟨i + 1, by omega, by go_num, by rw [HT.out, hy.out, HE.out]; simp, trivial⟩
          case measure => simp [intOf]; omega
        · have h1 : (y.2 == id) = false := by simp [he]
          have HE : Hid (¬ y.2 = id) := he
          clear he
          go_wp2_with fail
          go_roundw
          case rel => exact ⟨i + 1, by omega, by go_num, by rw [HT.out, hy.out]; simp [Ne.symm HE.out], trivial⟩
          case measure => simp [intOf]; omega
      · have hiI : ¬ (i : Int) < (L.length : Int) := by omega
        have hth : decide (id ∈ ids (L.take i)) = true := by
          rw [List.take_of_length_le (by omega)]
          simp
          exact List.mem_map.2 ⟨x0, hxL, hx0i⟩
        rw [hth]
        have x64 : I64 x0.1 := by
          obtain ⟨F, h⟩ := t8
          exact (h.qi.num x0 hx0).1
        clear hth
        go_wp2_with fail
        refine (tq_change t8 hid hkey).mono ?_
        rintro e w9 (⟨hni, _⟩ | ⟨p, hp, hpk, rfl, ya, t9, hpa⟩)
        · exact absurd (List.mem_map.2 ⟨x0, hx0, hx0i⟩) hni
        go_wp2_with fail
        refine (tq_drop t9.rot hid).mono ?_
        rintro e w10 (⟨hni, _⟩ | ⟨xd, hxd, hxdk, rfl, yb, t10, hpb⟩)
        · exact absurd ((ids_perm pb).mem_iff.2 (List.mem_map.2 ⟨x0, hxL, hx0i⟩)) hni
        go_wp2_with fail
        have hxd0 : xd = x0 := same_of_id hnd (pb.mem_iff.1 hxd) hxL (hxdk.trans hx0i.symm)
        subst hxd0
        have hybn : id ∉ ids yb := by
          have h1 : (ids (xd :: yb)).Nodup := (ids_perm (hpb.trans pb)).nodup_iff.2 hnd
          rw [ids_cons, hx0i, List.nodup_cons] at h1
          exact h1.1
        refine (tq_add t10 (key, id) ⟨hkey, hid⟩).mono ?_
        rintro e w11 (⟨hin, _⟩ | ⟨_, hfl, _⟩ | ⟨_, _, rfl, zb, t11, hzb⟩)
        · exact absurd hin hybn
        · have := (hpb.trans pb).length_eq; simp at this; omega
        go_wp2_with fail
        have hmid : I64 (wrap64 (xd.1.tdiv 2)) := by unfold I64 wrap64; omega
        obtain ⟨mid, hmd⟩ : ∃ mid, wrap64 (xd.1.tdiv 2) = mid := ⟨_, rfl⟩
        rw [hmd] at hmid ⊢
        clear hmd
        refine (tq_change t11.rot hid hmid).mono ?_
        rintro e w12 (⟨hni, _⟩ | ⟨p2, hp2, hpk2, rfl, yc, t12, hpc⟩)
        · exact absurd ((ids_perm pc).mem_iff.2 (List.mem_map.2 ⟨xd, hxL, hx0i⟩)) hni
        go_wp2_with fail
        have s1 : (xd :: yc).Perm ((mid, id) :: L) := set_swap hp2 pc hnd hxL (hx0i.trans hpk2.symm) hpc
        have hmem1 : (mid, id) ∈ yc := hpc.mem_iff.2 (by rw [List.mem_iff_getElem]; exact ⟨p2, by simpa using hp2, by simp⟩)
        have hndc : (ids yc).Nodup := by
          obtain ⟨F, h⟩ := t12
          exact h.qi.nodup
        refine (tq_change t12 hid hkey).mono ?_
        rintro e w13 (⟨hni, _⟩ | ⟨p3, hp3, hpk3, rfl, zc, t13, hpd⟩)
        · exact absurd (List.mem_map.2 ⟨(mid, id), hmem1, rfl⟩) hni
        have s2 : ((mid, id) :: zc).Perm ((key, id) :: yc) := set_swap hp3 (List.Perm.refl _) hndc hmem1 hpk3.symm hpd
        have s3 : (xd :: zc).Perm ((key, id) :: L) := by
          have e1 : ((mid, id) :: xd :: zc).Perm ((mid, id) :: (key, id) :: L) :=
            (((List.Perm.swap xd (mid, id) zc).trans (s2.cons xd)).trans (List.Perm.swap (key, id) xd yc)).trans ((s1.cons (key, id)).trans (List.Perm.swap (mid, id) (key, id) L))
          exact e1.cons_inv
        have s4 : (xd :: ya).Perm ((key, id) :: L) := set_swap hp pa hnd hxL (hx0i.trans hpk.symm) hpa
        have s5 : (xd :: zb).Perm ((key, id) :: L) := by
          have e1 : (xd :: zb).Perm (xd :: (key, id) :: yb) := (hzb.trans (List.perm_append_singleton _ _)).cons xd
          exact (e1.trans (List.Perm.swap (key, id) xd yb)).trans ((hpb.trans pb).cons (key, id))
        have pab : ya.Perm zb := (s4.trans s5.symm).cons_inv
        have pac : ya.Perm zc := (s4.trans s3.symm).cons_inv
        have hya : (key, id) ∈ ya := hpa.mem_iff.2 (by rw [List.mem_iff_getElem]; exact ⟨p, by simpa using hp, by simp⟩)
        have hlya : ya.length = L.length := by have := s4.length_eq; simpa using this
        have HLY : Hid (ya.length = L.length) := hlya
        have t14 := t13.rot
        clear s1 s2 s3 s4 s5 hpa hpb hpc hpd hzb hlya t8 t9 t10 t11 t12 t13 il8
        go_wp2_with fail
        refine (num_any _ _).mono ?_
        rintro e w14 ⟨rfl, rfl⟩
        go_wp2_with fail
        refine (num_any _ _).mono ?_
        rintro e w14 ⟨rfl, rfl⟩
        go_wp2_with fail
        refine (num_any _ _).mono ?_
        rintro e w14 ⟨rfl, rfl⟩
        go_wp2_with fail
        refine (num_any _ _).mono ?_
        rintro e w14 ⟨rfl, rfl⟩
        go_wp2_with fail
        have hnda : (ids ya).Nodup := by
          obtain ⟨F, h⟩ := t14
          exact h.qi.nodup
        refine (tq_key t14 hid).mono ?_
        rintro e w15 ⟨rfl, (⟨hni, _⟩ | ⟨x2, hx2, hx2i, rfl⟩)⟩
        · exact absurd (List.mem_map.2 ⟨(key, id), hya, rfl⟩) hni
        have ex2 : x2 = (key, id) := same_of_id hnda hx2 hya hx2i
        subst ex2
        go_wp2_with fail
        refine (num_any _ _).mono ?_
        rintro e w16 ⟨rfl, rfl⟩
        go_wp2_with fail
        go_loopw [21] (fun kv wr => ∃ (k : Nat) (ua ub uc : List It), k ≤ L.length ∧ kv = .int .i64 k ∧ TQ w wr (some (qa, ua)) (some (qb, ub)) (some (qc, uc)) (.slice av L.length cv) L ∧ ua.Perm ub ∧ ua.Perm uc ∧ ua.length + k = L.length) (fun kv _ => L.length - (intOf kv).toNat)
        case atStart => exact ⟨0, ya, zb, zc, Nat.zero_le _, rfl, t14, pab, pac, HLY.out⟩
        case round =>
          obtain ⟨k, ua, ub, uc, hkl, rfl, tr, pub, puc, hul⟩ := hrel
          have HUL : Hid (ua.length + k = L.length) := hul
          clear hul
          by_cases hlt : k < L.length
          · have hkI : (k : Int) < (L.length : Int) := by omega
            go_wp2_with fail
            refine (tqr_take tr.tqr (by have := HUL.out; omega)).mono ?_
            rintro e v1 ⟨x, va, rfl, r1, px, lx, _⟩
            have r1a := (r1.alloc (.cells #[.int .i64 x.1, .int .i64 x.2] 32)).rot
            have x0c : (v1.alloc (.cells #[.int .i64 x.1, .int .i64 x.2] 32)).cell? ⟨v1.heap.size, 0, none⟩ = some (.int .i64 x.1) := by simp
            have x1c : (v1.alloc (.cells #[.int .i64 x.1, .int .i64 x.2] 32)).cell? ⟨v1.heap.size, 1, none⟩ = some (.int .i64 x.2) := by simp
            go_wp2_with fail
            refine (tqr_take r1a (by rw [← pub.length_eq]; have := HUL.out; omega)).mono ?_
            rintro e v2 ⟨y, vb, rfl, r2, py, ly, hc2⟩
            have exy : x = y := least_same pub (px.mem_iff.1 (by simp)) (py.mem_iff.1 (by simp)) lx ly
            subst exy
            have x0d := hc2 0 _ _ (by simp) x0c
            have x1d := hc2 1 _ _ (by simp) x1c
            have r2a := (r2.alloc (.cells #[.int .i64 x.1, .int .i64 x.2] 32)).rot
            have KA2 : Keeps (fun _ => False) v2 (v2.alloc (.cells #[.int .i64 x.1, .int .i64 x.2] 32)) := (Keeps.refl _ v2).alloc _
            have x0e := KA2.cell x0d (fun e => e)
            have x1e := KA2.cell x1d (fun e => e)
            have y0c : (v2.alloc (.cells #[.int .i64 x.1, .int .i64 x.2] 32)).cell? ⟨v2.heap.size, 0, none⟩ = some (.int .i64 x.1) := by simp
            have y1c : (v2.alloc (.cells #[.int .i64 x.1, .int .i64 x.2] 32)).cell? ⟨v2.heap.size, 1, none⟩ = some (.int .i64 x.2) := by simp
            clear x0c x1c x0d x1d hc2
            go_wp2_with fail
            refine (tqr_take r2a (by rw [← puc.length_eq]; have := HUL.out; omega)).mono ?_
            rintro e v3 ⟨z, vc, rfl, r3, pz, lz, hc3⟩
            have exz : x = z := least_same puc (px.mem_iff.1 (by simp)) (pz.mem_iff.1 (by simp)) lx lz
            subst exz
            have x0f := hc3 0 _ _ (by simp) x0e
            have x1f := hc3 1 _ _ (by simp) x1e
            have y0f := hc3 0 _ _ (by simp) y0c
            have y1f := hc3 1 _ _ (by simp) y1c
            have KA3 : Keeps (fun _ => False) v3 (v3.alloc (.cells #[.int .i64 x.1, .int .i64 x.2] 32)) := (Keeps.refl _ v3).alloc _
            have x0g := KA3.cell x0f (fun e => e)
            have x1g := KA3.cell x1f (fun e => e)
            have y0g := KA3.cell y0f (fun e => e)
            have y1g := KA3.cell y1f (fun e => e)
            have t9 := (r3.alloc (.cells #[.int .i64 x.1, .int .i64 x.2] 32)).rot.tq
            clear x0e x1e y0c y1c x0f x1f y0f y1f hc3
            go_wp2_with fail
            refine (num_any _ _).mono ?_
            rintro e v4 ⟨rfl, rfl⟩
            go_wp2_with fail
            refine (num_any _ _).mono ?_
            rintro e v4 ⟨rfl, rfl⟩
            go_wp2_with fail
            refine (num_any _ _).mono ?_
            rintro e v4 ⟨rfl, rfl⟩
            go_wp2_with fail
            go_roundw
            case rel =>
              refine ⟨k + 1, va, vb, vc, by omega, by go_num, t9, ?_, ?_, ?_⟩
              · exact ((px.trans pub).trans py.symm).cons_inv
              · exact ((px.trans puc).trans pz.symm).cons_inv
              · have := px.length_eq; have := HUL.out; simp at *; omega
            case measure => simp [intOf]; omega
          · have hkI : ¬ (k : Int) < (L.length : Int) := by omega
            go_wp2
            go_ret
            exact ⟨rfl, tr.keeps.below (Nat.le_refl _) (fun _ _ e => e)⟩

end Go.Proofs.Ytkebpelpjkgdkab
